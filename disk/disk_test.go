package disk_test

import (
	"bytes"
	"errors"
	"math"
	"math/rand/v2"
	"slices"
	"testing"

	"trivet/api"
	"trivet/disk"
)

const size = api.BlockSize

// model is a disk as the words of the chapter say it, byte by byte: what was written last, what
// stands, and in which blocks something was written.
type model struct {
	last, stands []byte
	written      []bool
}

func newModel(blocks int) *model {
	return &model{make([]byte, 64*blocks), make([]byte, 64*blocks), make([]bool, blocks)}
}

func (m *model) write(at int, b []byte) {
	for i, v := range b {
		m.last[at+i] = v
		m.written[(at+i)/64] = true
	}
}

func (m *model) sync() {
	m.stands = slices.Clone(m.last)
	m.written = make([]bool, len(m.written))
}

func (m *model) crash(picks []int) {
	next := 0
	for place, written := range m.written {
		if !written {
			continue
		}
		for i := range 64 {
			if next >= len(picks) || i >= picks[next] {
				m.last[64*place+i] = m.stands[64*place+i]
			}
		}
		next++
	}
	m.sync()
}

func (m *model) dirty() int {
	n := 0
	for _, written := range m.written {
		if written {
			n++
		}
	}
	return n
}

// made is a new disk.
func made(t *testing.T, blocks int) *disk.Disk {
	t.Helper()
	d, err := disk.New(blocks)
	if d == nil || err != nil {
		t.Fatalf("New(%d): got %v, %v", blocks, d, err)
	}
	return d
}

// write is one that may be.
func write(t *testing.T, d *disk.Disk, at int, b ...byte) {
	t.Helper()
	if err := d.Write(at, b); err != nil {
		t.Fatalf("Write(%d, % x): got %v", at, b, err)
	}
}

// whole is all that is read.
func whole(t *testing.T, d *disk.Disk) []byte {
	t.Helper()
	b, err := d.Read(0, d.Size())
	if err != nil || len(b) != d.Size() {
		t.Fatalf("Read(0, %d): got %d bytes, %v", d.Size(), len(b), err)
	}
	return b
}

// check asks for some bytes, and for how many blocks were written.
func check(t *testing.T, d *disk.Disk, at int, want []byte, dirty int) {
	t.Helper()
	b, err := d.Read(at, len(want))
	if !bytes.Equal(b, want) || err != nil || d.Dirty() != dirty {
		t.Errorf("Read(%d, %d): got % x, %v, %d dirty; want % x, %d dirty", at, len(want), b, err, d.Dirty(), want, dirty)
	}
}

// checkAll holds all that can be seen against the model.
func checkAll(t *testing.T, d *disk.Disk, m *model) {
	t.Helper()
	if d.Size() != len(m.last) {
		t.Fatalf("Size: got %d, want %d", d.Size(), len(m.last))
	}
	check(t, d, 0, m.last, m.dirty())
}

// fill is n bytes, all of them b.
func fill(b byte, n int) []byte { return bytes.Repeat([]byte{b}, n) }

// anyBytes are n of them.
func anyBytes(r *rand.Rand, n int) []byte {
	b := make([]byte, n)
	for i := range b {
		b[i] = byte(r.IntN(256))
	}
	return b
}

// anyPicks are about as many as are asked for: a few of them just outside, or far.
func anyPicks(r *rand.Rand, n int) []int {
	var l []int
	for range r.IntN(n + 3) {
		switch r.IntN(8) {
		case 0:
			l = append(l, []int{math.MinInt, -1, 0, 63, 64, 65, math.MaxInt}[r.IntN(7)])
		default:
			l = append(l, r.IntN(65))
		}
	}
	return l
}

// P7.2, P7.3: the chapter's example.
func TestExample(t *testing.T) {
	d := made(t, 1)
	write(t, d, 0, 7, 8)
	d.Crash([]int{1})
	check(t, d, 0, []byte{7, 0}, 0)
}

// P7.1: as many blocks as may be, all 0, and none written.
func TestNew(t *testing.T) {
	for _, blocks := range []int{1, 2, 3, 63, 64, 65, api.MaxBlocks - 1, api.MaxBlocks} {
		d := made(t, blocks)
		if d.Size() != 64*blocks {
			t.Errorf("New(%d): Size is %d", blocks, d.Size())
		}
		check(t, d, 0, make([]byte, 64*blocks), 0)
	}
}

// P7.1: fewer and more.
func TestNewWrong(t *testing.T) {
	for _, blocks := range []int{
		0, -1, -64, api.MaxBlocks + 1, api.MaxBlocks * size, math.MinInt, math.MinInt32, math.MaxInt32, math.MaxInt,
		math.MaxInt/size + 1, 2*(math.MaxInt/size+1) + 1, math.MinInt + 1,
	} {
		if d, err := disk.New(blocks); d != nil || err != api.ErrArg {
			t.Errorf("New(%d): got %v, %v", blocks, d, err)
		}
	}
}

// P7.1: each block that was written counts once, also where it holds the same as before, up to the next sync or crash.
func TestDirty(t *testing.T) {
	for _, end := range []func(d *disk.Disk){
		func(d *disk.Disk) { d.Sync() },
		func(d *disk.Disk) { d.Crash(nil) },
		func(d *disk.Disk) { d.Crash([]int{64, 64}) },
	} {
		d := made(t, 4)
		for range 2 {
			for _, x := range []struct{ at, n, dirty int }{
				{130, 1, 1}, {130, 1, 1}, {128, 64, 1}, {191, 1, 1}, {63, 1, 2}, {0, 1, 2}, {63, 2, 3}, {127, 2, 3}, {255, 1, 4}, {0, 256, 4},
			} {
				write(t, d, x.at, make([]byte, x.n)...)
				if d.Dirty() != x.dirty {
					t.Errorf("Write(%d, %d bytes): got %d dirty, want %d", x.at, x.n, d.Dirty(), x.dirty)
				}
				whole(t, d)
			}
			if end(d); d.Dirty() != 0 {
				t.Errorf("got %d dirty", d.Dirty())
			}
		}
	}
}

// P7.2: any number of bytes from any place on, where all of them are there; nothing else changes.
func TestWriteAndRead(t *testing.T) {
	const blocks = 3
	for at := range blocks*size + 1 {
		for n := range blocks*size - at + 1 {
			d, m := made(t, blocks), newModel(blocks)
			b := fill(byte(at+n)|1, n)
			write(t, d, at, b...)
			m.write(at, b)
			checkAll(t, d, m)
			check(t, d, at, b, m.dirty())
		}
	}
}

// P7.2: what is read are just the bytes from there on.
func TestReadAt(t *testing.T) {
	d := made(t, 2)
	b := make([]byte, d.Size())
	for i := range b {
		b[i] = byte(i + 1)
	}
	write(t, d, 0, b...)
	for at := range len(b) + 1 {
		for n := range len(b) - at + 1 {
			check(t, d, at, b[at:at+n], 2)
		}
	}
}

// P7.2: no bytes may be written at all places, the end, too, and no block is.
func TestWriteNothing(t *testing.T) {
	d := made(t, 2)
	for at := range d.Size() + 1 {
		for _, b := range [][]byte{nil, {}} {
			if err := d.Write(at, b); err != nil || d.Dirty() != 0 {
				t.Errorf("Write(%d, nothing): got %v, %d dirty", at, err, d.Dirty())
			}
		}
		check(t, d, at, nil, 0)
	}
}

// P7.2: places and numbers of bytes just outside and far from it: nothing is done.
func TestWrong(t *testing.T) {
	d, m := made(t, 2), newModel(2)
	write(t, d, 3, 1, 2, 3)
	m.write(3, []byte{1, 2, 3})
	for _, x := range []struct{ at, n int }{
		{-1, 0}, {-1, 1}, {-1, 2}, {-64, 64}, {129, 0}, {129, 1}, {192, 1}, {128, 1}, {127, 2}, {0, 129}, {64, 65}, {1, 128}, {63, 66}, {0, 1 << 16},
		{math.MinInt, 0}, {math.MinInt, 1}, {math.MaxInt, 0}, {math.MaxInt, 1}, {math.MaxInt, 2}, {math.MinInt32, 1}, {math.MaxInt32, 1}, {math.MinInt, 129},
	} {
		if err := d.Write(x.at, fill(9, x.n)); err != api.ErrArg {
			t.Errorf("Write(%d, %d bytes): got %v", x.at, x.n, err)
		}
		if b, err := d.Read(x.at, x.n); len(b) != 0 || err != api.ErrArg {
			t.Errorf("Read(%d, %d): got % x, %v", x.at, x.n, b, err)
		}
		checkAll(t, d, m)
	}
	for _, at := range []int{math.MinInt, -1, 0, 1, 64, 127, 128, 129, math.MaxInt} {
		for _, n := range []int{math.MinInt, math.MinInt + 1, -129, -128, -64, -1, 129, 1 << 20, math.MaxInt - 128, math.MaxInt - 1, math.MaxInt} {
			if b, err := d.Read(at, n); len(b) != 0 || err != api.ErrArg {
				t.Errorf("Read(%d, %d): got %d bytes, %v", at, n, len(b), err)
			}
		}
	}
	checkAll(t, d, m)
}

// P7.2, P7.3: what was refused isn't there behind a crash, or a sync, either.
func TestWrongLeavesNothing(t *testing.T) {
	d := made(t, 2)
	write(t, d, 0, fill(5, 128)...)
	d.Sync()
	for _, at := range []int{-1, 1, 64, 127, 128, 129} {
		if err := d.Write(at, fill(9, 128)); err != api.ErrArg {
			t.Errorf("Write(%d): got %v", at, err)
		}
	}
	d.Crash([]int{64, 64})
	check(t, d, 0, fill(5, 128), 0)
}

// P7.3: of a block all picks, just outside and far from it, too, whatever stood.
func TestPicks(t *testing.T) {
	picks := []int{math.MinInt, math.MinInt32, -65, -64, 65, 66, 128, 1000, math.MaxInt32, math.MaxInt}
	for pick := -2; pick <= 66; pick++ {
		picks = append(picks, pick)
	}
	for _, pick := range picks {
		for place := range 3 {
			d := made(t, 3)
			write(t, d, 0, fill(1, 192)...)
			d.Sync()
			write(t, d, 64*place, fill(2, 64)...)
			d.Crash([]int{pick})
			kept := min(max(pick, 0), 64)
			want := fill(1, 192)
			copy(want[64*place:], fill(2, kept))
			check(t, d, 0, want, 0)
		}
	}
}

// P7.3: a pick counts from the block's beginning, not from the first byte that was written.
func TestPickFromTheBlocksBeginning(t *testing.T) {
	for pick, want := range map[int][]byte{0: {0, 0, 0}, 10: {0, 0, 0}, 11: {7, 0, 0}, 12: {7, 8, 0}, 13: {7, 8, 9}, 64: {7, 8, 9}} {
		d := made(t, 2)
		write(t, d, 74, 7, 8, 9)
		d.Crash([]int{pick})
		check(t, d, 74, want, 0)
	}
}

// P7.3: picks go by rising places, in whatever order was written; blocks that weren't written take none.
func TestPicksByRisingPlaces(t *testing.T) {
	const blocks = 40
	r := rand.New(rand.NewPCG(7, 1))
	for range 200 {
		d := made(t, blocks)
		places := r.Perm(blocks)[:1+r.IntN(blocks)]
		for _, place := range places {
			write(t, d, 64*place, fill(byte(place+1), 64)...)
		}
		slices.Sort(places)
		picks := make([]int, len(places))
		want := make([]byte, 64*blocks)
		for i, place := range places {
			picks[i] = r.IntN(65)
			copy(want[64*place:], fill(byte(place+1), picks[i]))
		}
		d.Crash(picks)
		check(t, d, 0, want, 0)
	}
}

// P7.3: with fewer picks than blocks the last ones keep nothing; what is too many is passed by.
func TestFewerAndMorePicks(t *testing.T) {
	for many := range 6 {
		for _, picks := range [][]int{slices.Repeat([]int{64}, many), append(make([]int, 0, 9), slices.Repeat([]int{64}, many)...)} {
			d := made(t, 5)
			for place := 4; place >= 2; place-- {
				write(t, d, 64*place, fill(3, 64)...)
			}
			d.Crash(picks)
			want := make([]byte, 320)
			copy(want[128:], fill(3, 64*min(many, 3)))
			check(t, d, 0, want, 0)
		}
	}
	d := made(t, 2)
	d.Crash([]int{64, 64, 64})
	d.Crash(nil)
	check(t, d, 0, make([]byte, 128), 0)
}

// P7.3: kept is what was written last; the others are what stood, not what was written in between.
func TestWrittenLast(t *testing.T) {
	d := made(t, 1)
	write(t, d, 0, 1, 1, 1, 1)
	d.Sync()
	write(t, d, 0, 2, 2, 2, 2)
	write(t, d, 1, 3, 3)
	check(t, d, 0, []byte{2, 3, 3, 2, 0}, 1)
	d.Crash([]int{2})
	check(t, d, 0, []byte{2, 3, 1, 1, 0}, 0)
}

// P7.3: behind a crash all that is there stands: one more takes nothing, and one behind further
// writes goes back to there.
func TestBehindACrashAllStands(t *testing.T) {
	d := made(t, 2)
	write(t, d, 62, 1, 2, 3, 4)
	d.Crash([]int{63, 64})
	d.Crash(nil)
	check(t, d, 62, []byte{1, 0, 3, 4}, 0)
	write(t, d, 62, 5, 6, 7, 8)
	d.Crash([]int{0, 1})
	check(t, d, 62, []byte{1, 0, 7, 4}, 0)
	d.Crash([]int{0, 0})
	check(t, d, 62, []byte{1, 0, 7, 4}, 0)
}

// P7.3: what was synced is no more at stake; a block that is written again is, all of it.
func TestSync(t *testing.T) {
	d := made(t, 3)
	write(t, d, 60, 1, 2, 3, 4, 5, 6)
	d.Sync()
	check(t, d, 60, []byte{1, 2, 3, 4, 5, 6}, 0)
	d.Sync()
	write(t, d, 65, 9, 9)
	write(t, d, 128, 9)
	d.Crash(nil)
	check(t, d, 60, []byte{1, 2, 3, 4, 5, 6, 0}, 0)
	check(t, d, 128, []byte{0}, 0)
}

// P7.1 to P7.3: whatever is done, one call behind the other, held against the model.
func TestAny(t *testing.T) {
	for seed := range uint64(60) {
		r := rand.New(rand.NewPCG(7, seed))
		blocks := 1 + r.IntN([]int{1, 3, 8, 40, api.MaxBlocks}[seed%5])
		d, m := made(t, blocks), newModel(blocks)
		for range 200 {
			switch r.IntN(10) {
			case 0:
				d.Sync()
				m.sync()
			case 1:
				picks := anyPicks(r, m.dirty())
				d.Crash(picks)
				m.crash(picks)
			default:
				at := r.IntN(64*blocks + 1)
				b := anyBytes(r, r.IntN(min(64*blocks-at, 200)+1))
				write(t, d, at, b...)
				m.write(at, b)
			}
			checkAll(t, d, m)
		}
	}
}

// P7.1, P7.3: all blocks of the greatest disk.
func TestGreatestDisk(t *testing.T) {
	d, m := made(t, api.MaxBlocks), newModel(api.MaxBlocks)
	r := rand.New(rand.NewPCG(7, 2))
	for _, picks := range [][]int{slices.Repeat([]int{64}, api.MaxBlocks), anyPicks(r, api.MaxBlocks), nil} {
		b := anyBytes(r, d.Size())
		write(t, d, 0, b...)
		m.write(0, b)
		if d.Dirty() != api.MaxBlocks {
			t.Errorf("got %d dirty", d.Dirty())
		}
		d.Crash(picks)
		m.crash(picks)
		checkAll(t, d, m)
	}
}

// P7.4: neither the bytes nor the picks are changed, not even in the room behind them, nor kept.
func TestWhatIsHandedInStays(t *testing.T) {
	d := made(t, 2)
	b := []byte{1, 2, 3, 4, 5, 6, 7}
	write(t, d, 62, b[:4]...)
	if err := d.Write(62, b[:4]); err != nil || !bytes.Equal(b, []byte{1, 2, 3, 4, 5, 6, 7}) {
		t.Errorf("Write left % x, %v", b, err)
	}
	copy(b, fill(99, len(b)))
	check(t, d, 62, []byte{1, 2, 3, 4}, 2)
	picks := []int{99, -5, 7, -8}
	d.Crash(picks[:2])
	if !slices.Equal(picks, []int{99, -5, 7, -8}) {
		t.Errorf("Crash left %v", picks)
	}
	copy(picks, []int{0, 64, 64, 64})
	check(t, d, 62, []byte{1, 2, 0, 0}, 0)
	// A whole disk's bytes, too, which could be taken as they are.
	all := fill(6, 128)
	if err := d.Write(0, all); err != nil {
		t.Fatal(err)
	}
	copy(all, fill(99, 128))
	check(t, d, 0, fill(6, 128), 2)
	d.Sync()
	copy(all, fill(98, 128))
	d.Crash(nil)
	check(t, d, 0, fill(6, 128), 0)
}

// P7.4: what is read is nobody else's: not the disk's, not that of another answer.
func TestAnswersAreNewMemory(t *testing.T) {
	d := made(t, 2)
	write(t, d, 0, fill(4, 128)...)
	d.Sync()
	write(t, d, 0, fill(5, 100)...)
	b, other := whole(t, d), whole(t, d)
	want := append(fill(5, 100), fill(4, 28)...)
	copy(b, fill(99, 128))
	part, err := d.Read(10, 20)
	_ = append(part, 77)
	if err != nil || !bytes.Equal(other, want) {
		t.Errorf("Read's bytes hang on others: % x, %v", other, err)
	}
	check(t, d, 0, want, 2)
	// What was read stays as it was, whatever is done to the disk.
	write(t, d, 0, fill(8, 128)...)
	d.Crash(nil)
	check(t, d, 0, fill(4, 128), 0)
	if !bytes.Equal(other, want) {
		t.Errorf("Read's bytes hang on the disk: % x", other)
	}
}

// P7.4: disks are apart from each other.
func TestDisksAreApart(t *testing.T) {
	d, e := made(t, 2), made(t, 2)
	write(t, d, 0, 1, 2, 3)
	check(t, e, 0, []byte{0, 0, 0}, 0)
	e.Sync()
	write(t, e, 100, 4)
	e.Crash([]int{64})
	check(t, d, 0, []byte{1, 2, 3}, 1)
	d.Crash(nil)
	check(t, d, 0, make([]byte, 128), 0)
	check(t, e, 100, []byte{4}, 0)
}

// P7.5: what was synced is there behind every crash, where nothing was written over it; and each
// byte is what was written last, or what stood.
func TestSyncedIsThere(t *testing.T) {
	r := rand.New(rand.NewPCG(7, 3))
	for range 500 {
		d := made(t, 4)
		write(t, d, 0, anyBytes(r, 256)...)
		d.Sync()
		stood := whole(t, d)
		d.Crash(anyPicks(r, 4))
		check(t, d, 0, stood, 0)
		for range r.IntN(4) {
			at := r.IntN(256)
			write(t, d, at, anyBytes(r, r.IntN(min(256-at, 80)+1))...)
		}
		last := whole(t, d)
		d.Crash(anyPicks(r, d.Dirty()))
		for i, v := range whole(t, d) {
			if v != stood[i] && v != last[i] {
				t.Errorf("byte %d: got %d, stood %d, last %d", i, v, stood[i], last[i])
			}
		}
	}
}

// P7.5: a crash of all picks of 64 is a sync.
func TestACrashOfAllIsASync(t *testing.T) {
	r := rand.New(rand.NewPCG(7, 4))
	for range 100 {
		blocks := 1 + r.IntN(9)
		d, e := made(t, blocks), made(t, blocks)
		for range 20 {
			at := r.IntN(64 * blocks)
			b := anyBytes(r, r.IntN(64*blocks-at+1))
			write(t, d, at, b...)
			write(t, e, at, b...)
			if r.IntN(3) == 0 {
				d.Crash(slices.Repeat([]int{64}, d.Dirty()+r.IntN(2)))
				e.Sync()
			}
			check(t, d, 0, whole(t, e), e.Dirty())
			if r.IntN(6) == 0 {
				picks := anyPicks(r, d.Dirty())
				d.Crash(picks)
				e.Crash(picks)
			}
			check(t, d, 0, whole(t, e), e.Dirty())
		}
	}
}

// Errors are found by errors.Is, as all of the program's are.
func TestErrorsAreFound(t *testing.T) {
	_, none := disk.New(0)
	d := made(t, 1)
	_, read := d.Read(64, 1)
	for _, err := range []error{none, d.Write(64, []byte{1}), read} {
		if !errors.Is(err, api.ErrArg) {
			t.Errorf("got %v", err)
		}
	}
}
