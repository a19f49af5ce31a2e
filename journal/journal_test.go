package journal_test

import (
	"bytes"
	"errors"
	"math"
	"math/rand/v2"
	"slices"
	"testing"

	"trivet/api"
	"trivet/disk"
	"trivet/journal"
)

const headSize = 8

// headOf is the head of n bytes as the chapter says it, byte by byte.
func headOf(n uint32) []byte {
	low := []byte{byte(n), byte(n >> 8), byte(n >> 16), byte(n >> 24)}
	return append(low, 255-low[0], 255-low[1], 255-low[2], 255-low[3])
}

// image is what records come to, one behind the other.
func image(l ...[]byte) []byte {
	var b []byte
	for _, r := range l {
		b = append(append(b, headOf(uint32(len(r)))...), r...)
	}
	return b
}

// journalOf is the journal that a disk's bytes begin with, and where it ends: each length that
// there is, is tried at each place.
func journalOf(b []byte) ([][]byte, int) {
	var l [][]byte
	at := 0
	for {
		found := 0
		for n := 1; n <= 1024 && at+8+n <= len(b); n++ {
			if bytes.Equal(b[at:at+8], headOf(uint32(n))) {
				found = n
			}
		}
		if found == 0 {
			return l, at
		}
		l = append(l, b[at+8:at+8+found])
		at += 8 + found
	}
}

// freeOf is what Free is of a journal that ends there.
func freeOf(size, end int) int {
	return max(min(size-end-8, 1024), 0)
}

// newDisk is a new disk.
func newDisk(t *testing.T, blocks int) *disk.Disk {
	t.Helper()
	d, err := disk.New(blocks)
	if err != nil {
		t.Fatalf("New(%d): got %v", blocks, err)
	}
	return d
}

// diskOf is one on which some bytes stand, and behind them 0s.
func diskOf(t *testing.T, blocks int, b []byte) *disk.Disk {
	t.Helper()
	d := newDisk(t, blocks)
	write(t, d, 0, b)
	d.Sync()
	return d
}

// write is one that may be.
func write(t *testing.T, d *disk.Disk, at int, b []byte) {
	t.Helper()
	if err := d.Write(at, b); err != nil {
		t.Fatalf("Write(%d, %d bytes): got %v", at, len(b), err)
	}
}

// whole is all that is read.
func whole(t *testing.T, d *disk.Disk) []byte {
	t.Helper()
	b, err := d.Read(0, d.Size())
	if err != nil {
		t.Fatalf("Read(0, %d): got %v", d.Size(), err)
	}
	return b
}

// open opens a disk that there is.
func open(t *testing.T, d *disk.Disk) *journal.Journal {
	t.Helper()
	j, err := journal.Open(d)
	if j == nil || err != nil {
		t.Fatalf("Open: got %v, %v", j, err)
	}
	return j
}

// appendTo appends a record that may be.
func appendTo(t *testing.T, j *journal.Journal, b []byte) {
	t.Helper()
	if err := j.Append(b); err != nil {
		t.Fatalf("Append(%d bytes): got %v", len(b), err)
	}
}

// start starts one that may be.
func start(t *testing.T, j *journal.Journal, b []byte, stage int) {
	t.Helper()
	if err := j.Start(b, stage); err != nil {
		t.Fatalf("Start(%d bytes, %d): got %v", len(b), stage, err)
	}
}

// same tells whether both are the same records.
func same(l, k [][]byte) bool { return slices.EqualFunc(l, k, bytes.Equal) }

// check asks for the records, for how many bytes may be appended, and for the disk's bytes: the
// records, and behind them 0s.
func check(t *testing.T, d *disk.Disk, j *journal.Journal, want ...[]byte) {
	t.Helper()
	if l := j.Records(); !same(l, want) {
		t.Fatalf("Records: got %x, want %x", l, want)
	}
	written := image(want...)
	if got, free := j.Free(), freeOf(d.Size(), len(written)); got != free {
		t.Fatalf("Free: got %d, want %d", got, free)
	}
	checkDisk(t, d, written, 0)
}

// checkDisk asks for the disk's bytes, behind which are 0s, and for how many blocks were written.
func checkDisk(t *testing.T, d *disk.Disk, want []byte, dirty int) {
	t.Helper()
	all := make([]byte, d.Size())
	copy(all, want)
	if b := whole(t, d); !bytes.Equal(b, all) {
		t.Fatalf("the disk has % x, want % x", b, all)
	}
	if d.Dirty() != dirty {
		t.Fatalf("%d blocks were written, want %d", d.Dirty(), dirty)
	}
}

// fill is n bytes, all of them b.
func fill(b byte, n int) []byte { return bytes.Repeat([]byte{b}, n) }

// ghosts are n bytes in which records seem to stand: a head and a byte, again and again.
func ghosts(n int) []byte {
	return bytes.Repeat(image([]byte{5}), n/9+1)[:n]
}

// anyBytes are n of them, of which many are of heads.
func anyBytes(r *rand.Rand, n int) []byte {
	b := make([]byte, n)
	for i := range b {
		switch r.IntN(3) {
		case 0:
			b[i] = []byte{0, 0, 255, 1, 254, 4, 251}[r.IntN(7)]
		default:
			b[i] = byte(r.IntN(256))
		}
	}
	return b
}

// anyPicks are as many as are asked for, or some fewer.
func anyPicks(r *rand.Rand, n int) []int {
	var l []int
	for range n - r.IntN(2)*r.IntN(n+1) {
		l = append(l, []int{0, 64, r.IntN(65), r.IntN(65)}[r.IntN(4)])
	}
	return l
}

// P8.2: the chapter's example.
func TestExample(t *testing.T) {
	d := newDisk(t, 1)
	j := open(t, d)
	appendTo(t, j, []byte{5})
	checkDisk(t, d, []byte{1, 0, 0, 0, 0xfe, 0xff, 0xff, 0xff, 5}, 0)
}

// P8.1: no disk.
func TestOpenNil(t *testing.T) {
	if j, err := journal.Open(nil); j != nil || err != api.ErrArg {
		t.Errorf("got %v, %v", j, err)
	}
}

// P8.1: a new disk has no records, and room for all but a head, up to MaxRecord; it isn't written.
func TestOpenNew(t *testing.T) {
	for _, x := range []struct{ blocks, free int }{
		{1, 56}, {2, 120}, {16, 1016}, {17, 1024}, {18, 1024}, {api.MaxBlocks, 1024},
	} {
		d := newDisk(t, x.blocks)
		j := open(t, d)
		check(t, d, j)
		if j.Free() != x.free {
			t.Errorf("%d blocks: Free is %d, want %d", x.blocks, j.Free(), x.free)
		}
	}
}

// P8.1, P8.2: all lengths, each with its head, and what is free behind it.
func TestAllLengths(t *testing.T) {
	for n := 1; n <= api.MaxRecord; n++ {
		d := newDisk(t, 17)
		j := open(t, d)
		b := fill(byte(n|1), n)
		appendTo(t, j, b)
		check(t, d, j, b)
		d.Crash(nil)
		check(t, d, j, b)
		check(t, d, open(t, d), b)
	}
}

// P8.1, P8.2: records one behind the other, till there is no room: at each place the greatest one
// that may be has Free bytes, and one byte more is too many.
func TestAppendTillFull(t *testing.T) {
	r := rand.New(rand.NewPCG(8, 1))
	for range 100 {
		d := newDisk(t, 1+r.IntN(40))
		j := open(t, d)
		var l [][]byte
		for free := j.Free(); free > 0; free = j.Free() {
			if free < api.MaxRecord {
				if err := j.Append(make([]byte, free+1)); err != api.ErrFull {
					t.Errorf("Append(%d bytes) of %d free: got %v", free+1, free, err)
				}
			}
			b := anyBytes(r, []int{1, free, 1 + r.IntN(free), 1 + r.IntN(min(free, 70))}[r.IntN(4)])
			appendTo(t, j, b)
			l = append(l, b)
			check(t, d, j, l...)
		}
		if err := j.Append([]byte{1}); err != api.ErrFull {
			t.Errorf("Append(1 byte) of none free: got %v", err)
		}
		d.Crash(nil)
		check(t, d, j, l...)
		check(t, d, open(t, d), l...)
	}
}

// P8.1: the last bytes of a disk: up to 8 are no room, 9 are room for one byte.
func TestLastRoom(t *testing.T) {
	for left := range 12 {
		d := newDisk(t, 2)
		j := open(t, d)
		b := fill(7, 120-left)
		appendTo(t, j, b)
		check(t, d, j, b)
		if free := max(left-8, 0); j.Free() != free {
			t.Errorf("%d bytes left: Free is %d, want %d", left, j.Free(), free)
		}
		if err := j.Append([]byte{1}); (err == nil) != (left > 8) || err != nil && err != api.ErrFull {
			t.Errorf("%d bytes left: Append(1 byte): got %v", left, err)
		}
	}
}

// P8.2: a great disk, full of the least records.
func TestManyRecords(t *testing.T) {
	d := newDisk(t, api.MaxBlocks)
	j := open(t, d)
	var l [][]byte
	for i := range api.MaxBlocks * api.BlockSize / 9 {
		b := []byte{byte(i)}
		appendTo(t, j, b)
		l = append(l, b)
	}
	check(t, d, j, l...)
	check(t, d, open(t, d), l...)
}

// wrongs are calls that may not be, of a journal that has room for 10 bytes and isn't spoilt.
func wrongs() []struct {
	n, stage int
	err      error
} {
	return []struct {
		n, stage int
		err      error
	}{
		{0, 1, api.ErrArg}, {0, 9, api.ErrArg}, {1025, 1, api.ErrArg}, {1025, 0, api.ErrArg}, {5000, 3, api.ErrArg},
		{11, 1, api.ErrFull}, {11, 2, api.ErrFull}, {11, 3, api.ErrFull}, {11, 0, api.ErrFull}, {11, 4, api.ErrFull},
		{1024, 1, api.ErrFull}, {1024, 4, api.ErrFull},
		{1, 0, api.ErrArg}, {1, 4, api.ErrArg}, {10, -1, api.ErrArg}, {10, 5, api.ErrArg},
		{10, math.MinInt, api.ErrArg}, {10, math.MaxInt, api.ErrArg}, {1, math.MinInt + 1, api.ErrArg},
	}
}

// P8.2: what may not be appended, or started: the error that is named first, and nothing is done,
// and the journal isn't spoilt.
func TestWrong(t *testing.T) {
	d := newDisk(t, 2)
	j := open(t, d)
	b := fill(3, 102)
	appendTo(t, j, b)
	for _, x := range wrongs() {
		if err := j.Start(make([]byte, x.n), x.stage); err != x.err {
			t.Errorf("Start(%d bytes, %d): got %v, want %v", x.n, x.stage, err, x.err)
		}
		check(t, d, j, b)
		if 1 <= x.n && x.n <= 10 {
			continue // of these the stage alone is wrong
		}
		if err := j.Append(make([]byte, x.n)); err != x.err {
			t.Errorf("Append(%d bytes): got %v, want %v", x.n, err, x.err)
		}
		check(t, d, j, b)
	}
	if j.Append(nil) != api.ErrArg || j.Start(nil, 1) != api.ErrArg {
		t.Error("a record of no bytes")
	}
	appendTo(t, j, make([]byte, 10))
	check(t, d, j, b, make([]byte, 10))
	// Full, and yet first of all no record.
	if err := j.Append(make([]byte, 1025)); err != api.ErrArg {
		t.Errorf("Append(1025 bytes): got %v", err)
	}
	if err := j.Append(nil); err != api.ErrArg {
		t.Errorf("Append(none): got %v", err)
	}
}

// P8.2: more than MaxRecord isn't appended, whatever room there is.
func TestGreatestRecord(t *testing.T) {
	d := newDisk(t, api.MaxBlocks)
	j := open(t, d)
	for _, n := range []int{1025, 1026, 2048, 65528, 65536, 70000} {
		if j.Append(make([]byte, n)) != api.ErrArg || j.Start(make([]byte, n), 1) != api.ErrArg {
			t.Errorf("a record of %d bytes", n)
		}
	}
	check(t, d, j)
	b := fill(1, api.MaxRecord)
	appendTo(t, j, b)
	check(t, d, j, b)
}

// blocksOf is how many blocks n bytes from at on are of.
func blocksOf(at, n int) int { return (at+n-1)/64 - at/64 + 1 }

// P8.2: each stage does so much, and no more: what is read, what was written since the last sync,
// and what stands behind a crash that keeps nothing.
func TestStages(t *testing.T) {
	for before := 1; before <= 130; before++ {
		for _, n := range []int{1, 2, 48, 49, 56, 57, 64, 200, 255, 256} {
			first, b := fill(9, before), ghosts(n)
			end := before + headSize
			body := slices.Concat(image(first), make([]byte, headSize), b)
			for stage, want := range [][]byte{1: body, 2: body, 3: image(first, b)} {
				if stage == 0 {
					continue
				}
				d := newDisk(t, 8)
				j := open(t, d)
				appendTo(t, j, first)
				start(t, j, b, stage)
				dirty := []int{1: blocksOf(end+headSize, n), 2: 0, 3: blocksOf(end, headSize)}[stage]
				stands := [][]byte{1: image(first), 2: body, 3: body}[stage]
				checkDisk(t, d, want, dirty)
				d.Crash(nil)
				checkDisk(t, d, stands, 0)
				check(t, d, open(t, d), first)
			}
		}
	}
}

// P8.2: a spoilt journal appends and starts nothing, whatever it is asked, and nothing is free.
func TestSpoilt(t *testing.T) {
	for stage := 1; stage <= 3; stage++ {
		d := newDisk(t, 20)
		j := open(t, d)
		appendTo(t, j, []byte{1, 2})
		start(t, j, []byte{3, 4, 5}, stage)
		stood, dirty := whole(t, d), d.Dirty()
		for _, n := range []int{0, 1, 3, 1024, 1025, 2000} {
			if err := j.Append(make([]byte, n)); err != api.ErrState {
				t.Errorf("Append(%d bytes): got %v", n, err)
			}
			for _, next := range []int{-1, 0, 1, 2, 3, 4} {
				if err := j.Start(make([]byte, n), next); err != api.ErrState {
					t.Errorf("Start(%d bytes, %d): got %v", n, next, err)
				}
			}
			if j.Free() != 0 {
				t.Errorf("Free: got %d", j.Free())
			}
		}
		checkDisk(t, d, stood, dirty)
		// Not even a crash, or another journal of that disk, makes it good again; which is its own.
		d.Crash(nil)
		k := open(t, d)
		if j.Append([]byte{1}) != api.ErrState || j.Start([]byte{1}, 1) != api.ErrState || j.Free() != 0 {
			t.Error("it isn't spoilt any more")
		}
		appendTo(t, k, []byte{6})
		check(t, d, k, []byte{1, 2}, []byte{6})
	}
}

// P8.1: the records are those that are read on the disk now, also those of a spoilt journal: the
// one that was started is one of them, once its head is written, and till a crash takes it.
func TestRecordsAreThoseOfTheDisk(t *testing.T) {
	first, b := []byte{1, 2}, []byte{3}
	for stage := 1; stage <= 3; stage++ {
		d := newDisk(t, 2)
		j := open(t, d)
		appendTo(t, j, first)
		start(t, j, b, stage)
		want := [][]byte{first}
		if stage == 3 {
			want = append(want, b)
		}
		if l := j.Records(); !same(l, want) {
			t.Errorf("stage %d: got %x, want %x", stage, l, want)
		}
		d.Crash(nil)
		if l := j.Records(); !same(l, [][]byte{first}) {
			t.Errorf("stage %d, and a crash: got %x", stage, l)
		}
	}
	// Two journals of one disk tell, and go on with, the same records.
	d := newDisk(t, 2)
	j, k := open(t, d), open(t, d)
	appendTo(t, j, first)
	check(t, d, k, first)
	appendTo(t, k, b)
	check(t, d, j, first, b)
}

// checkOpen opens a disk that has these bytes, of which the first are the journal, and the others
// go away.
func checkOpen(t *testing.T, blocks int, b []byte, want ...[]byte) {
	t.Helper()
	d := diskOf(t, blocks, b)
	j := open(t, d)
	check(t, d, j, want...)
	d.Crash(nil)
	check(t, d, j, want...)
}

// P8.1: a head is n, of 1 to MaxRecord, and n turned: no bit may be another.
func TestNoHead(t *testing.T) {
	first, b := fill(1, 50), fill(7, 300)
	checkOpen(t, 8, image(first, b), first, b)
	for _, l := range [][][]byte{{}, {first}} {
		at := len(image(l...))
		for bit := range 8 * headSize {
			wrong := image(append(l, b)...)
			wrong[at+bit/8] ^= 1 << (bit % 8)
			checkOpen(t, 8, wrong, l...)
			// A bit of n and its turned one tell another n: what they say of it.
			if bit < 32 {
				wrong[at+4+bit/8] ^= 1 << (bit % 8)
				want, _ := journalOf(append(wrong, make([]byte, 512-len(wrong))...))
				checkOpen(t, 8, wrong, want...)
			}
		}
	}
}

// P8.1: a head tells at least 1 byte, and at most MaxRecord; no byte of it counts less than others.
func TestHeadsThatTellTooMuch(t *testing.T) {
	for _, n := range []uint32{
		0, 1025, 1026, 1280, 2048, 65535, 65536, 65537, 1 << 24, 1<<24 + 1, 1 << 31, 1<<31 + 1, 1<<32 - 1, 1<<31 - 1, 1<<32 - 8,
	} {
		checkOpen(t, api.MaxBlocks, append(headOf(n), fill(1, 5000)...))
		checkOpen(t, api.MaxBlocks, append(append(image([]byte{8}), headOf(n)...), fill(1, 5000)...), []byte{8})
	}
	checkOpen(t, 40, append(headOf(1024), fill(1, 1024)...), fill(1, 1024))
	checkOpen(t, 40, append(headOf(1), 0), []byte{0})
}

// P8.1: all of a record's bytes have room behind its head, and its head has room itself.
func TestNoRoomBehind(t *testing.T) {
	for left := range 40 {
		first := fill(2, 120-left)
		for n := 1; n <= 45; n++ {
			b := slices.Concat(image(first), headOf(uint32(n)), fill(4, n))
			if n <= left-headSize {
				checkOpen(t, 2, b, first, fill(4, n))
			} else {
				checkOpen(t, 2, b[:min(len(b), 128)], first)
			}
		}
	}
}

// P8.1: behind the first place at which no record stands none does, and a single byte that isn't
// 0 is enough to let all be 0s, and to sync them.
func TestOpenCleans(t *testing.T) {
	first := []byte{1, 2, 3}
	checkOpen(t, 3, slices.Concat(image(first), []byte{0}, image(first, first)), first)
	checkOpen(t, 3, slices.Concat([]byte{0}, image(first, first)))
	checkOpen(t, 3, slices.Concat(image(first), headOf(0), image(first)), first)
	for _, l := range [][][]byte{{}, {first}} {
		end := len(image(l...))
		for at := end; at < 128; at++ {
			for _, v := range []byte{1, 128, 255} {
				b := make([]byte, 128)
				copy(b, image(l...))
				b[at] = v
				checkOpen(t, 2, b, l...)
			}
		}
	}
}

// P8.1: a disk behind whose journal all is 0 isn't written, nor synced; another one is synced all.
func TestOpenSyncsOnlyWhatItCleans(t *testing.T) {
	d := newDisk(t, 4)
	write(t, d, 0, image([]byte{1}))
	write(t, d, 100, make([]byte, 40))
	j := open(t, d)
	if d.Dirty() != 3 || !same(j.Records(), [][]byte{{1}}) {
		t.Errorf("%d blocks were written, records %x", d.Dirty(), j.Records())
	}
	d.Crash(nil)
	checkDisk(t, d, nil, 0)
	write(t, d, 0, image([]byte{1}))
	write(t, d, 255, []byte{1})
	check(t, d, open(t, d), []byte{1})
	d.Crash(nil)
	check(t, d, open(t, d), []byte{1})
}

// P8.1, P8.4: any bytes: the journal is what the words say, all behind it is 0, and opened twice
// it is as opened once.
func TestOpenAnyDisk(t *testing.T) {
	r := rand.New(rand.NewPCG(8, 2))
	for range 3000 {
		size := 64 * (1 + r.IntN(20))
		var b []byte
		for range r.IntN(6) {
			b = append(b, image(anyBytes(r, 1+r.IntN(1+r.IntN(300))))...)
		}
		b = append(b, anyBytes(r, r.IntN(1+r.IntN(200)))...)
		if len(b) > 0 && r.IntN(2) == 0 {
			b[r.IntN(len(b))] ^= 1 << r.IntN(8)
		}
		b = append(b, make([]byte, size)...)[:size]
		want, _ := journalOf(b)
		d := diskOf(t, size/64, b)
		check(t, d, open(t, d), want...)
		j := open(t, d)
		check(t, d, j, want...)
		if j.Free() > 0 {
			more := anyBytes(r, 1+r.IntN(j.Free()))
			appendTo(t, j, more)
			check(t, d, j, append(want, more)...)
		}
	}
}

// P8.3: what is handed in is neither changed, not even in the room behind it, nor kept.
func TestWhatIsHandedInStays(t *testing.T) {
	d := newDisk(t, 4)
	j := open(t, d)
	b := []byte{1, 2, 3, 4, 5, 6, 7}
	appendTo(t, j, b[:3])
	if !bytes.Equal(b, []byte{1, 2, 3, 4, 5, 6, 7}) {
		t.Errorf("Append left % x", b)
	}
	copy(b, fill(99, 7))
	check(t, d, j, []byte{1, 2, 3})
	b = []byte{1, 2, 3, 4, 5, 6, 7}
	start(t, j, b[:4], 3)
	if !bytes.Equal(b, []byte{1, 2, 3, 4, 5, 6, 7}) {
		t.Errorf("Start left % x", b)
	}
	copy(b, fill(99, 7))
	d.Sync()
	check(t, d, open(t, d), []byte{1, 2, 3}, []byte{1, 2, 3, 4})
}

// P8.3: what is told is nobody else's: not the journal's, not that of another answer, and no
// record of an answer is in the memory behind another one.
func TestAnswersAreNewMemory(t *testing.T) {
	d := newDisk(t, 4)
	j := open(t, d)
	want := [][]byte{{1, 2, 3}, {4}, {5, 6}}
	for _, b := range want {
		appendTo(t, j, b)
	}
	l, other := j.Records(), j.Records()
	for i := range l {
		_ = append(l[i], fill(88, 30)...)
	}
	if !same(l, want) {
		t.Errorf("the records share memory: %x", l)
	}
	for i := range l {
		for k := range l[i][:cap(l[i])] {
			l[i][:cap(l[i])][k] = 77
		}
		l[i] = nil
	}
	if !same(other, want) {
		t.Errorf("Records hangs on another answer: %x", other)
	}
	check(t, d, j, want...)
	// What was told stays as it was, whatever is done to the disk.
	write(t, d, 0, fill(9, 256))
	if !same(other, want) {
		t.Errorf("Records hangs on the disk: %x", other)
	}
}

// P8.3: journals of two disks are apart from each other.
func TestJournalsAreApart(t *testing.T) {
	d, e := newDisk(t, 2), newDisk(t, 2)
	j, k := open(t, d), open(t, e)
	appendTo(t, j, []byte{1})
	check(t, e, k)
	start(t, k, []byte{2}, 3)
	appendTo(t, j, []byte{3})
	check(t, d, j, []byte{1}, []byte{3})
}

// checkCrash starts a record up to a stage, behind others that were appended, lets the disk crash,
// and opens it: all the others are there, and, if the record is, it is whole.
func checkCrash(t *testing.T, blocks int, l [][]byte, b []byte, stage int, picks []int) bool {
	t.Helper()
	d := newDisk(t, blocks)
	j := open(t, d)
	for _, r := range l {
		appendTo(t, j, r)
	}
	start(t, j, b, stage)
	d.Crash(picks)
	kept, _ := journalOf(whole(t, d))
	there := len(kept) > len(l)
	want := l
	if there {
		want = append(slices.Clone(l), b)
	}
	j = open(t, d)
	check(t, d, j, want...)
	// Opened twice it is as opened once, and what is appended then is all that is there besides.
	j = open(t, d)
	check(t, d, j, want...)
	for _, n := range []int{1, 9, 18, len(b)} {
		if n <= j.Free() {
			want = append(slices.Clone(want), fill(6, n))
			appendTo(t, j, fill(6, n))
			check(t, d, j, want...)
		}
	}
	d.Crash(nil)
	check(t, d, open(t, d), want...)
	return there
}

// P8.4: a head that was cut, at all its places in one block or two, and at all picks: it is there
// just if all of its bytes are, as they were written (of those that are 0 none need be kept).
func TestCrashInTheHead(t *testing.T) {
	for _, n := range []int{1, 2, 4, 127, 254, 255, 256, 257, 511, 512, 513, 768, 1023, 1024} {
		for from := 55; from <= 66; from++ {
			l, b := [][]byte{fill(8, from-headSize)}, ghosts(n)
			head := headOf(uint32(n))
			for _, picks := range headPicks(from) {
				want := bytes.Equal(cut(head, from, picks), head)
				if there := checkCrash(t, 19, l, b, 3, picks); there != want {
					t.Errorf("%d bytes at %d, picks %v: there is %t, want %t", n, from, picks, there, want)
				}
			}
		}
	}
}

// headPicks are all ways to cut a head that is written from there on, and the next ones outside.
func headPicks(from int) [][]int {
	begin, end := from%64, from%64+headSize
	var l [][]int
	for one := begin - 1; one <= min(end+1, 64); one++ {
		l = append(l, []int{one})
		for two := 0; two <= end-64+1; two++ {
			l = append(l, []int{one, two})
		}
	}
	return l
}

// cut is what the picks keep of a head that is written from there on, over 0s.
func cut(head []byte, from int, picks []int) []byte {
	kept := make([]byte, headSize)
	for i, v := range head {
		block := (from+i)/64 - from/64
		if block < len(picks) && (from+i)%64 < picks[block] {
			kept[i] = v
		}
	}
	return kept
}

// P8.4: a crash while the bytes are written, or behind their sync: whatever is kept, it isn't there.
func TestCrashInTheBytes(t *testing.T) {
	r := rand.New(rand.NewPCG(8, 3))
	for range 3000 {
		var l [][]byte
		for range r.IntN(4) {
			l = append(l, anyBytes(r, 1+r.IntN(150)))
		}
		b := anyBytes(r, 1+r.IntN([]int{20, 300, 1024}[r.IntN(3)]))
		if r.IntN(2) == 0 {
			b = ghosts(len(b))
		}
		stage := 1 + r.IntN(2)
		if checkCrash(t, 26, l, b, stage, anyPicks(r, 18)) {
			t.Errorf("stage %d of %x: it is there", stage, b)
		}
	}
}

// P8.4: all picks of 64 keep all of it; none keep nothing but what was appended.
func TestCrashOfAllAndOfNothing(t *testing.T) {
	all := slices.Repeat([]int{64}, 20)
	for n := 1; n <= 300; n++ {
		l, b := [][]byte{{1, 2, 3}, fill(255, n)}, fill(255, n)
		for stage := 1; stage <= 3; stage++ {
			if there := checkCrash(t, 12, l, b, stage, all); there != (stage == 3) {
				t.Errorf("%d bytes, stage %d, all kept: there is %t", n, stage, there)
			}
			if checkCrash(t, 12, l, b, stage, nil) {
				t.Errorf("%d bytes, stage %d, nothing kept: it is there", n, stage)
			}
		}
	}
}

// P8.4: what was left of a record that isn't there doesn't become a record of its own, when
// another one ends where it seems to begin.
func TestNoGhosts(t *testing.T) {
	for n := 9; n <= 900; n += 9 {
		d := newDisk(t, 20)
		start(t, open(t, d), ghosts(910), 2)
		d.Crash(nil)
		j := open(t, d)
		check(t, d, j)
		appendTo(t, j, fill(1, n))
		check(t, d, j, fill(1, n))
		check(t, d, open(t, d), fill(1, n))
	}
}

// P8.4: a long life: records, crashes at any place, and opening, one behind the other.
func TestALongLife(t *testing.T) {
	r := rand.New(rand.NewPCG(8, 4))
	for range 200 {
		d := newDisk(t, 1+r.IntN(60))
		var l [][]byte
		for j := open(t, d); j.Free() > 0; {
			b := anyBytes(r, 1+r.IntN(min(j.Free(), 90)))
			if r.IntN(3) > 0 {
				appendTo(t, j, b)
				l = append(l, b)
				d.Crash(anyPicks(r, d.Dirty()))
				continue
			}
			start(t, j, b, 1+r.IntN(3))
			d.Crash(anyPicks(r, d.Dirty()))
			j = open(t, d)
			if got := j.Records(); len(got) > len(l) {
				l = append(l, b)
			}
			check(t, d, j, l...)
		}
		check(t, d, open(t, d), l...)
	}
}

// Errors are found by errors.Is, as all of the program's are.
func TestErrorsAreFound(t *testing.T) {
	_, none := journal.Open(nil)
	d := newDisk(t, 1)
	j := open(t, d)
	full := j.Append(make([]byte, 57))
	arg := j.Append(nil)
	start(t, j, []byte{1}, 1)
	for _, x := range []struct{ got, want error }{
		{none, api.ErrArg}, {full, api.ErrFull}, {arg, api.ErrArg}, {j.Append([]byte{1}), api.ErrState}, {j.Start(nil, 0), api.ErrState},
	} {
		if !errors.Is(x.got, x.want) {
			t.Errorf("got %v, want %v", x.got, x.want)
		}
	}
}
