/- The program's disk: the predicate Dq and its contracts, together (New: Dqn; Write, Read: Dqb; Sync, Crash: Dqx; Size, Dirty: Dqa). -/
import Derived.Test.YtghepjppjmpihaaDqx
