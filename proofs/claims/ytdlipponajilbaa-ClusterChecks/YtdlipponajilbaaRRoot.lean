/- What Root of the reference returns: the whole root of the number times 2^32. -/
import Derived.Test.YtdlipponajilbaaAr
import Derived.Test.YtdlipponajilbaaBigR
import Derived.WalkKit
import Derived.WalkSpells
import Derived.WalkLawsBesides
import Derived.Handy
namespace Go.Proofs.Ytdlipponajilbaa
open Go.RowKit
theorem Sm.two3 {m k : Nat} (h : m < 16 * k) : Sm k ((2 : Int) ^ m) := by
  unfold Sm
  rw [Int.natAbs_pow, show (65536 : Nat) = 2 ^ 16 from by decide, ← Nat.pow_mul]
  exact Nat.pow_lt_pow_right (by decide) h
theorem cl_nat (F : Nat) (h : F ≤ 4611686018427387904) : Fx.cl 4611686018427387904 (F : Int) = (F : Int) := Fx.cl_in (by omega) (by omega)
theorem Sm.small {F : Nat} (h : F ≤ 4611686018427387904) : Sm 4 (F : Int) := Sm.word (by omega) (by omega)
end Go.Proofs.Ytdlipponajilbaa
