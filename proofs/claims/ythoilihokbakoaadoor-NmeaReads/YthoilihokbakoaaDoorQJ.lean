/- Times of day, in package nmea. -/
import Derived.Test.YthoilihokbakoaaDoorQI
namespace Go.Proofs.YthoilihokbakoaaDoor
open Go Go.RowKit
theorem tx_z (l : List UInt8) : (tx l).size = l.length := rfl
set_option maxHeartbeats 400000 in
theorem threePairs_any (n : Int) (w : World) (h0 : 0 ≤ n) (h1 : n < 10000000000) : Calls Tryd.prog 48 #[.int .i64 n] w fun e w' => e = .returned (.tuple #[.int .i64 (n / 10000), .int .i64 (n / 100 % 100), .int .i64 (n % 100)]) ∧ w' = w := by
  go_enter Tryd.func48, Tryd.ntmps48
  go_wp2_with fail
  exact bodyPost_ret (v := .tuple #[.int .i64 (n / 10000), .int .i64 (n / 100 % 100), .int .i64 (n % 100)]) (by simp [results, Tryd.results48, go_sem]) rfl ⟨rfl, rfl⟩
def tdW (l : List UInt8) : List UInt8 := (Lib.cut l [46]).1
def tdQ (l : List UInt8) : List UInt8 := (Lib.cut l [46]).2.1
def tdP (l : List UInt8) : Bool := (Lib.cut l [46]).2.2
def tdN (l : List UInt8) : Int := nuV (tdW l) 6
def tdB (l : List UInt8) : Bool := nuB (tdW l) 6 && (!tdP l || frB (tdQ l))
def tdF (l : List UInt8) : Int := if nuB (tdW l) 6 && tdP l then frV (tdQ l) else 0
def tdV (l : List UInt8) : Value := .tuple #[.agg #[.int .i64 0, .int .i64 0, .int .i64 0, .int .i64 (tdN l / 10000), .int .i64 (tdN l / 100 % 100), .int .i64 (tdN l % 100), .int .u32 (tdF l)], .bool (tdB l)]
theorem cut_len (l : List UInt8) : (tdW l).length ≤ l.length ∧ (tdQ l).length ≤ l.length := by
  unfold tdW tdQ Lib.cut
  split <;> simp <;> omega
set_option maxHeartbeats 1000000 in
theorem timeOfDay_any (s : ByteArray) (M : Int) (w : World) (hs : s.size ≤ 1000000) (hM : w.cell? ⟨0, 0, none⟩ = some (.int .i64 M)) :
    Calls Tryd.prog 46 #[.string s] w fun e w' => e = .returned (tdV s.data.toList) ∧ Below w.heap.size w w' := by
  have hl : s.data.toList.length = s.size := by simp
  obtain ⟨c1, c2⟩ := cut_len s.data.toList
  have nb := nu_bd (tdW s.data.toList) 6 (by decide)
  obtain ⟨f0, f1⟩ := fr_bd (tdQ s.data.toList)
  have hlt : 0 < w.heap.size := World.block_lt_of_cell? _ _ hM
  have HC : Hid (∀ u : World, Below w.heap.size w u → Calls Tryd.prog 55 #[.string s, .string ⟨#[46]⟩] u fun e w' => e = .returned (.tuple #[.string (tx (tdW s.data.toList)), .string (tx (tdQ s.data.toList)), .bool (tdP s.data.toList)]) ∧ ∃ n, w' = u.drewN n) :=
    fun u hu => Tryd.strings_Cut s ⟨#[46]⟩ M u (by omega) ((hu.cell (p := ⟨0, 0, none⟩) hlt).trans hM)
  have HN : Hid (∀ u : World, Calls Tryd.prog 47 #[.string (tx (tdW s.data.toList)), .int .i64 6] u fun e w' => e = .returned (.tuple #[.int .i64 (tdN s.data.toList), .bool (nuB (tdW s.data.toList) 6)]) ∧ w' = u) := by
    intro u
    have h := number_any (tx (tdW s.data.toList)) 6 u (by rw [tx_z]; omega) (by decide)
    rw [tx_data] at h
    exact h
  have HF : Hid (∀ u : World, Calls Tryd.prog 56 #[.string (tx (tdQ s.data.toList))] u fun e w' => e = .returned (.tuple #[.int .u32 (frV (tdQ s.data.toList)), .bool (frB (tdQ s.data.toList))]) ∧ w' = u) := by
    intro u
    have h := fraction_any (tx (tdQ s.data.toList)) u (by rw [tx_z]; omega)
    rw [tx_data] at h
    exact h
  have n0 : 0 ≤ tdN s.data.toList := nb.1
  have n1 : tdN s.data.toList < 10000000000 := nb.2
  have HV : Hid (tdV s.data.toList = .tuple #[.agg #[.int .i64 0, .int .i64 0, .int .i64 0, .int .i64 (tdN s.data.toList / 10000), .int .i64 (tdN s.data.toList / 100 % 100), .int .i64 (tdN s.data.toList % 100), .int .u32 (if nuB (tdW s.data.toList) 6 && tdP s.data.toList then frV (tdQ s.data.toList) else 0)], .bool (nuB (tdW s.data.toList) 6 && (!tdP s.data.toList || frB (tdQ s.data.toList)))]) := rfl
  have HZ : Hid (nuB (tdW s.data.toList) 6 = false → tdN s.data.toList = 0) := by
    intro h
    unfold tdN nuV
    rw [h]; rfl
  generalize tdV s.data.toList = RV at HV ⊢
  generalize tdN s.data.toList = n at *
  generalize frV (tdQ s.data.toList) = f at *
  generalize frB (tdQ s.data.toList) = fb at *
  generalize nuB (tdW s.data.toList) 6 = b at *
  generalize tx (tdW s.data.toList) = W1 at *
  generalize tx (tdQ s.data.toList) = Q1 at *
  generalize tdP s.data.toList = p at *
  clear c1 c2 nb hl hlt hM
  go_enter Tryd.func46, Tryd.ntmps46
  go_wp2_with fail
  refine (HC.out _ (by repeat' (first | with_reducible exact Below.refl _ _ | with_reducible refine Below.setCell ?_ (by first | (simp; done) | (simp; omega) | omega) _ | with_reducible refine below_drewN ?_ _ | with_reducible refine Below.drew ?_ | with_reducible refine Below.alloc ?_ (by first | (simp; done) | (simp; omega) | omega) _))).mono ?_
  rintro e w1 ⟨rfl, k, hw⟩
  rw [hw]
  clear hw
  go_wp2_with fail
  refine (HN.out _).mono ?_
  rintro e w1 ⟨rfl, hw⟩
  rw [hw]
  clear hw
  cases b
  · go_wp2_with fail
    have hz := HZ.out trivial
    subst hz
    exact bodyPost_ret (v := RV) (by rw [HV.out]; simp [results, Tryd.results46, go_sem]) rfl ⟨rfl, (by repeat' (first | with_reducible exact Below.refl _ _ | with_reducible refine Below.setCell ?_ (by first | (simp; done) | (simp; omega) | omega) _ | with_reducible refine below_drewN ?_ _ | with_reducible refine Below.drew ?_ | with_reducible refine Below.alloc ?_ (by first | (simp; done) | (simp; omega) | omega) _))⟩
  · go_wp2_with fail
    refine (threePairs_any _ _ n0 n1).mono ?_
    rintro e w1 ⟨rfl, hw⟩
    rw [hw]
    clear hw
    cases p
    · go_wp2_with fail
      exact bodyPost_ret (v := RV) (by rw [HV.out]; simp [results, Tryd.results46, go_sem]) rfl ⟨rfl, (by repeat' (first | with_reducible exact Below.refl _ _ | with_reducible refine Below.setCell ?_ (by first | (simp; done) | (simp; omega) | omega) _ | with_reducible refine below_drewN ?_ _ | with_reducible refine Below.drew ?_ | with_reducible refine Below.alloc ?_ (by first | (simp; done) | (simp; omega) | omega) _))⟩
    · go_wp2_with fail
      refine (HF.out _).mono ?_
      rintro e w1 ⟨rfl, hw⟩
      rw [hw]
      clear hw
      go_wp2_with fail
      exact bodyPost_ret (v := RV) (by rw [HV.out]; simp [results, Tryd.results46, go_sem]) rfl ⟨rfl, (by repeat' (first | with_reducible exact Below.refl _ _ | with_reducible refine Below.setCell ?_ (by first | (simp; done) | (simp; omega) | omega) _ | with_reducible refine below_drewN ?_ _ | with_reducible refine Below.drew ?_ | with_reducible refine Below.alloc ?_ (by first | (simp; done) | (simp; omega) | omega) _))⟩
end Go.Proofs.YthoilihokbakoaaDoor
