/- What ControlMessage and EncodeControl of package wire return. -/
import Derived.Test.YtdobghhjlfffpaaWD
namespace Go.Proofs.Ytdobghhjlfffpaa
open Go.RowKit
/-- a packet of control without key and digest, as bytes -/
def cmH (ver : Int) (r e m : Bool) (op seq sta ass off : Int) (dn : Int) : List Int :=
  be 1 (8 * ver + 6) ++ be 1 (32 * flg r e m + op) ++ be 2 seq ++ be 2 sta ++ be 2 ass ++ be 2 off ++ be 2 dn
def cmB (ver : Int) (r e m : Bool) (op seq sta ass off : Int) (data : List Int) : List Int :=
  cmH ver r e m op seq sta ass off data.length ++ data ++ be (fil data.length - data.length).toNat 0
theorem cc_ok {ver op seq sta ass off key : Int} {dn mn : Nat} (h : ccE ver op seq sta ass off key dn mn = 0) :
    (0 ≤ seq ∧ seq ≤ 65535) ∧ (0 ≤ sta ∧ sta ≤ 65535) ∧ (0 ≤ ass ∧ ass ≤ 65535) ∧ (0 ≤ off ∧ off ≤ 65535) ∧ (1 ≤ ver ∧ ver ≤ 4) ∧ (0 ≤ op ∧ op ≤ 31) ∧ dfB key mn = true ∧ 12 + fil dn + dsz key mn ≤ 512 := by
  unfold ccE at h
  split at h
  · rename_i h1
    split at h
    · cases h
    · rename_i h2
      unfold cfB at h1
      simp only [Bool.and_eq_true, wiB_iff] at h1
      obtain ⟨⟨⟨⟨⟨⟨a, b⟩, c⟩, d⟩, e⟩, f⟩, g⟩ := h1
      exact ⟨a, b, c, d, e, f, g, by omega⟩
  · cases h
theorem df_ok {key : Int} {mn : Nat} (h : dfB key mn = true) : 0 ≤ key ∧ key ≤ 65535 ∧ mn ≤ 20 ∧ (key = 0 ↔ mn = 0) := by
  unfold dfB at h
  split at h
  · simp at h; omega
  · split at h
    · rw [wiB_iff] at h; omega
    · cases h
/-- numbers of one width, one behind another -/
def cat (k : Nat) (xs : List Int) (n : Nat) : List Int := ((xs.take n).map (be k)).flatten
theorem cat_len_le (k : Nat) (xs : List Int) (n : Nat) : (cat k xs n).length ≤ k * n := by
  unfold cat
  induction n generalizing xs with
  | zero => simp
  | succ n ih =>
    cases xs with
    | nil => simp
    | cons x r =>
      have := ih r
      rw [List.take_succ_cons, List.map_cons, List.flatten_cons, List.length_append, be_len, Nat.mul_succ]
      omega
/-- the state of the walk of a writer: what it has, what is kept -/
structure MS (w v0 : World) (B q p : Nat) (cs : Array Value) (v : Value) (bs : List Int) : Prop where
  st : Wr B q v0 v bs
  bel : Below w.heap.size w v0
  ck : Ck p v0 cs
theorem MS.step {w wr w' : World} {B q p : Nat} {cs : Array Value} {v v' : Value} {bs bs' : List Int} (h : MS w wr B q p cs v bs) (hb : Below B wr w') (hw : Wr B q w' v' bs') (hp : p < B) (hB : w.heap.size ≤ B) : MS w w' B q p cs v' bs' :=
  ⟨hw, h.bel.trans (hb.mono hB), h.ck.below hb hp⟩
/-- a packet of control as bytes -/
def ecB (ver : Int) (r e m : Bool) (op seq sta ass off : Int) (data : List Int) (key : Int) (mac : List Int) : List Int := cmB ver r e m op seq sta ass off data ++ dg key mac
theorem cmH_len (ver : Int) (r e m : Bool) (op seq sta ass off : Int) (dn : Int) : (cmH ver r e m op seq sta ass off dn).length = 12 := by unfold cmH; simp [be_len]
theorem cmB_len (ver : Int) (r e m : Bool) (op seq sta ass off : Int) (data : List Int) : ((cmB ver r e m op seq sta ass off data).length : Int) = 12 + fil data.length := by
  unfold cmB
  rw [List.length_append, List.length_append, cmH_len, be_len]
  have := fil_le data.length
  omega
end Go.Proofs.Ytdobghhjlfffpaa
