/- assoc: the table in numbers and in memory. -/
import Derived.Test.YtnjdmkgkpdebdaaJM
namespace Go.Proofs.Ytnjdmkgkpdebdaa
open Go Go.RowKit Go.Sort
/-- an association that is configured -/
structure As where
  kind : Int
  addr : Int
  key : Int
  minp : Int
  maxp : Int
  burst : Bool
  ib : Bool
  pref : Bool
  ttl : Int
  pulse : Bool
  fudge : Int
  str : Int
def asL (a : As) : List Value := [.int .i64 a.kind, .int .u32 a.addr, .int .i64 a.key, .int .i64 a.minp, .int .i64 a.maxp, .bool a.burst, .bool a.ib, .bool a.pref, .int .i64 a.ttl, .bool a.pulse, .int .i64 a.fudge, .int .i64 a.str]
/-- an association of the table: its block, its number, what it is, who mobilised it, until when it lives, how far it asked -/
structure Mb where
  b : Nat
  id : Int
  ac : As
  par : Int
  ends : Int
  hops : Int
def mbL (m : Mb) : List Value := [.int .i64 m.id, .int .i64 m.ac.kind, .int .u32 m.ac.addr, .int .i64 m.ac.key, .int .i64 m.ac.minp, .int .i64 m.ac.maxp, .bool m.ac.burst, .bool m.ac.ib, .bool m.ac.pref, .int .i64 m.ac.ttl, .bool m.ac.pulse, .int .i64 m.ac.fudge, .int .i64 m.ac.str, .int .i64 m.par, .int .i64 m.ends, .int .i64 m.hops]
def enL (m : Mb) : List Value := [.int .i64 m.id, .int .i64 m.ac.kind, .int .u32 m.ac.addr, .int .i64 m.ac.key, .int .i64 m.ac.minp, .int .i64 m.ac.maxp, .bool m.ac.burst, .bool m.ac.ib, .bool m.ac.pref, .int .i64 m.ac.ttl, .bool m.ac.pulse, .int .i64 m.ac.fudge, .int .i64 m.ac.str, .int .i64 m.par, .int .i64 m.ends]
def ptr : Option Mb → Value
  | none => .pointer none
  | some m => .pointer (some ⟨m.b, 0, none⟩)
/-- the program's table in block q -/
structure Tb (w : World) (q : Nat) (ms : List (Option Mb)) : Prop where
  tab : Bk q w (ms.map ptr).toArray 74
  len : ms.length = 16
  mem : ∀ (i : Nat) m, ms[i]? = some (some m) → Bk m.b w (mbL m).toArray 77 ∧ m.b ≠ q ∧ m.id = (i : Int) + 1
  inj : ∀ (i j : Nat) m n, ms[i]? = some (some m) → ms[j]? = some (some n) → m.b = n.b → i = j
/-- at that number -/
def atM (ms : List (Option Mb)) (id : Int) : Option Mb := if 1 ≤ id ∧ id ≤ 16 then ms.getD (id - 1).toNat none else none
/-- the least number that is free -/
def frF : List (Option Mb) → Nat → Int
  | [], _ => 0
  | none :: _, k => (k : Int) + 1
  | some _ :: t, k => frF t (k + 1)
/-- the number of the first one that is so -/
def fsF (p : Mb → Bool) : List (Option Mb) → Int
  | [] => 0
  | none :: t => fsF p t
  | some m :: t => if p m = true then m.id else fsF p t
theorem Tb.cell {w : World} {q : Nat} {ms : List (Option Mb)} (h : Tb w q ms) (k : Nat) (hk : k < 16) : w.cell? ⟨q, k, none⟩ = some (ptr (ms.getD k none)) := by
  have hk2 : k < ms.length := by rw [h.len]; exact hk
  rw [h.tab.cell k]
  simp [List.getD_eq_getElem?_getD, List.getElem?_eq_getElem hk2]
theorem ix_arr (L : List Value) (hl : L.length = 16) (k : Nat) (hk : k < 16) (w : World) : Sem.run Try.prog (Instr.index 72 (.agg L.toArray) (.int .i64 (k : Int))) w = .ok (L.getD k (.pointer none)) w := by
  have u := Try.underlying72
  have c3 : Try.prog.cellsOf 71 = 1 := by kernel_rfl
  have hk2 : k < L.length := by omega
  simp [Instr.index, run_underlying u, asIntOf, go_sem]
  rw [if_pos hk, List.getElem?_eq_getElem hk2]
  rfl
theorem getD_ptr (ms : List (Option Mb)) (k : Nat) : (ms.map ptr).getD k (.pointer none) = ptr (ms.getD k none) := by
  simp only [List.getD_eq_getElem?_getD, List.getElem?_map]
  cases ms[k]? <;> rfl
theorem Tb.ix {w : World} {q : Nat} {ms : List (Option Mb)} (h : Tb w q ms) {L : List Value} (hL : L = ms.map ptr) (k : Nat) (hk : k < 16) (u : World) : Sem.run Try.prog (Instr.index 72 (.agg L.toArray) (.int .i64 (k : Int))) u = .ok (ptr (ms.getD k none)) u := by
  subst hL
  rw [ix_arr _ (by rw [List.length_map, h.len]) k hk u, getD_ptr]
theorem drop_at {ms : List (Option Mb)} (h : ms.length = 16) (k : Nat) (hk : k < 16) : ms.drop k = ms.getD k none :: ms.drop (k + 1) := by
  have hk2 : k < ms.length := by omega
  rw [List.drop_eq_getElem_cons hk2, List.getD_eq_getElem?_getD, List.getElem?_eq_getElem hk2]
  rfl
theorem drop_end {ms : List (Option Mb)} (h : ms.length = 16) (k : Nat) (hk : 16 ≤ k) : ms.drop k = [] := List.drop_eq_nil_of_le (by omega)
theorem getD_some {ms : List (Option Mb)} {k : Nat} {m : Mb} (h : ms.getD k none = some m) : ms[k]? = some (some m) := by
  rw [List.getD_eq_getElem?_getD] at h
  cases hq : ms[k]? with
  | none => rw [hq] at h; cases h
  | some x => rw [hq] at h; exact congrArg some h
theorem Tb.lt {w : World} {q : Nat} {ms : List (Option Mb)} (h : Tb w q ms) : q < w.heap.size := h.tab.lt
theorem Tb.kept {w w' : World} {q : Nat} {ms : List (Option Mb)} (h : Tb w q ms) (hb : ∀ k, k < w.heap.size → w'.heap[k]? = w.heap[k]?) : Tb w' q ms :=
  ⟨h.tab.kept (hb _ h.tab.lt), h.len, fun i m hm => ⟨(h.mem i m hm).1.kept (hb _ (h.mem i m hm).1.lt), (h.mem i m hm).2⟩, h.inj⟩
theorem Tb.below {w w' : World} {q : Nat} {ms : List (Option Mb)} (h : Tb w q ms) (hb : Below w.heap.size w w') : Tb w' q ms := h.kept fun k hk => hb.block k hk
/-- what a loop over the table reads -/
theorem Tb.row {w : World} {q : Nat} {ms : List (Option Mb)} (h : Tb w q ms) : ∃ L : List Value, Hid (L = ms.map ptr) ∧ (∀ j u, L[j]? = some u → w.cell? ((⟨q, 0, none⟩ : Addr).add j) = some u) ∧ Hid (L.length = 16) :=
  ⟨ms.map ptr, rfl, cells_of h.tab, by show _ = _; rw [List.length_map, h.len]⟩
theorem below_alloc {w0 w : World} (h : Below w0.heap.size w0 w) (o : Obj) : Below w0.heap.size w0 (w.alloc o) := h.alloc h.size o
theorem below_thru {a b c : World} (h : Below a.heap.size a b) (k : Below b.heap.size b c) : Below a.heap.size a c := h.trans (k.mono h.size)
theorem below_drew {w0 w : World} {B : Nat} (h : Below B w0 w) : Below B w0 w.drew := ⟨h.os, h.tape, h.output, h.size, h.block⟩
set_option maxHeartbeats 400000 in
theorem free_any (q : Nat) (ms : List (Option Mb)) (w : World) (h : Tb w q ms) : Calls Try.prog 38 #[.pointer (some ⟨q, 0, none⟩)] w fun e w' => e = .returned (.int .i64 (frF ms 0)) ∧ w' = w := by
  have HT : Hid (Tb w q ms) := h
  obtain ⟨L, HL, hc, hl⟩ := h.row
  have HC : Hid (∀ j u, L[j]? = some u → w.cell? ((⟨q, 0, none⟩ : Addr).add j) = some u) := hc
  clear h hc
  go_enter Try.func38, Try.ntmps38
  go_wp2_with (refine step_ldat 72 _ rfl rfl ⟨q, 0, none⟩ (by rfl) L _ Try.underlying72 rfl (by rw [hl.out]; kernel_rfl) HC.out ?_)
  go_loopw [9] (fun i wr => ∃ (k : Nat), i = .int .i64 k ∧ (k : Int) ≤ 16 ∧ wr = w ∧ Hid (frF ms 0 = frF (ms.drop k) k)) (fun i _ => 16 - (intOf i).toNat)
  case atStart => exact ⟨0, rfl, by omega, rfl, rfl⟩
  case round =>
    obtain ⟨k, rfl, hk, hwr, HA⟩ := hrel
    by_cases hlt : (k : Int) < 16
    · have hix := HT.out.ix HL.out k (by omega)
      have hdr := drop_at HT.out.len k (by omega)
      obtain ⟨x, hx⟩ : ∃ x, x = ms.getD k none := ⟨_, rfl⟩
      rw [← hx] at hix hdr
      have HD : Hid (ms.drop k = x :: ms.drop (k + 1)) := hdr
      clear hx hdr
      cases x with
      | none =>
        unfold ptr at hix
        go_wp2_with fail
        go_ret
        refine ⟨ret_int' ?_, rfl⟩
        rw [HA.out, HD.out]
        rfl
      | some m =>
        unfold ptr at hix
        go_wp2_with fail
        go_roundw
        case rel =>
          refine ⟨k + 1, by go_num, by omega, by trivial, ?_⟩
          show _ = _
          rw [HA.out, HD.out]
          rfl
        case measure => simp [intOf]; omega
    · have HE : Hid (ms.drop k = []) := drop_end HT.out.len k (by omega)
      go_wp2_with fail
      go_ret
      refine ⟨ret_int' ?_, rfl⟩
      rw [HA.out, HE.out]
      rfl
theorem ixa (q k : Nat) (hk : k < 16) (u : World) : Sem.run Try.prog (Instr.indexAt 72 (.pointer (some ⟨q, 0, none⟩)) (.int .i64 (k : Int))) u = .ok (.pointer (some ⟨q, k, none⟩)) u := by
  have u' := Try.underlying72
  have c3 : Try.prog.cellsOf 71 = 1 := by kernel_rfl
  have h0 : (0 : Int) ≤ k := Int.natCast_nonneg k
  have h1 : (k : Int) < 16 := by omega
  go_simp
set_option maxHeartbeats 400000 in
theorem at_any (q : Nat) (ms : List (Option Mb)) (id : Int) (w : World) (h : Tb w q ms) : Calls Try.prog 39 #[.pointer (some ⟨q, 0, none⟩), .int .i64 id] w fun e w' => e = .returned (ptr (atM ms id)) ∧ w' = w := by
  unfold atM
  by_cases hi : 1 ≤ id ∧ id ≤ 16
  · rw [if_pos hi]
    obtain ⟨h0, h1⟩ := hi
    obtain ⟨k, rfl⟩ : ∃ k : Nat, id = (k : Int) + 1 := ⟨(id - 1).toNat, by omega⟩
    have hk2 : k < 16 := by omega
    have e : ((k : Int) + 1 - 1).toNat = k := by omega
    rw [e]
    have hc := h.cell k hk2
    have hix := ixa q k hk2
    obtain ⟨x, hx2⟩ : ∃ x, x = ms.getD k none := ⟨_, rfl⟩
    rw [← hx2] at hc ⊢
    have hk3 : (k : Int) < 16 := by omega
    clear h hx2 hk2 e h0 h1
    cases x <;> unfold ptr at hc ⊢
    all_goals
     go_enter Try.func39, Try.ntmps39
     go_wp2_with fail
     go_ret
     exact ⟨rfl, rfl⟩
  · rw [if_neg hi]
    clear h
    go_enter Try.func39, Try.ntmps39
    go_wp2_with fail
    all_goals first
      | (exfalso; omega)
      | (go_ret; exact ⟨rfl, rfl⟩)
end Go.Proofs.Ytnjdmkgkpdebdaa
