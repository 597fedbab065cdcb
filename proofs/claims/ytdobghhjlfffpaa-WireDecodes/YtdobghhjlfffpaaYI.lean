/- For what the reference's Decode returns. -/
import Derived.Test.YtdobghhjlfffpaaYE
import Derived.Test.YtdobghhjlfffpaaWM
import Derived.Test.YtdobghhjlfffpaaWNp
import Derived.Test.YtdobghhjlfffpaaXM
namespace Go.Proofs.Ytdobghhjlfffpaa
open Go.RowKit
/-- what Decode answers -/
def DcR (bs : List Int) (w : World) (e' : Ending) (w' : World) : Prop := ∃ (h : Hd) (ev : Value) (xs : List Xt) (key : Int) (nak : Bool) (mv : Value) (mac : List Int), e' = .returned (.tuple #[pkV h ev key nak mv, .int .i64 (dcE bs)]) ∧ Below w.heap.size w w' ∧ OX w' w.heap.size ev xs ∧ Own w' w.heap.size mv mac ∧ (dcE bs = 0 → dcV bs h xs key nak mac) ∧ (dcE bs ≠ 0 → h = ⟨0, 0, 0, 0, 0, 0, 0, 0, 0, 0, 0, 0, 0⟩ ∧ ev = .slice none 0 0 ∧ key = 0 ∧ nak = false ∧ mv = .slice none 0 0 ∧ xs = [] ∧ mac = [])
theorem DcR.err {bs : List Int} {w w' : World} {E : Int} (hE : dcE bs = E) (h0 : E ≠ 0) (hb : Below w.heap.size w w') : DcR bs w (.returned (.tuple #[.agg #[.int .i64 0, .int .i64 0, .int .i64 0, .int .i64 0, .int .i64 0, .int .i64 0, .int .i64 0, .int .i64 0, .int .u32 0, .int .u64 0, .int .u64 0, .int .u64 0, .int .u64 0, .slice none 0 0, .int .i64 0, .bool false, .slice none 0 0], .int .i64 E])) w' :=
  ⟨⟨0, 0, 0, 0, 0, 0, 0, 0, 0, 0, 0, 0, 0⟩, .slice none 0 0, [], 0, false, .slice none 0 0, [], by rw [hE]; rfl, hb, OX.nil _ _, Own.nil _ _, fun h => absurd (hE.symm.trans h) h0, fun _ => ⟨rfl, rfl, rfl, rfl, rfl, rfl, rfl⟩⟩
set_option maxHeartbeats 400000 in
theorem rsigned_any (x : Int) (w : World) (h0 : 0 ≤ x) (h1 : x < 256) :
    Calls Try.prog 40 #[.int .u8 x] w fun e w' => e = .returned (.int .i64 (sg x)) ∧ w' = w := by
  by_cases h : x < 128
  · have hx : ¬ 127 < x := by omega
    have HS : Hid (sg x = x) := by show _ = _; unfold sg; rw [if_pos h]
    clear h
    go_enter Try.func40, Try.ntmps40
    go_wp2
    go_ret
    exact ⟨by rw [HS.out]; rfl, rfl⟩
  · have hx : 127 < x := by omega
    have HS : Hid (sg x = x - 256) := by show _ = _; unfold sg; rw [if_neg h]
    clear h
    go_enter Try.func40, Try.ntmps40
    go_wp2
    go_ret
    exact ⟨by rw [HS.out]; rfl, rfl⟩
set_option maxHeartbeats 400000 in
theorem rfromShort_any (n : Int) (w : World) (n0 : 0 ≤ n) (n1 : n < 4294967296) :
    Calls Try.prog 42 #[.int .u32 n] w fun e w' => e = .returned (.int .i64 (n * 65536)) ∧ w' = w := by
  go_enter Try.func42, Try.ntmps42
  go_wp2
  go_ret
  exact ⟨rfl, rfl⟩
/-- how far the loop has come -/
def Sq (b1 : List Int) (xs : List Xt) (bs : List Int) : Prop := xs.length ≤ 4 ∧ dL 4 b1 = ((dL (4 - xs.length) bs).1, prs xs ++ (dL (4 - xs.length) bs).2.1, (dL (4 - xs.length) bs).2.2)
theorem Sq.start (b : List Int) : Sq b [] b := ⟨by simp, by simp [prs]⟩
theorem Sq.many {b1 bs : List Int} {xs : List Xt} (h : Sq b1 xs bs) (hl : 24 < bs.length) (hx : xs.length = 4) : (dL 4 b1).1 = 54 := by
  rw [h.2, hx, Nat.sub_self, dL_many hl]
theorem Sq.form {b1 bs : List Int} {xs : List Xt} (h : Sq b1 xs bs) (hl : 24 < bs.length) (hx : xs.length ≠ 4) (hg : ¬ xG bs) : (dL 4 b1).1 = 32 := by
  have h4 := h.1
  obtain ⟨m, hm⟩ : ∃ m, 4 - xs.length = m + 1 := ⟨3 - xs.length, by omega⟩
  rw [h.2, hm, dL_form m hl hg]
theorem Sq.next {b1 bs : List Int} {xs : List Xt} (h : Sq b1 xs bs) (hl : 24 < bs.length) (hx : xs.length ≠ 4) (hg : xG bs) (dv : Value) {ty : Int} {dat : List Int} {n : Nat} (hn : n = (fv bs 2 2).toNat) (ht : ty = fv bs 0 2) (hd : dat = (bs.drop 4).take (n - 4)) : Sq b1 (xs ++ [⟨ty, dv, dat⟩]) (bs.drop n) := by
  have h4 := h.1
  obtain ⟨m, hm⟩ : ∃ m, 4 - xs.length = m + 1 := ⟨3 - xs.length, by omega⟩
  refine ⟨by simp; omega, ?_⟩
  have hm' : 4 - (xs ++ [(⟨ty, dv, dat⟩ : Xt)]).length = m := by simp; omega
  rw [hm', h.2, hm, dL_next m hl hg, hn]
  unfold prs fd
  simp [ht, hd, hn]
theorem Sq.stop {b1 bs : List Int} {xs : List Xt} (h : Sq b1 xs bs) (hl : bs.length ≤ 24) : dL 4 b1 = (0, prs xs, bs) := by
  rw [h.2, dL_short _ hl]; simp
/-- the three blocks -/
structure PC (w v : World) (cs : Array Value) : Prop where
  z0 : Bk w.heap.size v #[.int .i64 0, .int .i64 0, .int .i64 0, .int .i64 0, .int .i64 0, .int .i64 0, .int .i64 0, .int .i64 0, .int .u32 0, .int .u64 0, .int .u64 0, .int .u64 0, .int .u64 0, .slice none 0 0, .int .i64 0, .bool false, .slice none 0 0] 29
  z1 : Bk (w.heap.size + 1) v #[.int .i64 0, .int .i64 0, .int .i64 0, .int .i64 0, .int .i64 0, .int .i64 0, .int .i64 0, .int .i64 0, .int .u32 0, .int .u64 0, .int .u64 0, .int .u64 0, .int .u64 0, .slice none 0 0, .int .i64 0, .bool false, .slice none 0 0] 29
  c : Bk (w.heap.size + 2) v cs 29
  bl : Below w.heap.size w v
theorem PC.set {w v : World} {cs : Array Value} (h : PC w v cs) (j : Nat) (x : Value) : PC w (v.setCell ⟨w.heap.size + 2, j, none⟩ x) (cs.setIfInBounds j x) :=
  ⟨h.z0.far (by omega) _, h.z1.far (by omega) _, h.c.set x, h.bl.setCell (p := ⟨w.heap.size + 2, j, none⟩) (by show w.heap.size ≤ w.heap.size + 2; omega) _⟩
theorem PC.below {w v v' : World} {cs : Array Value} (h : PC w v cs) (hb : Below v.heap.size v v') : PC w v' cs :=
  ⟨h.z0.below hb h.z0.lt, h.z1.below hb h.z1.lt, h.c.below hb h.c.lt, h.bl.trans (hb.mono (Nat.le_of_lt h.z0.lt))⟩
theorem zz0 (w : World) : Bk w.heap.size ((w.alloc (.cells #[.int .i64 0, .int .i64 0, .int .i64 0, .int .i64 0, .int .i64 0, .int .i64 0, .int .i64 0, .int .i64 0, .int .u32 0, .int .u64 0, .int .u64 0, .int .u64 0, .int .u64 0, .slice none 0 0, .int .i64 0, .bool false, .slice none 0 0] 29)).alloc (.cells #[.int .i64 0, .int .i64 0, .int .i64 0, .int .i64 0, .int .i64 0, .int .i64 0, .int .i64 0, .int .i64 0, .int .u32 0, .int .u64 0, .int .u64 0, .int .u64 0, .int .u64 0, .slice none 0 0, .int .i64 0, .bool false, .slice none 0 0] 29)) #[.int .i64 0, .int .i64 0, .int .i64 0, .int .i64 0, .int .i64 0, .int .i64 0, .int .i64 0, .int .i64 0, .int .u32 0, .int .u64 0, .int .u64 0, .int .u64 0, .int .u64 0, .slice none 0 0, .int .i64 0, .bool false, .slice none 0 0] 29 := (Bk.new w _ _).alloc _
theorem zz1 (w : World) : Bk (w.heap.size + 1) ((w.alloc (.cells #[.int .i64 0, .int .i64 0, .int .i64 0, .int .i64 0, .int .i64 0, .int .i64 0, .int .i64 0, .int .i64 0, .int .u32 0, .int .u64 0, .int .u64 0, .int .u64 0, .int .u64 0, .slice none 0 0, .int .i64 0, .bool false, .slice none 0 0] 29)).alloc (.cells #[.int .i64 0, .int .i64 0, .int .i64 0, .int .i64 0, .int .i64 0, .int .i64 0, .int .i64 0, .int .i64 0, .int .u32 0, .int .u64 0, .int .u64 0, .int .u64 0, .int .u64 0, .slice none 0 0, .int .i64 0, .bool false, .slice none 0 0] 29)) #[.int .i64 0, .int .i64 0, .int .i64 0, .int .i64 0, .int .i64 0, .int .i64 0, .int .i64 0, .int .i64 0, .int .u32 0, .int .u64 0, .int .u64 0, .int .u64 0, .int .u64 0, .slice none 0 0, .int .i64 0, .bool false, .slice none 0 0] 29 := by
  have := Bk.new (w.alloc (.cells #[.int .i64 0, .int .i64 0, .int .i64 0, .int .i64 0, .int .i64 0, .int .i64 0, .int .i64 0, .int .i64 0, .int .u32 0, .int .u64 0, .int .u64 0, .int .u64 0, .int .u64 0, .slice none 0 0, .int .i64 0, .bool false, .slice none 0 0] 29)) #[.int .i64 0, .int .i64 0, .int .i64 0, .int .i64 0, .int .i64 0, .int .i64 0, .int .i64 0, .int .i64 0, .int .u32 0, .int .u64 0, .int .u64 0, .int .u64 0, .int .u64 0, .slice none 0 0, .int .i64 0, .bool false, .slice none 0 0] 29
  simpa using this
theorem zzb (w : World) : Below w.heap.size w ((w.alloc (.cells #[.int .i64 0, .int .i64 0, .int .i64 0, .int .i64 0, .int .i64 0, .int .i64 0, .int .i64 0, .int .i64 0, .int .u32 0, .int .u64 0, .int .u64 0, .int .u64 0, .int .u64 0, .slice none 0 0, .int .i64 0, .bool false, .slice none 0 0] 29)).alloc (.cells #[.int .i64 0, .int .i64 0, .int .i64 0, .int .i64 0, .int .i64 0, .int .i64 0, .int .i64 0, .int .i64 0, .int .u32 0, .int .u64 0, .int .u64 0, .int .u64 0, .int .u64 0, .slice none 0 0, .int .i64 0, .bool false, .slice none 0 0] 29)) := ((Below.refl _ _).alloc (Nat.le_refl _) _).alloc (by simp) _
theorem zy0 (w : World) : Bk w.heap.size (((w.alloc (.cells #[.int .i64 0, .int .i64 0, .int .i64 0, .int .i64 0, .int .i64 0, .int .i64 0, .int .i64 0, .int .i64 0, .int .u32 0, .int .u64 0, .int .u64 0, .int .u64 0, .int .u64 0, .slice none 0 0, .int .i64 0, .bool false, .slice none 0 0] 29)).alloc (.cells #[.int .i64 0, .int .i64 0, .int .i64 0, .int .i64 0, .int .i64 0, .int .i64 0, .int .i64 0, .int .i64 0, .int .u32 0, .int .u64 0, .int .u64 0, .int .u64 0, .int .u64 0, .slice none 0 0, .int .i64 0, .bool false, .slice none 0 0] 29)).setRow (w.heap.size + 1) #[.int .i64 0, .int .i64 0, .int .i64 0, .int .i64 0, .int .i64 0, .int .i64 0, .int .i64 0, .int .i64 0, .int .u32 0, .int .u64 0, .int .u64 0, .int .u64 0, .int .u64 0, .slice none 0 0, .int .i64 0, .bool false, .slice none 0 0]) #[.int .i64 0, .int .i64 0, .int .i64 0, .int .i64 0, .int .i64 0, .int .i64 0, .int .i64 0, .int .i64 0, .int .u32 0, .int .u64 0, .int .u64 0, .int .u64 0, .int .u64 0, .slice none 0 0, .int .i64 0, .bool false, .slice none 0 0] 29 := (zz0 w).mod (mod_row _ _ _) (by omega)
theorem zy1 (w : World) : Bk (w.heap.size + 1) (((w.alloc (.cells #[.int .i64 0, .int .i64 0, .int .i64 0, .int .i64 0, .int .i64 0, .int .i64 0, .int .i64 0, .int .i64 0, .int .u32 0, .int .u64 0, .int .u64 0, .int .u64 0, .int .u64 0, .slice none 0 0, .int .i64 0, .bool false, .slice none 0 0] 29)).alloc (.cells #[.int .i64 0, .int .i64 0, .int .i64 0, .int .i64 0, .int .i64 0, .int .i64 0, .int .i64 0, .int .i64 0, .int .u32 0, .int .u64 0, .int .u64 0, .int .u64 0, .int .u64 0, .slice none 0 0, .int .i64 0, .bool false, .slice none 0 0] 29)).setRow (w.heap.size + 1) #[.int .i64 0, .int .i64 0, .int .i64 0, .int .i64 0, .int .i64 0, .int .i64 0, .int .i64 0, .int .i64 0, .int .u32 0, .int .u64 0, .int .u64 0, .int .u64 0, .int .u64 0, .slice none 0 0, .int .i64 0, .bool false, .slice none 0 0]) #[.int .i64 0, .int .i64 0, .int .i64 0, .int .i64 0, .int .i64 0, .int .i64 0, .int .i64 0, .int .i64 0, .int .u32 0, .int .u64 0, .int .u64 0, .int .u64 0, .int .u64 0, .slice none 0 0, .int .i64 0, .bool false, .slice none 0 0] 29 := (zz1 w).row
theorem zyb (w : World) : Below w.heap.size w (((w.alloc (.cells #[.int .i64 0, .int .i64 0, .int .i64 0, .int .i64 0, .int .i64 0, .int .i64 0, .int .i64 0, .int .i64 0, .int .u32 0, .int .u64 0, .int .u64 0, .int .u64 0, .int .u64 0, .slice none 0 0, .int .i64 0, .bool false, .slice none 0 0] 29)).alloc (.cells #[.int .i64 0, .int .i64 0, .int .i64 0, .int .i64 0, .int .i64 0, .int .i64 0, .int .i64 0, .int .i64 0, .int .u32 0, .int .u64 0, .int .u64 0, .int .u64 0, .int .u64 0, .slice none 0 0, .int .i64 0, .bool false, .slice none 0 0] 29)).setRow (w.heap.size + 1) #[.int .i64 0, .int .i64 0, .int .i64 0, .int .i64 0, .int .i64 0, .int .i64 0, .int .i64 0, .int .i64 0, .int .u32 0, .int .u64 0, .int .u64 0, .int .u64 0, .int .u64 0, .slice none 0 0, .int .i64 0, .bool false, .slice none 0 0]) := below_mod (zzb w) (mod_row _ _ _) (by simp; omega) (by omega)
theorem Bk.below_row {w v : World} {c : Array Value} (h : Below w.heap.size w v) (hz : w.heap.size < v.heap.size) : Below w.heap.size w (v.setRow w.heap.size c) := below_mod h (mod_row _ _ _) (Nat.le_of_lt hz) (Nat.le_refl _)
theorem step_ld {ops : Array Oper} {rest : List Oper} {o : Oper} {a : Act} {w : World} {Q : Exit → Act → World → Prop} (x : Operand) (ho : o.op = .load 29 x) (hw : o.guard = none)
    (g : Nat) (cs : Array Value) (hs : cs.size = 17) (hB : Pb g w cs) (hx : a.eval x = .pointer (some ⟨g, 0, none⟩))
    (h : wpList Try.prog ops Q rest (a.put o.dst (.agg cs)) w) : wpList Try.prog ops Q (o :: rest) a w := step_pk (by simp [Region.wanted, hw]) x ho g hx cs hs hB h
theorem step_st {ops : Array Oper} {rest : List Oper} {o : Oper} {a : Act} {w : World} {Q : Exit → Act → World → Prop} (x y : Operand) (ho : o.op = .store 29 x y) (hw : o.guard = none)
    (g : Nat) (cells old : Array Value) (hs : cells.size = 17) (hold : old.size = 17) (h1 : cells.all (·.oneCell') = true) (hB : Bk g w old 29) (hx : a.eval x = .pointer (some ⟨g, 0, none⟩)) (hy : a.eval y = .agg cells)
    (h : wpList Try.prog ops Q rest (a.put o.dst undef) (w.setRow g cells)) : wpList Try.prog ops Q (o :: rest) a w := step_spk (by simp [Region.wanted, hw]) x y ho g cells hx hy old hB hs hold h1 h
theorem zs17 : (#[.int .i64 0, .int .i64 0, .int .i64 0, .int .i64 0, .int .i64 0, .int .i64 0, .int .i64 0, .int .i64 0, .int .u32 0, .int .u64 0, .int .u64 0, .int .u64 0, .int .u64 0, .slice none 0 0, .int .i64 0, .bool false, .slice none 0 0] : Array Value).size = 17 := rfl
theorem za17 : (#[.int .i64 0, .int .i64 0, .int .i64 0, .int .i64 0, .int .i64 0, .int .i64 0, .int .i64 0, .int .i64 0, .int .u32 0, .int .u64 0, .int .u64 0, .int .u64 0, .int .u64 0, .slice none 0 0, .int .i64 0, .bool false, .slice none 0 0] : Array Value).all (·.oneCell') = true := by kernel_rfl
def slen : Value → Nat
  | .slice _ n _ => n
  | _ => 0
/-- the loop's memory -/
structure RL (w v : World) (cs : Value → Array Value) (s ev : Value) (xs : List Xt) (b1 b2 : List Int) : Prop where
  pc : PC w v (cs ev)
  ox : OX v (w.heap.size + 3) ev xs
  sv : Sv w.heap.size w s b2
  sq : Sq b1 xs b2
  ln : b2.length ≤ 512
theorem PC.drew {w v : World} {cs : Array Value} (h : PC w v cs) : PC w v.drew cs := ⟨h.z0.drew, h.z1.drew, h.c.drew, h.bl.drew⟩
/-- behind append -/
theorem RL.app {w w7 w8 : World} {cs : Array Value} {ea : Option Addr} {en ec : Nat} {xs : List Xt} {ty : Int} {dv : Value} {dat : List Int} {v8 : Value} (pc : PC w w7 cs) (ox : OX w7 (w.heap.size + 3) (.slice ea en ec) xs) (od : Own w7 (w.heap.size + 3) dv dat) (hen : en = xs.length)
    (hr8 : w8.ownsRow (w.heap.size + 3) 49 2 v8 (en + 1) (XU xs ++ [.int .i64 ty, dv])) (hg8 : (w7.alloc (.cells #[.int .i64 ty, dv] 49)).grownBy w8 (Value.slice ea en ec).ownBlock) :
    ∃ ea8 en8 ec8, v8 = .slice ea8 en8 ec8 ∧ PC w w8 cs ∧ OX w8 (w.heap.size + 3) v8 (xs ++ [⟨ty, dv, dat⟩]) := by
  have hpl := pc.c.lt
  have ox' := ox.alloc (.cells #[.int .i64 ty, dv] 49)
  have hb8 : Below (w.heap.size + 3) (w7.alloc (.cells #[.int .i64 ty, dv] 49)) w8 := (Below.refl _ _).grown hg8 (by simp; omega) (fun k e => (ox'.row.lt k e).1)
  obtain ⟨ea8, en8, ec8, hv8⟩ : ∃ a n c, v8 = .slice a n c := by
    rcases hr8.2 with ⟨k1, _⟩ | ⟨g, cap, cur, k1, _⟩
    · exact ⟨_, _, _, k1⟩
    · exact ⟨_, _, _, k1⟩
  refine ⟨ea8, en8, ec8, hv8, ⟨(pc.z0.alloc _).below hb8 (by omega), (pc.z1.alloc _).below hb8 (by omega), (pc.c.alloc _).below hb8 (by omega), (pc.bl.alloc (by omega) _).trans (hb8.mono (by omega))⟩, ?_⟩
  rw [hen] at hr8
  exact ox'.kept hr8 hg8 (World.ownsRow.alloc od _)
theorem dcE_in {bs : List Int} (h0 : 48 ≤ bs.length) (h1 : bs.length ≤ 512) (hv : vmB bs = true) : dcE bs = if (dL 4 (bs.drop 48)).1 = 0 then enE (dL 4 (bs.drop 48)).2.2 0 else (dL 4 (bs.drop 48)).1 := by
  unfold dcE; rw [if_neg (by omega), if_neg (by omega), if_pos hv]
theorem dcE_vm {bs : List Int} (h0 : 48 ≤ bs.length) (h1 : bs.length ≤ 512) (hv : vmB bs = false) : dcE bs = 32 := by
  unfold dcE; rw [if_neg (by omega), if_neg (by omega), if_neg (by rw [hv]; decide)]
theorem dcE_l {bs : List Int} {E : Int} (h0 : 48 ≤ bs.length) (h1 : bs.length ≤ 512) (hv : vmB bs = true) (h : (dL 4 (bs.drop 48)).1 = E) (hE : E ≠ 0) : dcE bs = E := by
  rw [dcE_in h0 h1 hv, h, if_neg hE]
theorem dcE_s {bs b2 : List Int} {ps : List (Int × List Int)} (h0 : 48 ≤ bs.length) (h1 : bs.length ≤ 512) (hv : vmB bs = true) (h : dL 4 (bs.drop 48) = (0, ps, b2)) : dcE bs = enE b2 0 := by
  rw [dcE_in h0 h1 hv, h, if_pos rfl]
/-- the end, four bytes -/
theorem en4 {b : List Int} (h : b.length = 4) : enE b 0 = (if gt b = 0 then 0 else 32) ∧ enK b 0 = 0 ∧ enM b 0 = [] := by
  have t := tk_0 4 b (by omega)
  have t1 : tkE 4 b 0 = 0 := t.1
  have t2 : tkT 4 b 0 = b.take 4 := t.2.1
  refine ⟨?_, by unfold enK; rw [if_neg (by omega)], by unfold enM; rw [if_neg (by omega)]⟩
  unfold enE
  rw [if_neg (by omega), if_pos h, t1, t2, rk_0, List.take_of_length_le (by omega)]
  by_cases hg : gt b = 0
  · rw [hg]; rfl
  · rw [if_neg hg, if_neg (by simpa using hg)]
theorem enT {b : List Int} (h4 : b.length ≠ 4) : (tG b → enE b 0 = 0 ∧ enK b 0 = tK b ∧ enM b 0 = b.drop 4) ∧ (¬ tG b → enE b 0 = 32) := by
  obtain ⟨e1, e2, e3⟩ := en_tail b
  rw [show (!(decide (b.length = 4))) = true by simp [h4]] at e1 e2
  have hk : rk true (enE b 0) 32 = enE b 0 := by
    by_cases hz : enE b 0 = 0
    · rw [hz]; rfl
    · rw [rk_ne hz]
  rw [hk] at e1 e2
  refine ⟨fun h => ⟨e2.2 h, e3 h⟩, fun h => ?_⟩
  rcases e1 with e | e
  · exact absurd (e2.1 e) h
  · exact e
end Go.Proofs.Ytdobghhjlfffpaa
