/- What the reader's methods of package wire do: ask, take, number, bytes. -/
import Derived.Test.YtdobghhjlfffpaaWE
namespace Go.Proofs.Ytdobghhjlfffpaa
open Go.RowKit
/-- a reader in block q: the bytes that are left (they lie below block N), its error -/
structure Rd (N q : Nat) (w : World) (ao : Option Addr) (cap : Nat) (bs : List Int) (er : Int) : Prop where
  c0 : w.cell? ⟨q, 0, none⟩ = some (.slice ao bs.length cap)
  c1 : w.cell? ⟨q, 1, none⟩ = some (.int .i64 er)
  f : ∀ o, w.frozen? ⟨q, o, none⟩ = false
  hq : q < w.heap.size
  hN : N ≤ q
  rs : Rs N w ao bs
  ok : okb bs
  hc : bs.length ≤ cap
  hn : ao = none → cap = 0
def RdX (N q : Nat) (w : World) (bs : List Int) (er : Int) : Prop := ∃ ao cap, Rd N q w ao cap bs er
theorem Rs.mod {N q : Nat} {w w' : World} {ao : Option Addr} {bs : List Int} (h : Rs N w ao bs) (hg : w.grownBy w' (some q)) (hN : N ≤ q) (hq : q < w.heap.size) : Rs N w' ao bs := fun k hk => by
  obtain ⟨ad, h1, h2, h3⟩ := h k hk
  exact ⟨ad, h1, h2, by rw [World.cell?_of_block (w := w) (hg.block _ (by rw [add_block]; omega) (by rw [add_block]; intro e; injection e with e; omega))]; exact h3⟩
theorem mod_set (w : World) (q o : Nat) (v : Value) : w.grownBy (w.setCell ⟨q, o, none⟩ v) (some q) :=
  ⟨rfl, rfl, rfl, by simp [World.setCell], fun k _ hk => Below.heap_setCell _ _ _ _ (fun e => hk (by rw [e]))⟩
theorem mod_refl (w : World) (r : Option Nat) : w.grownBy w r := ⟨rfl, rfl, rfl, Nat.le_refl _, fun _ _ _ => rfl⟩
theorem mod_trans {a b c : World} {r : Option Nat} (h : a.grownBy b r) (k : b.grownBy c r) : a.grownBy c r :=
  ⟨k.os.trans h.os, k.tape.trans h.tape, k.output.trans h.output, Nat.le_trans h.size k.size, fun i hi hn => (k.block i (Nat.lt_of_lt_of_le hi h.size) hn).trans (h.block i hi hn)⟩
theorem mod_below {B : Nat} {w w' : World} {q : Nat} (h : Below B w w') (hB : w.heap.size ≤ B) : w.grownBy w' (some q) := ⟨h.os, h.tape, h.output, h.size, fun k hk _ => h.block k (by omega)⟩
theorem below_mod {B q : Nat} {w0 w w' : World} (h : Below B w0 w) (hg : w.grownBy w' (some q)) (hB : B ≤ w.heap.size) (hq : B ≤ q) : Below B w0 w' :=
  h.grown hg hB (fun k e => by injection e with e; omega)
/-- the error behind a question -/
def rk (ok : Bool) (er err : Int) : Int := if ok = false ∧ er = 0 then err else er
theorem Rd.err {N q : Nat} {w : World} {ao : Option Addr} {cap : Nat} {bs : List Int} {er : Int} (h : Rd N q w ao cap bs er) (e : Int) : Rd N q (w.setCell ⟨q, 1, none⟩ (.int .i64 e)) ao cap bs e :=
  ⟨by rw [World.cell?_setCell_other (h := by simp)]; exact h.c0, by rw [World.cell?_setCell_same (h := h.c1)], fun o => by simp [h.f o], by simpa [World.setCell] using h.hq, h.hN, h.rs.mod (mod_set w q 1 _) h.hN h.hq, h.ok, h.hc, h.hn⟩
theorem Rd.below {N q B : Nat} {w w' : World} {ao : Option Addr} {cap : Nat} {bs : List Int} {er : Int} (h : Rd N q w ao cap bs er) (hb : Below B w w') (hB : q < B) : Rd N q w' ao cap bs er :=
  ⟨by rw [hb.cell (p := ⟨q, 0, none⟩) hB]; exact h.c0, by rw [hb.cell (p := ⟨q, 1, none⟩) hB]; exact h.c1, fun o => by rw [hb.frozen (p := ⟨q, o, none⟩) hB]; exact h.f o, Nat.lt_of_lt_of_le h.hq hb.size, h.hN, h.rs.below hb (Nat.le_trans h.hN (Nat.le_of_lt hB)), h.ok, h.hc, h.hn⟩
theorem RdX.below {N q B : Nat} {w w' : World} {bs : List Int} {er : Int} (h : RdX N q w bs er) (hb : Below B w w') (hB : q < B) : RdX N q w' bs er := by
  obtain ⟨ao, cap, h⟩ := h
  exact ⟨ao, cap, h.below hb hB⟩
set_option maxHeartbeats 400000 in
theorem ask_rd (N q : Nat) (ao : Option Addr) (cap : Nat) (bs : List Int) (er err : Int) (ok : Bool) (w : World) (h : Rd N q w ao cap bs er) :
    Calls Try.prog 35 #[.pointer (some ⟨q, 0, none⟩), .bool ok, .int .i64 err] w fun e w' => e = .returned (.tuple #[]) ∧ w.grownBy w' (some q) ∧ Rd N q w' ao cap bs (rk ok er err) := by
  have H : Hid (Rd N q w ao cap bs er) := h
  have c1 := h.c1
  have f1 := h.f 1
  clear h
  cases ok
  · by_cases hz : er = 0
    · subst hz
      go_enter Try.func35, Try.ntmps35
      go_wp2
      exact Go.Great.bodyPost_end0 rfl rfl ⟨rfl, mod_set _ _ _ _, H.out.err err⟩
    · have hb : (er == 0) = false := by rw [beq_eq_false_iff_ne]; exact hz
      go_enter Try.func35, Try.ntmps35
      go_wp2
      refine Go.Great.bodyPost_end0 rfl rfl ⟨rfl, mod_refl _ _, ?_⟩
      unfold rk
      rw [if_neg (by simp [hz])]
      exact H.out
  · go_enter Try.func35, Try.ntmps35
    go_wp2
    refine Go.Great.bodyPost_end0 rfl rfl ⟨rfl, mod_refl _ _, ?_⟩
    unfold rk
    rw [if_neg (by simp)]
    exact H.out
theorem Rd.rest {N q : Nat} {w : World} {ao ao' : Option Addr} {cap cap' : Nat} {bs bs' : List Int} {er : Int} {n : Nat} (h : Rd N q w ao cap bs er) (hn : n = bs'.length) (hr : Rs N w ao' bs') (ho : okb bs') (hc : bs'.length ≤ cap') (hi : ao' = none → cap' = 0) :
    Rd N q (w.setCell ⟨q, 0, none⟩ (.slice ao' n cap')) ao' cap' bs' er :=
  ⟨by rw [World.cell?_setCell_same (h := h.c0), hn], by rw [World.cell?_setCell_other (h := by simp)]; exact h.c1, fun o => by simp [h.f o], by simpa [World.setCell] using h.hq, h.hN, hr.mod (mod_set w q 0 _) h.hN h.hq, ho, hc, hi⟩
theorem Rs.dropM {N : Nat} {w : World} {ao : Option Addr} {bs : List Int} (h : Rs N w ao bs) (m : Nat) : Rs N w (ao.map (fun x => x.add m)) (bs.drop m) := by
  cases ao with
  | none => intro k hk; rw [List.length_drop] at hk; obtain ⟨ad, h1, _⟩ := h k (by omega); cases h1
  | some ad => exact h.drop m
theorem ask_any (N q : Nat) (bs : List Int) (er err : Int) (ok : Bool) (w : World) (h : RdX N q w bs er) :
    Calls Try.prog 35 #[.pointer (some ⟨q, 0, none⟩), .bool ok, .int .i64 err] w fun e w' => e = .returned (.tuple #[]) ∧ w.grownBy w' (some q) ∧ RdX N q w' bs (rk ok er err) := by
  obtain ⟨ao, cap, h⟩ := h
  refine (ask_rd N q ao cap bs er err ok w h).mono ?_
  rintro e w' ⟨h1, h2, h3⟩
  exact ⟨h1, h2, ao, cap, h3⟩
theorem Rd.drew {N q : Nat} {w : World} {ao : Option Addr} {cap : Nat} {bs : List Int} {er : Int} (h : Rd N q w ao cap bs er) : Rd N q w.drew ao cap bs er := ⟨h.c0, h.c1, h.f, h.hq, h.hN, h.rs, h.ok, h.hc, h.hn⟩
theorem RdX.drew {N q : Nat} {w : World} {bs : List Int} {er : Int} (h : RdX N q w bs er) : RdX N q w.drew bs er := by obtain ⟨ao, cap, h⟩ := h; exact ⟨ao, cap, h.drew⟩
theorem mod_undrew {w w' : World} {r : Option Nat} (h : w.drew.grownBy w' r) : w.grownBy w' r := ⟨h.os, h.tape, h.output, h.size, h.block⟩
/-- what take hands out and leaves -/
def tkE (n : Int) (bs : List Int) (er : Int) : Int := rk (wiB n 0 bs.length) er 30
def tkT (n : Int) (bs : List Int) (er : Int) : List Int := if tkE n bs er = 0 then bs.take n.toNat else []
def tkR (n : Int) (bs : List Int) (er : Int) : List Int := if tkE n bs er = 0 then bs.drop n.toNat else bs
theorem rk_zero {ok : Bool} {er err : Int} (h : err ≠ 0) : rk ok er err = 0 ↔ er = 0 ∧ ok = true := by
  unfold rk
  cases ok <;> simp <;> omega
theorem wi_len (n : Int) (bs : List Int) : wiB n 0 bs.length = true ↔ 0 ≤ n ∧ n.toNat ≤ bs.length := by rw [wiB_iff]; omega
set_option maxHeartbeats 1000000 in
theorem take_any (N q : Nat) (bs : List Int) (er n : Int) (w : World) (h : RdX N q w bs er) :
    Calls Try.prog 60 #[.pointer (some ⟨q, 0, none⟩), .int .i64 n] w fun e w' => ∃ v, e = .returned v ∧ w.grownBy w' (some q) ∧ Sv N w' v (tkT n bs er) ∧ RdX N q w' (tkR n bs er) (tkE n bs er) := by
  obtain ⟨ao, cap, h⟩ := h
  have H : Hid (Rd N q w ao cap bs er) := h
  have c0 := h.c0
  clear h
  go_enter Try.func60, Try.ntmps60
  go_wp2_with (go_at_call 49; refine (within_any _ _ _ _).mono ?_; rintro e' w' ⟨rfl, hw⟩; rw [hw]; clear hw)
  refine (ask_any N q bs er 30 _ _ ⟨ao, cap, H.out⟩).mono ?_
  rintro e' w1 ⟨rfl, hg, ao1, cap1, h1⟩
  have H1 : Hid (w.grownBy w1 (some q) ∧ Rd N q w1 ao1 cap1 bs (tkE n bs er)) := ⟨hg, h1⟩
  have d0 := h1.c0
  have d1 := h1.c1
  have f0 := h1.f 0
  clear hg h1 c0
  obtain ⟨E, hE⟩ : ∃ E, E = tkE n bs er := ⟨_, rfl⟩
  have d1' : w1.cell? ⟨q, 1, none⟩ = some (.int .i64 E) := by rw [hE]; exact d1
  clear d1
  by_cases hz : E = 0
  · have hEz := hE ▸ hz
    have hw := (rk_zero (by decide)).1 hEz
    rw [wi_len] at hw
    obtain ⟨j, rfl⟩ := Int.eq_ofNat_of_zero_le hw.2.1
    have hj : j ≤ bs.length := hw.2.2
    subst hz
    have hjl : (j : Int) ≤ bs.length := by omega
    have hbc : (bs.length : Int) ≤ cap1 := by have := H1.out.2.hc; omega
    clear hE hw
    have tT : tkT j bs er = bs.take j := by unfold tkT; rw [if_pos hEz]; rfl
    have tR : tkR j bs er = bs.drop j := by unfold tkR; rw [if_pos hEz]; rfl
    have HT : Hid (tkT j bs er = bs.take j ∧ tkR j bs er = bs.drop j ∧ tkE j bs er = 0) := ⟨tT, tR, hEz⟩
    have hj' : Hid (j ≤ bs.length) := hj
    clear tT tR hEz hj
    by_cases hcj : cap1 = j
    rotate_left
    · go_wp2
      go_ret
      have R := H1.out.2
      rw [HT.out.2.2] at R
      have hjb := hj'.out
      refine ⟨_, rfl, mod_trans H1.out.1 (mod_set _ _ _ _), ?_, ?_⟩
      · rw [HT.out.1]
        refine ⟨ao1, cap1, by rw [List.length_take, Nat.min_eq_left hjb]; rfl, by rw [List.length_take]; have := R.hc; omega, R.hn, (R.rs.take j).mod (mod_set _ _ _ _) R.hN R.hq, okb_take R.ok j⟩
      · rw [HT.out.2.1, HT.out.2.2]
        exact ⟨_, _, R.rest (by rw [List.length_drop]) (R.rs.dropM j) (okb_drop R.ok j) (by rw [List.length_drop]; have := R.hc; omega) (fun e => by have := R.hn (by simpa using e); omega)⟩
    · subst hcj
      go_wp2
      go_ret
      have R := H1.out.2
      rw [HT.out.2.2] at R
      have hjb := hj'.out
      have hc := R.hc
      have hd : bs.drop cap1 = [] := List.drop_eq_nil_of_le hc
      refine ⟨_, rfl, mod_trans H1.out.1 (mod_set _ _ _ _), ?_, ?_⟩
      · rw [HT.out.1]
        refine ⟨ao1, cap1, by rw [List.length_take, Nat.min_eq_left hjb]; rfl, by rw [List.length_take]; omega, R.hn, (R.rs.take cap1).mod (mod_set _ _ _ _) R.hN R.hq, okb_take R.ok cap1⟩
      · rw [HT.out.2.1, HT.out.2.2, hd]
        exact ⟨_, _, R.rest (by simp; omega) (Rs.nil _ _ _) okb_nil (by simp) (fun _ => rfl)⟩
  · have hb : (E != 0) = true := by rw [bne_iff_ne]; exact hz
    go_wp2
    go_ret
    have e0 : tkE n bs er ≠ 0 := by rw [← hE]; exact hz
    refine ⟨_, rfl, H1.out.1, ?_, ao1, cap1, ?_⟩
    · unfold tkT; rw [if_neg e0]; exact Sv.nil _ _
    · unfold tkR; rw [if_neg e0]; exact H1.out.2
/-- a number of bytes, the highest first -/
def gt (bs : List Int) : Int := bs.foldl (fun n b => n * 256 + b) 0
theorem gt_snoc (bs : List Int) (b : Int) : gt (bs ++ [b]) = gt bs * 256 + b := by unfold gt; rw [List.foldl_append]; rfl
theorem take_snoc (bs : List Int) (k : Nat) (h : k < bs.length) : bs.take (k + 1) = bs.take k ++ [bs.getD k 0] := by
  rw [List.take_succ_eq_append_getElem h, List.getD_eq_getElem?_getD, List.getElem?_eq_getElem h]; rfl
theorem gt_bd {bs : List Int} (h : okb bs) : 0 ≤ gt bs ∧ gt bs < (256 : Int) ^ bs.length := by
  suffices H : ∀ k, k ≤ bs.length → 0 ≤ gt (bs.take k) ∧ gt (bs.take k) < (256 : Int) ^ k by
    have := H bs.length (Nat.le_refl _); rwa [List.take_length] at this
  intro k
  induction k with
  | zero => intro _; simp [gt]
  | succ k ih =>
    intro hk
    have h1 := ih (by omega)
    have h2 := okb_at h k
    rw [take_snoc bs k (by omega), gt_snoc, Int.pow_succ]
    generalize (256 : Int) ^ k = P at *
    omega
theorem gt_lt {bs : List Int} (h : okb bs) (k : Nat) (hk : k ≤ 7) : 0 ≤ gt (bs.take k) ∧ gt (bs.take k) < 72057594037927936 := by
  have h1 := gt_bd (okb_take h k)
  refine ⟨h1.1, Int.lt_of_lt_of_le h1.2 ?_⟩
  have h2 : (bs.take k).length ≤ 7 := by rw [List.length_take]; omega
  generalize (bs.take k).length = m at *
  have h4 : m = 0 ∨ m = 1 ∨ m = 2 ∨ m = 3 ∨ m = 4 ∨ m = 5 ∨ m = 6 ∨ m = 7 := by omega
  clear h1 h2
  rcases h4 with rfl | rfl | rfl | rfl | rfl | rfl | rfl | rfl <;> decide
theorem idx_run {ao : Option Addr} {ad : Addr} (n cap k : Nat) (h : ao = some ad) (hk : (k : Int) < n) (w : World) : Sem.run Try.prog (Instr.indexAt 27 (.slice ao n cap) (.int .i64 (k : Int))) w = .ok (.pointer (some (ad.add k))) w := by
  subst h
  have u46 := Try.underlying27
  have u3 := Try.underlying5
  have c3 : Try.prog.cellsOf 5 = 1 := by kernel_rfl
  have h0 : (0 : Int) ≤ k := Int.natCast_nonneg k
  go_simp
set_option maxHeartbeats 1000000 in
theorem rnumber_any (N q : Nat) (bs : List Int) (er : Int) (n : Nat) (w : World) (hn : n ≤ 8) (h : RdX N q w bs er) :
    Calls Try.prog 56 #[.pointer (some ⟨q, 0, none⟩), .int .i64 (n : Int)] w fun e w' => e = .returned (.int .u64 (gt (tkT n bs er))) ∧ w.grownBy w' (some q) ∧ RdX N q w' (tkR n bs er) (tkE n bs er) := by
  have H : Hid (RdX N q w bs er) := h
  have hn' : Hid (n ≤ 8) := hn
  clear h hn
  go_enter Try.func56, Try.ntmps56
  go_wp2_with fail
  refine (take_any N q bs er n _ H.out).mono ?_
  rintro e' w1 ⟨v1, rfl, hg, hv, hr⟩
  have H1 : Hid (w.grownBy w1 (some q) ∧ RdX N q w1 (tkR n bs er) (tkE n bs er)) := ⟨hg, hr⟩
  clear hg hr H
  have hTl : (tkT n bs er).length ≤ 8 := by
    have := hn'.out
    unfold tkT
    split
    · rw [List.length_take]; omega
    · simp
  obtain ⟨T, hT⟩ : ∃ T, T = tkT n bs er := ⟨_, rfl⟩
  rw [← hT] at hv hTl
  have HT : Hid (T = tkT n bs er) := hT
  obtain ⟨ao, cap, rfl, hc, hcn, hrs, hok⟩ := hv
  have HR : Hid (Rs N w1 ao T ∧ okb T) := ⟨hrs, hok⟩
  have hTl' : (T.length : Int) ≤ 8 := by omega
  have HTl : Hid (T.length ≤ 8) := hTl
  clear hrs hok hT hc hcn hTl
  go_wp2
  go_loop [5, 12] (fun x i => ∃ (k : Nat) (X : Int), x = .int .u64 X ∧ i = .int .i64 (k : Int) ∧ (k : Int) ≤ T.length ∧ Hid (X = gt (T.take k))) (fun _ i => (T.length - intOf i).toNat)
  case atStart => exact ⟨0, 0, rfl, rfl, by omega, by simp [gt, Hid]⟩
  case round =>
    obtain ⟨k, X, rfl, rfl, hk, hX⟩ := hrel
    by_cases hlt : (k : Int) < T.length
    · obtain ⟨ad, g1, g2⟩ := HR.out.1.at k (by omega)
      have hix : ∀ w, Sem.run Try.prog (Instr.indexAt 27 (.slice ao T.length cap) (.int .i64 (k : Int))) w = .ok (.pointer (some (ad.add k))) w := idx_run T.length cap k g1.out hlt
      obtain ⟨x0, x1⟩ := gt_lt HR.out.2 k (by have := HTl.out; omega)
      rw [← hX.out] at x0 x1
      obtain ⟨y0, y1⟩ := okb_at HR.out.2 k
      obtain ⟨b, hb⟩ : ∃ b, b = T.getD k 0 := ⟨_, rfl⟩
      rw [← hb] at y0 y1 g2
      have HB : Hid (b = T.getD k 0) := hb
      have e1 := u64_or_byte X b x0 x1 y0 y1
      clear hb
      go_wp2
      refine ⟨⟨k + 1, _, rfl, by go_num, by omega, ?_⟩, by simp [intOf]; omega⟩
      show _ = _
      rw [take_snoc T k (by omega), gt_snoc, ← hX.out, ← HB.out]
    · go_wp2
      go_ret
      have : T.take k = T := List.take_of_length_le (by omega)
      rw [this] at hX
      exact ⟨by rw [← HT.out, ← hX.out]; rfl, H1.out.1, H1.out.2⟩
end Go.Proofs.Ytdobghhjlfffpaa
