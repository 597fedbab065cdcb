/- The law WireControlBack: walked. -/
import Derived.Test.YtoljhmnghhhggabWO
import Derived.Test.YtoljhmnghhhggabWP
import Derived.Test.YtoljhmnghhhggabWQ
namespace Go.Proofs.Ytoljhmnghhhggab
open Go.RowKit
theorem DE_uniq {bs : List Int} {E E' : Int} (h : DE bs E) (h' : DE bs E') : E = E' := by
  by_cases l1 : 512 < bs.length
  · rw [h.1 l1, h'.1 l1]
  by_cases l2 : bs.length < 12
  · rw [h.2.1 l2, h'.2.1 l2]
  by_cases hg : cG bs ∧ tG (rst bs)
  · rw [h.2.2.2 (by omega) (by omega) hg, h'.2.2.2 (by omega) (by omega) hg]
  · rw [h.2.2.1 (by omega) (by omega) hg, h'.2.2.1 (by omega) (by omega) hg]
theorem DE_zero {bs : List Int} (h : DE bs 0) : 12 ≤ bs.length ∧ bs.length ≤ 512 ∧ cG bs ∧ tG (rst bs) := by
  by_cases l1 : 512 < bs.length
  · have := h.1 l1; omega
  by_cases l2 : bs.length < 12
  · have := h.2.1 l2; omega
  by_cases hg : cG bs ∧ tG (rst bs)
  · exact ⟨by omega, by omega, hg.1, hg.2⟩
  · have := h.2.2.1 (by omega) (by omega) hg; omega
theorem ecB_ok {ver : Int} {r e m : Bool} {op seq sta ass off : Int} {data : List Int} {key : Int} {mac : List Int} (hd : okb data) (hm : okb mac) : okb (ecB ver r e m op seq sta ass off data key mac) := by
  unfold ecB cmB cmH dg
  refine okb_app (okb_app (okb_app ?_ hd) (be_ok _ _)) ?_
  · exact okb_app (okb_app (okb_app (okb_app (okb_app (okb_app (be_ok _ _) (be_ok _ _)) (be_ok _ _)) (be_ok _ _)) (be_ok _ _)) (be_ok _ _)) (be_ok _ _)
  · split
    · exact okb_nil
    · exact okb_app (be_ok _ _) hm
theorem Sv.okb {N : Nat} {w : World} {v : Value} {bs : List Int} (h : Sv N w v bs) : okb bs := by obtain ⟨_, _, _, _, _, _, h⟩ := h; exact h
theorem ctV_inj {ver ver' : Int} {r r' e e' m m' : Bool} {op op' seq seq' sta sta' ass ass' off off' : Int} {dv dv' : Value} {key key' : Int} {mv mv' : Value} (h : ctV ver r e m op seq sta ass off dv key mv = ctV ver' r' e' m' op' seq' sta' ass' off' dv' key' mv') :
    ver = ver' ∧ r = r' ∧ e = e' ∧ m = m' ∧ op = op' ∧ seq = seq' ∧ sta = sta' ∧ ass = ass' ∧ off = off' ∧ dv = dv' ∧ key = key' ∧ mv = mv' := by
  unfold ctV at h
  simpa using h
theorem own_nil_len {w : World} {B : Nat} {bs : List Int} (h : Own w B (.slice none 0 0) bs) : bs = [] := by
  obtain ⟨ao, cap, hv, _⟩ := h.rs
  injection hv with _ h2 _
  exact List.length_eq_zero_iff.1 h2.symm
set_option maxRecDepth 8000 in
set_option maxHeartbeats 8000000 in
theorem back_long (ver : Int) (r e m : Bool) (op seq sta ass off : Int) (da : Option Addr) (dn dc : Nat) (key : Int) (ma : Option Addr) (mn mc : Nat) (ba : Option Addr) (bn bc : Nat) (w : World) (hdn : (dn : Int) ≤ 9223372036854775807) (hmn : (mn : Int) ≤ 9223372036854775807) (hbn : (bn : Int) ≤ 9223372036854775807) (h : 1048576 < dn ∨ 1048576 < mn ∨ 1048576 < bn) :
    Calls Try.prog 3 #[ctV ver r e m op seq sta ass off (.slice da dn dc) key (.slice ma mn mc), .slice ba bn bc] w fun e w' => e = .returned (.bool true) ∧ Below w.heap.size w w' := by
  obtain ⟨DN, hDN⟩ : ∃ x : Int, (dn : Int) = x := ⟨_, rfl⟩
  obtain ⟨MN, hMN⟩ : ∃ x : Int, (mn : Int) = x := ⟨_, rfl⟩
  obtain ⟨BN, hBN⟩ : ∃ x : Int, (bn : Int) = x := ⟨_, rfl⟩
  unfold ctV
  by_cases h1 : 1048576 < DN
  · go_enter Try.func3, Try.ntmps3
    go_wp2_with fail
    go_ret
    exact ⟨rfl, (by repeat' (first | with_reducible exact Below.refl _ _ | with_reducible refine Below.setCell ?_ (by first | (simp; done) | (simp; omega) | omega) _ | with_reducible refine below_drewN ?_ _ | with_reducible refine Below.drew ?_ | with_reducible refine Below.alloc ?_ (by first | (simp; done) | (simp; omega) | omega) _))⟩
  by_cases h2 : 1048576 < MN
  · go_enter Try.func3, Try.ntmps3
    go_wp2_with fail
    go_ret
    exact ⟨rfl, (by repeat' (first | with_reducible exact Below.refl _ _ | with_reducible refine Below.setCell ?_ (by first | (simp; done) | (simp; omega) | omega) _ | with_reducible refine below_drewN ?_ _ | with_reducible refine Below.drew ?_ | with_reducible refine Below.alloc ?_ (by first | (simp; done) | (simp; omega) | omega) _))⟩
  have h3 : 1048576 < BN := by omega
  go_enter Try.func3, Try.ntmps3
  go_wp2_with fail
  go_ret
  exact ⟨rfl, (by repeat' (first | with_reducible exact Below.refl _ _ | with_reducible refine Below.setCell ?_ (by first | (simp; done) | (simp; omega) | omega) _ | with_reducible refine below_drewN ?_ _ | with_reducible refine Below.drew ?_ | with_reducible refine Below.alloc ?_ (by first | (simp; done) | (simp; omega) | omega) _))⟩
set_option maxRecDepth 8000 in
set_option maxHeartbeats 16000000 in
theorem back_main (ver : Int) (r e m : Bool) (op seq sta ass off : Int) (dv : Value) (key : Int) (mv bv : Value) (data mac b : List Int) (w : World) (hd : Sv w.heap.size w dv data) (hm : Sv w.heap.size w mv mac) (hb : Sv w.heap.size w bv b) (ld : data.length ≤ 1048576) (lm : mac.length ≤ 1048576) (lb : b.length ≤ 1048576) :
    Calls Try.prog 3 #[ctV ver r e m op seq sta ass off dv key mv, bv] w fun e w' => e = .returned (.bool true) ∧ Below w.heap.size w w' := by
  have HD : Hid (Sv w.heap.size w dv data) := hd
  have HM : Hid (Sv w.heap.size w mv mac) := hm
  have HBv : Hid (Sv w.heap.size w bv b) := hb
  have hokd := hd.okb
  have hokm := hm.okb
  have HOK : Hid (okb b) := hb.okb
  obtain ⟨da, dc, rfl, -⟩ := hd
  obtain ⟨ma, mc, rfl, -⟩ := hm
  obtain ⟨ba, bc, rfl, -⟩ := hb
  obtain ⟨dn, hdn⟩ : ∃ x, x = data.length := ⟨_, rfl⟩
  obtain ⟨mn, hmn⟩ : ∃ x, x = mac.length := ⟨_, rfl⟩
  obtain ⟨bn, hbn⟩ : ∃ x, x = b.length := ⟨_, rfl⟩
  have HLN : Hid (data.length ≤ 1048576 ∧ mac.length ≤ 1048576 ∧ b.length ≤ 1048576) := ⟨ld, lm, lb⟩
  rw [← hdn] at HD ⊢
  rw [← hmn] at HM ⊢
  rw [← hbn] at HBv ⊢
  obtain ⟨E0, hE0⟩ : ∃ x, x = ccE ver op seq sta ass off key dn mn := ⟨_, rfl⟩
  have HRC : Hid (∀ (w : World), Calls Try.prog 5 #[.agg #[.int .i64 ver, .bool r, .bool e, .bool m, .int .i64 op, .int .i64 seq, .int .i64 sta, .int .i64 ass, .int .i64 off, .slice da dn dc, .int .i64 key, .slice ma mn mc]] w fun e' w' => e' = .returned (.int .i64 E0) ∧ Below w.heap.size w w') := fun w' => by
    rw [hE0]; exact rcheckControl_any ver r e m op seq sta ass off da dn dc key ma mn mc w' (by omega) (by omega)
  have HEr : Hid (E0 ≠ 0 → ∀ (w : World), Calls Try.prog 4 #[.agg #[.int .i64 ver, .bool r, .bool e, .bool m, .int .i64 op, .int .i64 seq, .int .i64 sta, .int .i64 ass, .int .i64 off, .slice da dn dc, .int .i64 key, .slice ma mn mc]] w fun e' w' => e' = .returned (.tuple #[.slice none 0 0, .int .i64 E0]) ∧ Below w.heap.size w w') := fun hn w' => by
    rw [hE0] at hn ⊢; exact encodeControl_err ver r e m op seq sta ass off da dn dc key ma mn mc w' (by omega) (by omega) hn
  obtain ⟨xs, hxs⟩ : ∃ xs, xs = ecB ver r e m op seq sta ass off data key mac := ⟨_, rfl⟩
  have HOk : Hid (E0 = 0 → ∀ (w' : World), Below w.heap.size w w' → w.heap.size ≤ w'.heap.size → Calls Try.prog 4 #[.agg #[.int .i64 ver, .bool r, .bool e, .bool m, .int .i64 op, .int .i64 seq, .int .i64 sta, .int .i64 ass, .int .i64 off, .slice da dn dc, .int .i64 key, .slice ma mn mc]] w' fun e' w2 => ∃ v, e' = .returned (.tuple #[v, .int .i64 0]) ∧ Below w'.heap.size w' w2 ∧ Own w2 w'.heap.size v xs) := fun hn w' hb hs => by
    rw [hE0, hdn, hmn] at hn
    have := encodeControl_ok ver r e m op seq sta ass off (.slice da data.length dc) (.slice ma mac.length mc) data mac key w' (by rw [← hdn]; exact (HD.out.below hb (Nat.le_refl _)).mono hs) (by rw [← hmn]; exact (HM.out.below hb (Nat.le_refl _)).mono hs) hn
    rw [← hxs, ← hdn, ← hmn] at this
    exact this
  have HBk : Hid (E0 = 0 → (12 ≤ xs.length ∧ xs.length ≤ 512) ∧ cG xs ∧ tG (rst xs) ∧ okb xs ∧
      (∀ ver' r' e' m' op' seq' sta' ass' off' data' key' mac', DV xs ver' r' e' m' op' seq' sta' ass' off' data' key' mac' → ver' = ver ∧ r' = r ∧ e' = e ∧ m' = m ∧ op' = op ∧ seq' = seq ∧ sta' = sta ∧ ass' = ass ∧ off' = off ∧ data' = data ∧ key' = key ∧ mac' = mac)) := fun hn => by
    rw [hE0, hdn, hmn] at hn
    have := back_pure (r := r) (e := e) (m := m) hn
    rw [← hxs] at this
    exact ⟨this.1, this.2.1, this.2.2.1, by rw [hxs]; exact ecB_ok hokd hokm, this.2.2.2⟩
  have b1 : (dn : Int) ≤ 1048576 := by omega
  have b2 : (mn : Int) ≤ 1048576 := by omega
  have b3 : (bn : Int) ≤ 1048576 := by omega
  clear hdn hmn hbn ld lm lb hE0 hxs hokd hokm
  unfold ctV
  go_enter Try.func3, Try.ntmps3
  go_wp2_with fail
  rcases Classical.em (E0 = 0) with hz | hz
  rotate_left
  refine (HEr.out hz _).mono ?_
  rintro e' w1 ⟨rfl, hb1⟩
  have K1 : Hid (Ck w.heap.size w1 #[.int .i64 ver, .bool r, .bool e, .bool m, .int .i64 op, .int .i64 seq, .int .i64 sta, .int .i64 ass, .int .i64 off, .slice da dn dc, .int .i64 key, .slice ma mn mc]) := (Ck.new w _ 24).below hb1 (by simp)
  have B1 : Hid (Below w.heap.size w w1) := Below.trans (by repeat' (first | with_reducible exact Below.refl _ _ | with_reducible refine Below.setCell ?_ (by first | (simp; done) | (simp; omega) | omega) _ | with_reducible refine below_drewN ?_ _ | with_reducible refine Below.drew ?_ | with_reducible refine Below.alloc ?_ (by first | (simp; done) | (simp; omega) | omega) _)) (hb1.mono (by simp))
  clear hb1
  obtain ⟨c0, c1, c2, c3, c4, c5, c6, c7, c8, c9, c10, c11⟩ := K1.out.c12
  have hq0 : (E0 == 0) = false := by rw [beq_eq_false_iff_ne]; exact hz
  clear hz
  go_wp2_with fail
  refine (HRC.out _).mono ?_
  rintro e' W5 ⟨rfl, hb2⟩
  have B5 : Hid (Below w.heap.size w W5) := B1.out.trans (hb2.mono (Nat.le_of_lt K1.out.lt))
  clear hb2 c0 c1 c2 c3 c4 c5 c6 c7 c8 c9 c10 c11 K1 B1
  go_wp2_with fail
  rotate_left
  subst hz
  refine (HOk.out rfl _ (by repeat' (first | with_reducible exact Below.refl _ _ | with_reducible refine Below.setCell ?_ (by first | (simp; done) | (simp; omega) | omega) _ | with_reducible refine below_drewN ?_ _ | with_reducible refine Below.drew ?_ | with_reducible refine Below.alloc ?_ (by first | (simp; done) | (simp; omega) | omega) _)) (by simp)).mono ?_
  rintro e' w1 ⟨x, rfl, hb1, ho1⟩
  have K1 : Hid (Ck w.heap.size w1 #[.int .i64 ver, .bool r, .bool e, .bool m, .int .i64 op, .int .i64 seq, .int .i64 sta, .int .i64 ass, .int .i64 off, .slice da dn dc, .int .i64 key, .slice ma mn mc]) := (Ck.new w _ 24).below hb1 (by simp)
  have B1 : Hid (Below w.heap.size w w1) := Below.trans (by repeat' (first | with_reducible exact Below.refl _ _ | with_reducible refine Below.setCell ?_ (by first | (simp; done) | (simp; omega) | omega) _ | with_reducible refine below_drewN ?_ _ | with_reducible refine Below.drew ?_ | with_reducible refine Below.alloc ?_ (by first | (simp; done) | (simp; omega) | omega) _)) (hb1.mono (by simp))
  obtain ⟨⟨x12, x512⟩, xG, xT, xok, xV⟩ := HBk.out rfl
  have SX : Hid (Sv w1.heap.size w1 x xs) := ho1.sv xok
  obtain ⟨xa, xc, hx, -⟩ := ho1.rs
  subst hx
  have HX : Hid ((12 ≤ xs.length ∧ xs.length ≤ 512) ∧ (cG xs ∧ tG (rst xs)) ∧ (∀ ver' r' e' m' op' seq' sta' ass' off' data' key' mac', DV xs ver' r' e' m' op' seq' sta' ass' off' data' key' mac' → ver = ver' ∧ r = r' ∧ e = e' ∧ m = m' ∧ op = op' ∧ seq = seq' ∧ sta = sta' ∧ ass = ass' ∧ off = off' ∧ data = data' ∧ key = key' ∧ mac = mac')) := ⟨⟨x12, x512⟩, ⟨xG, xT⟩, fun _ _ _ _ _ _ _ _ _ _ _ _ h => by obtain ⟨a1, a2, a3, a4, a5, a6, a7, a8, a9, a10, a11, a12⟩ := xV _ _ _ _ _ _ _ _ _ _ _ _ h; exact ⟨a1.symm, a2.symm, a3.symm, a4.symm, a5.symm, a6.symm, a7.symm, a8.symm, a9.symm, a10.symm, a11.symm, a12.symm⟩⟩
  obtain ⟨xn, hxn⟩ : ∃ n, n = xs.length := ⟨_, rfl⟩
  rw [← hxn] at SX ⊢
  clear hb1 ho1 x12 x512 xG xT xok xV hxn
  obtain ⟨c0, c1, c2, c3, c4, c5, c6, c7, c8, c9, c10, c11⟩ := K1.out.c12
  go_wp2_with fail
  refine (HRC.out _).mono ?_
  rintro e' w2 ⟨rfl, hb2⟩
  have K2 : Hid (Ck w.heap.size w2 #[.int .i64 ver, .bool r, .bool e, .bool m, .int .i64 op, .int .i64 seq, .int .i64 sta, .int .i64 ass, .int .i64 off, .slice da dn dc, .int .i64 key, .slice ma mn mc]) := K1.out.below hb2 K1.out.lt
  have B2 : Hid (Below w.heap.size w w2) := B1.out.trans (hb2.mono (Nat.le_of_lt K1.out.lt))
  have SX2 : Hid (Sv w2.heap.size w2 (.slice xa xn xc) xs) := (SX.out.below hb2 (Nat.le_refl _)).mono hb2.size
  clear hb2 c0 c1 c2 c3 c4 c5 c6 c7 c8 c9 c10 c11 K1 B1 SX
  go_wp2_with fail
  refine (decodeControl_any _ xs _ (by have := HX.out.1.2; omega) SX2.out).mono ?_
  rintro e' w3 ⟨ver3, r3, e3, m3, op3, seq3, sta3, ass3, off3, dv3, data3, key3, mv3, mac3, E3, rfl, hb3, hod, hom, hDE, hDV, -⟩
  have hE3 : E3 = 0 := hDE.2.2.2 HX.out.1.1 HX.out.1.2 HX.out.2.1
  subst hE3
  obtain ⟨rfl, rfl, rfl, rfl, rfl, rfl, rfl, rfl, rfl, rfl, rfl, rfl⟩ := HX.out.2.2 _ _ _ _ _ _ _ _ _ _ _ _ (hDV rfl)
  have S3 : Hid (Sv w3.heap.size w3 dv3 data ∧ Sv w3.heap.size w3 mv3 mac) := ⟨hod.sv HD.out.okb, hom.sv HM.out.okb⟩
  have K3 : Hid (Ck w.heap.size w3 #[.int .i64 ver, .bool r, .bool e, .bool m, .int .i64 op, .int .i64 seq, .int .i64 sta, .int .i64 ass, .int .i64 off, .slice da dn dc, .int .i64 key, .slice ma mn mc]) := K2.out.below hb3 K2.out.lt
  have B3 : Hid (Below w.heap.size w w3) := B2.out.trans (hb3.mono (Nat.le_of_lt K2.out.lt))
  obtain ⟨d3a, d3c, hd3, -⟩ := hod.rs
  obtain ⟨m3a, m3c, hm3, -⟩ := hom.rs
  subst hd3 hm3
  obtain ⟨d3n, hd3n⟩ : ∃ n, n = data.length := ⟨_, rfl⟩
  obtain ⟨m3n, hm3n⟩ : ∃ n, n = mac.length := ⟨_, rfl⟩
  rw [← hd3n, ← hm3n] at S3 ⊢
  clear hb3 hod hom hDE hDV K2 B2 SX2 hd3n hm3n
  have K4 : Hid (Ck w.heap.size (w3.alloc (.cells #[.int .i64 ver, .bool r, .bool e, .bool m, .int .i64 op, .int .i64 seq, .int .i64 sta, .int .i64 ass, .int .i64 off, .slice d3a d3n d3c, .int .i64 key, .slice m3a m3n m3c] 24)) #[.int .i64 ver, .bool r, .bool e, .bool m, .int .i64 op, .int .i64 seq, .int .i64 sta, .int .i64 ass, .int .i64 off, .slice da dn dc, .int .i64 key, .slice ma mn mc]) := K3.out.below ((Below.refl w3.heap.size w3).alloc (Nat.le_refl _) _) K3.out.lt
  have L4 : Hid (Below w.heap.size w (w3.alloc (.cells #[.int .i64 ver, .bool r, .bool e, .bool m, .int .i64 op, .int .i64 seq, .int .i64 sta, .int .i64 ass, .int .i64 off, .slice d3a d3n d3c, .int .i64 key, .slice m3a m3n m3c] 24))) := B3.out.alloc (Nat.le_of_lt K3.out.lt) _
  have S4 : Hid (Sv w3.heap.size (w3.alloc (.cells #[.int .i64 ver, .bool r, .bool e, .bool m, .int .i64 op, .int .i64 seq, .int .i64 sta, .int .i64 ass, .int .i64 off, .slice d3a d3n d3c, .int .i64 key, .slice m3a m3n m3c] 24)) (.slice d3a d3n d3c) data ∧ Sv w3.heap.size (w3.alloc (.cells #[.int .i64 ver, .bool r, .bool e, .bool m, .int .i64 op, .int .i64 seq, .int .i64 sta, .int .i64 ass, .int .i64 off, .slice d3a d3n d3c, .int .i64 key, .slice m3a m3n m3c] 24)) (.slice m3a m3n m3c) mac) := ⟨S3.out.1.below ((Below.refl w3.heap.size w3).alloc (Nat.le_refl _) _) (Nat.le_refl _), S3.out.2.below ((Below.refl w3.heap.size w3).alloc (Nat.le_refl _) _) (Nat.le_refl _)⟩
  have HSC : Hid (∀ v, Sv w.heap.size v (.slice da dn dc) data → Sv w3.heap.size v (.slice d3a d3n d3c) data → Sv w.heap.size v (.slice ma mn mc) mac → Sv w3.heap.size v (.slice m3a m3n m3c) mac → w.heap.size ≤ v.heap.size → w3.heap.size ≤ v.heap.size → Calls Try.prog 7 #[.agg #[.int .i64 ver, .bool r, .bool e, .bool m, .int .i64 op, .int .i64 seq, .int .i64 sta, .int .i64 ass, .int .i64 off, .slice da dn dc, .int .i64 key, .slice ma mn mc], .agg #[.int .i64 ver, .bool r, .bool e, .bool m, .int .i64 op, .int .i64 seq, .int .i64 sta, .int .i64 ass, .int .i64 off, .slice d3a d3n d3c, .int .i64 key, .slice m3a m3n m3c]] v fun e' w' => e' = .returned (.bool true) ∧ Below v.heap.size v w') := fun v h1 h2 h3 h4 h5 h6 => sameControl_eq w.heap.size w3.heap.size ver r e m op seq sta ass off _ _ key _ _ data mac v h1 h2 h3 h4 h5 h6
  obtain ⟨c0, c1, c2, c3, c4, c5, c6, c7, c8, c9, c10, c11⟩ := K4.out.c12
  unfold ctV
  go_wp2_with fail
  refine (HSC.out _ (HD.out.below L4.out (Nat.le_refl _)) S4.out.1 (HM.out.below L4.out (Nat.le_refl _)) S4.out.2 L4.out.size (by simp)).mono ?_
  rintro e' W5 ⟨rfl, hb5⟩
  have B5 : Hid (Below w.heap.size w W5) := L4.out.trans (hb5.mono L4.out.size)
  clear hb5 c0 c1 c2 c3 c4 c5 c6 c7 c8 c9 c10 c11 K3 B3 K4 L4 S4 S3 HSC HX
  go_wp2_with fail
  all_goals
    clear HBk HOk HEr HRC HD HM
    refine (decodeControl_any _ b _ (by have := HLN.out.2.2; omega) ((HBv.out.below B5.out (Nat.le_refl _)).mono B5.out.size)).mono ?_
    rintro e' w6 ⟨ver6, r6, e6, m6, op6, seq6, sta6, ass6, off6, dv6, data6, key6, mv6, mac6, E6, rfl, hb6, hod, hom, hDE, hDV, hZZ⟩
    have H6 : Hid (DE b E6 ∧ (E6 = 0 → DV b ver6 r6 e6 m6 op6 seq6 sta6 ass6 off6 data6 key6 mac6)) := ⟨hDE, hDV⟩
    have HZ6 : Hid (E6 ≠ 0 → ctV ver6 r6 e6 m6 op6 seq6 sta6 ass6 off6 dv6 key6 mv6 = zC) := hZZ
    have B6 : Hid (Below w.heap.size w w6) := B5.out.trans (hb6.mono B5.out.size)
    have O6 : Hid (Own w6 w.heap.size dv6 data6 ∧ Own w6 w.heap.size mv6 mac6) := ⟨hod.mono B5.out.size, hom.mono B5.out.size⟩
    obtain ⟨d6a, d6c, hd6, -⟩ := hod.rs
    obtain ⟨m6a, m6c, hm6, -⟩ := hom.rs
    subst hd6 hm6
    obtain ⟨d6n, hd6n⟩ : ∃ n, n = data6.length := ⟨_, rfl⟩
    obtain ⟨m6n, hm6n⟩ : ∃ n, n = mac6.length := ⟨_, rfl⟩
    rw [← hd6n, ← hm6n] at O6 HZ6 ⊢
    clear hb6 hod hom hDE hDV hZZ hd6n hm6n
    obtain ⟨p6, hp6⟩ : ∃ p, p = w6.heap.size := ⟨_, rfl⟩
    have K7 : Hid (Ck p6 (w6.alloc (.cells #[.int .i64 ver6, .bool r6, .bool e6, .bool m6, .int .i64 op6, .int .i64 seq6, .int .i64 sta6, .int .i64 ass6, .int .i64 off6, .slice d6a d6n d6c, .int .i64 key6, .slice m6a m6n m6c] 24)) #[.int .i64 ver6, .bool r6, .bool e6, .bool m6, .int .i64 op6, .int .i64 seq6, .int .i64 sta6, .int .i64 ass6, .int .i64 off6, .slice d6a d6n d6c, .int .i64 key6, .slice m6a m6n m6c]) := by rw [hp6]; exact Ck.new _ _ _
    have B7 : Hid (Below w.heap.size w (w6.alloc (.cells #[.int .i64 ver6, .bool r6, .bool e6, .bool m6, .int .i64 op6, .int .i64 seq6, .int .i64 sta6, .int .i64 ass6, .int .i64 off6, .slice d6a d6n d6c, .int .i64 key6, .slice m6a m6n m6c] 24))) := B6.out.alloc B6.out.size _
    have O7 : Hid (Own (w6.alloc (.cells #[.int .i64 ver6, .bool r6, .bool e6, .bool m6, .int .i64 op6, .int .i64 seq6, .int .i64 sta6, .int .i64 ass6, .int .i64 off6, .slice d6a d6n d6c, .int .i64 key6, .slice m6a m6n m6c] 24)) w.heap.size (.slice d6a d6n d6c) data6 ∧ Own (w6.alloc (.cells #[.int .i64 ver6, .bool r6, .bool e6, .bool m6, .int .i64 op6, .int .i64 seq6, .int .i64 sta6, .int .i64 ass6, .int .i64 off6, .slice d6a d6n d6c, .int .i64 key6, .slice m6a m6n m6c] 24)) w.heap.size (.slice m6a m6n m6c) mac6) := ⟨O6.out.1.below ((Below.refl w6.heap.size w6).alloc (Nat.le_refl _) _) (Nat.le_refl _), O6.out.2.below ((Below.refl w6.heap.size w6).alloc (Nat.le_refl _) _) (Nat.le_refl _)⟩
    unfold ctV
    go_wp2_with fail
    rw [← hp6]
    obtain ⟨w7, hw7⟩ : ∃ v, v = w6.alloc (.cells #[.int .i64 ver6, .bool r6, .bool e6, .bool m6, .int .i64 op6, .int .i64 seq6, .int .i64 sta6, .int .i64 ass6, .int .i64 off6, .slice d6a d6n d6c, .int .i64 key6, .slice m6a m6n m6c] 24) := ⟨_, rfl⟩
    rw [← hw7] at K7 B7 O7 ⊢
    clear hp6 hw7 B6 O6
    refine (rdecodeControl_any _ b _ (by have := HLN.out.2.2; omega) ((HBv.out.below B7.out (Nat.le_refl _)).mono B7.out.size)).mono ?_
    rintro e' w8 ⟨ver8, r8, e8, m8, op8, seq8, sta8, ass8, off8, dv8, data8, key8, mv8, mac8, E8, rfl, hb8, hod, hom, hDE, -, -⟩
    have hE8 : E8 = E6 := DE_uniq hDE H6.out.1
    subst hE8
    obtain ⟨d8a, d8c, hd8, -⟩ := hod.rs
    obtain ⟨m8a, m8c, hm8, -⟩ := hom.rs
    subst hd8 hm8
    have K8 : Hid (Ck p6 w8 #[.int .i64 ver6, .bool r6, .bool e6, .bool m6, .int .i64 op6, .int .i64 seq6, .int .i64 sta6, .int .i64 ass6, .int .i64 off6, .slice d6a d6n d6c, .int .i64 key6, .slice m6a m6n m6c]) := K7.out.below hb8 K7.out.lt
    have B8 : Hid (Below w.heap.size w w8) := B7.out.trans (hb8.mono B7.out.size)
    have O8 : Hid (Own w8 w.heap.size (.slice d6a d6n d6c) data6 ∧ Own w8 w.heap.size (.slice m6a m6n m6c) mac6) := ⟨O7.out.1.below hb8 (Nat.le_refl _), O7.out.2.below hb8 (Nat.le_refl _)⟩
    clear hb8 hod hom hDE K7 B7 O7
    unfold ctV
    obtain ⟨d8n, hd8n⟩ : ∃ n, n = data8.length := ⟨_, rfl⟩
    obtain ⟨m8n, hm8n⟩ : ∃ n, n = mac8.length := ⟨_, rfl⟩
    rw [← hd8n, ← hm8n]
    obtain ⟨w9, hw9⟩ : ∃ v, v = w8.alloc (.cells #[.int .i64 ver8, .bool r8, .bool e8, .bool m8, .int .i64 op8, .int .i64 seq8, .int .i64 sta8, .int .i64 ass8, .int .i64 off8, .slice d8a d8n d8c, .int .i64 key8, .slice m8a m8n m8c] 24) := ⟨_, rfl⟩
    have K9 : Hid (Ck p6 w9 #[.int .i64 ver6, .bool r6, .bool e6, .bool m6, .int .i64 op6, .int .i64 seq6, .int .i64 sta6, .int .i64 ass6, .int .i64 off6, .slice d6a d6n d6c, .int .i64 key6, .slice m6a m6n m6c]) := by rw [hw9]; exact K8.out.below ((Below.refl w8.heap.size w8).alloc (Nat.le_refl _) _) K8.out.lt
    have B9 : Hid (Below w.heap.size w w9) := by rw [hw9]; exact B8.out.alloc B8.out.size _
    have O9 : Hid (Own w9 w.heap.size (.slice d6a d6n d6c) data6 ∧ Own w9 w.heap.size (.slice m6a m6n m6c) mac6) := by rw [hw9]; exact ⟨O8.out.1.below ((Below.refl w8.heap.size w8).alloc (Nat.le_refl _) _) (Nat.le_refl _), O8.out.2.below ((Below.refl w8.heap.size w8).alloc (Nat.le_refl _) _) (Nat.le_refl _)⟩
    have HW9 : Hid (w9 = w8.alloc (.cells #[.int .i64 ver8, .bool r8, .bool e8, .bool m8, .int .i64 op8, .int .i64 seq8, .int .i64 sta8, .int .i64 ass8, .int .i64 off8, .slice d8a d8n d8c, .int .i64 key8, .slice m8a m8n m8c] 24)) := hw9
    clear hw9 hd8n hm8n K8 B8 O8
    by_cases hz8 : E8 = 0
    · subst hz8
      obtain ⟨x12, x512, xG, xT⟩ := DE_zero H6.out.1
      obtain ⟨f1, f2⟩ := fwd_pure HOK.out x12 x512 xG xT (H6.out.2 rfl)
      obtain ⟨-, -, -, -, -, -, -, -, -, g10, -, g12⟩ := H6.out.2 rfl
      have ok6 : okb data6 := by rw [g10]; exact okb_take (okb_drop HOK.out _) _
      have okm6 : okb mac6 := by rw [g12]; unfold rst; exact okb_drop (okb_drop (okb_drop HOK.out _) _) _
      have HEn : Hid (∀ (v : World), Own v w.heap.size (.slice d6a d6n d6c) data6 → Own v w.heap.size (.slice m6a m6n m6c) mac6 → Calls Try.prog 4 #[.agg #[.int .i64 ver6, .bool r6, .bool e6, .bool m6, .int .i64 op6, .int .i64 seq6, .int .i64 sta6, .int .i64 ass6, .int .i64 off6, .slice d6a d6n d6c, .int .i64 key6, .slice m6a m6n m6c]] v fun e' w2 => ∃ y, e' = .returned (.tuple #[y, .int .i64 0]) ∧ Below v.heap.size v w2 ∧ Own w2 v.heap.size y b) := fun v h1 h2 => by
        have := encodeControl_ok ver6 r6 e6 m6 op6 seq6 sta6 ass6 off6 (.slice d6a d6n d6c) (.slice m6a m6n m6c) data6 mac6 key6 v (h1.sv ok6) (h2.sv okm6) f1
        rw [f2] at this
        exact this
      clear f1 f2 g10 g12 ok6 okm6 x12 x512 xG xT
      have hwr := HW9.out.symm
      obtain ⟨c0, c1, c2, c3, c4, c5, c6, c7, c8, c9, c10, c11⟩ := K9.out.c12
      go_wp2_with fail
      refine (HEn.out _ O9.out.1 O9.out.2).mono ?_
      rintro e' w10 ⟨y, rfl, hb10, ho10⟩
      have SY : Hid (Sv w10.heap.size w10 y b) := ho10.sv HOK.out
      have B10 : Hid (Below w.heap.size w w10) := B9.out.trans (hb10.mono B9.out.size)
      obtain ⟨ya, yc, hy, -⟩ := ho10.rs
      subst hy
      obtain ⟨yn, hyn⟩ : ∃ n, n = b.length := ⟨_, rfl⟩
      rw [← hyn] at SY ⊢
      clear hb10 ho10 hyn c0 c1 c2 c3 c4 c5 c6 c7 c8 c9 c10 c11
      go_wp2_with fail
      refine (lbytes_eq w10.heap.size w.heap.size _ _ b _ SY.out (HBv.out.below B10.out (Nat.le_refl _))).mono ?_
      rintro e' w11 ⟨rfl, hw⟩
      rw [hw]
      clear hw
      go_wp2_with fail
      go_ret
      exact ⟨rfl, B10.out⟩
    · have hz0 := ctV_inj (show ctV ver6 r6 e6 m6 op6 seq6 sta6 ass6 off6 (.slice d6a d6n d6c) key6 (.slice m6a m6n m6c) = ctV 0 false false false 0 0 0 0 0 (.slice none 0 0) 0 (.slice none 0 0) from HZ6.out hz8)
      obtain ⟨rfl, rfl, rfl, rfl, rfl, rfl, rfl, rfl, rfl, hq1, rfl, hq2⟩ := hz0
      injection hq1 with a1 a2 a3
      injection hq2 with a4 a5 a6
      subst a1 a2 a3 a4 a5 a6
      have hb8 : (E8 != 0) = true := by rw [bne_iff_ne]; exact hz8
      have HS0 : Hid (∀ v, Calls Try.prog 7 #[.agg #[.int .i64 0, .bool false, .bool false, .bool false, .int .i64 0, .int .i64 0, .int .i64 0, .int .i64 0, .int .i64 0, .slice none 0 0, .int .i64 0, .slice none 0 0], .agg #[.int .i64 0, .bool false, .bool false, .bool false, .int .i64 0, .int .i64 0, .int .i64 0, .int .i64 0, .int .i64 0, .slice none 0 0, .int .i64 0, .slice none 0 0]] v fun e' w' => e' = .returned (.bool true) ∧ Below v.heap.size v w') := fun v => sameControl_eq 0 0 0 false false false 0 0 0 0 0 _ _ 0 _ _ [] [] v (Sv.nil _ _) (Sv.nil _ _) (Sv.nil _ _) (Sv.nil _ _) (Nat.zero_le _) (Nat.zero_le _)
      clear hz8
      have hwr := HW9.out.symm
      obtain ⟨c0, c1, c2, c3, c4, c5, c6, c7, c8, c9, c10, c11⟩ := K9.out.c12
      go_wp2_with fail
      refine (HS0.out _).mono ?_
      rintro e' w10 ⟨rfl, hb10⟩
      have B10 : Hid (Below w.heap.size w w10) := B9.out.trans (hb10.mono B9.out.size)
      clear hb10 c0 c1 c2 c3 c4 c5 c6 c7 c8 c9 c10 c11
      go_wp2_with fail
      go_ret
      exact ⟨rfl, B10.out⟩
theorem WireControlBack_row (ver : Int) (r e m : Bool) (op seq sta ass off : Int) (dv : Value) (key : Int) (mv bv : Value) (data mac b : List Int) (w : World) (hd : Sv w.heap.size w dv data) (hm : Sv w.heap.size w mv mac) (hb : Sv w.heap.size w bv b) (ld : data.length ≤ maxLen) (lm : mac.length ≤ maxLen) (lb : b.length ≤ maxLen) :
    Calls Try.prog 3 #[ctV ver r e m op seq sta ass off dv key mv, bv] w fun e w' => e = .returned (.bool true) ∧ Below w.heap.size w w' := by
  by_cases h : data.length ≤ 1048576 ∧ mac.length ≤ 1048576 ∧ b.length ≤ 1048576
  · exact back_main ver r e m op seq sta ass off dv key mv bv data mac b w hd hm hb h.1 h.2.1 h.2.2
  · have hM : maxLen ≤ 9223372036854775807 := by unfold maxLen; decide
    obtain ⟨da, dc, rfl, -⟩ := hd
    obtain ⟨ma, mc, rfl, -⟩ := hm
    obtain ⟨ba, bc, rfl, -⟩ := hb
    exact back_long ver r e m op seq sta ass off da _ dc key ma _ mc ba _ bc w (by omega) (by omega) (by omega) (by omega)
end Go.Proofs.Ytoljhmnghhhggab
