/- What the reader's method header of package wire returns. -/
import Derived.Test.YtdobghhjlfffpaaYA
import Derived.Test.YtdobghhjlfffpaaXC
namespace Go.Proofs.Ytdobghhjlfffpaa
open Go.RowKit
/-- a byte as a number from -128 to 127 -/
def sg (x : Int) : Int := if x < 128 then x else x - 256
/-- a header as bytes say it -/
def hdD (bs : List Int) : Hd := ⟨fv bs 0 1 / 64, fv bs 0 1 / 8 % 8, fv bs 0 1 % 8, fv bs 1 1, sg (fv bs 2 1), sg (fv bs 3 1), fv bs 4 4 * 65536, fv bs 8 4 * 65536, fv bs 12 4, fv bs 16 8, fv bs 24 8, fv bs 32 8, fv bs 40 8⟩
theorem wrap8 (x : Int) (h0 : 0 ≤ x) (h1 : x < 256) : IntKind.i8.wrap x = sg x := by
  have e : IntKind.i8.wrap x = (x + 128) % 256 - 128 := by simp [IntKind.wrap, IntKind.bits, IntKind.signed]; split <;> omega
  rw [e]
  unfold sg
  split <;> omega
theorem far_cell {w : World} {g j p k : Nat} (x : Value) (h : p ≠ g) : (w.setCell ⟨g, j, none⟩ x).cell? ⟨p, k, none⟩ = w.cell? ⟨p, k, none⟩ := World.cell?_of_block (Below.heap_setCell _ _ _ _ h)
def zP : Array Value := #[.int .i64 0, .int .i64 0, .int .i64 0, .int .i64 0, .int .i64 0, .int .i64 0, .int .i64 0, .int .i64 0, .int .u32 0, .int .u64 0, .int .u64 0, .int .u64 0, .int .u64 0, .slice none 0 0, .int .i64 0, .bool false, .slice none 0 0]
/-- the numbers of an array are those that the bytes say -/
def Av (bs0 : List Int) (A : Array Value) (kd : IntKind) (off wd n : Nat) : Prop := ∀ j x, j < n → A[j]? = some (.int kd x) → x = fv bs0 (off + wd * j) wd
theorem HA.av {K : Prop} {ks : List (Nat × Array Value × TypeId)} {kd : IntKind} {off wd n : Nat} {T : TypeId} {N q p : Nat} {w v : World} {bs0 : List Int} {er0 : Int} {k : Nat} {A : Array Value} {bs : List Int} {er : Int}
    (h : HA K ks kd off wd n T N q p w v bs0 er0 k A bs er) (hk : k = n) : er = 0 → K ∧ Av bs0 A kd off wd n := fun e => ⟨h.kp e, fun j x hj hx => by
  obtain ⟨y, g1, _, _, g4⟩ := h.val j hj
  rw [hx] at g1
  injection g1 with g1
  injection g1 with _ g1
  rw [g1]
  exact g4 e (by omega)⟩
set_option maxRecDepth 4000 in
set_option maxHeartbeats 4000000 in
theorem rheader_any (N q : Nat) (bs0 : List Int) (er0 : Int) (w : World) (h : RdX N q w bs0 er0) :
    Calls Try.prog 34 #[.pointer (some ⟨q, 0, none⟩)] w fun e' w' => ∃ (h : Hd) (bs : List Int) (er : Int), e' = .returned (pkV h (.slice none 0 0) 0 false (.slice none 0 0)) ∧ w.grownBy w' (some q) ∧ RdX N q w' bs er ∧ Pg 48 bs0 er0 48 bs er ∧ bs.length ≤ bs0.length ∧ (er = 0 → h = hdD bs0) := by
  have H : Hid (RdX N q w bs0 er0) := h
  have hq : q < w.heap.size := h.hq
  clear h
  have A0 : Hid (HA True [(w.heap.size, zP, 29)] .u8 0 1 4 87 N q (w.heap.size + 1) w ((w.alloc (.cells #[.int .i64 0, .int .i64 0, .int .i64 0, .int .i64 0, .int .i64 0, .int .i64 0, .int .i64 0, .int .i64 0, .int .u32 0, .int .u64 0, .int .u64 0, .int .u64 0, .int .u64 0, .slice none 0 0, .int .i64 0, .bool false, .slice none 0 0] 29)).alloc (.cells #[.int .u8 0, .int .u8 0, .int .u8 0, .int .u8 0] 87)) bs0 er0 0 #[.int .u8 0, .int .u8 0, .int .u8 0, .int .u8 0] bs0 er0) := by
    have hs := HA.start (K := True) (ks := [(w.heap.size, zP, 29)]) (kd := .u8) (off := 0) (wd := 1) (n := 4) (T := 87) (N := N) (q := q) (w := w) (v := w.alloc (.cells #[.int .i64 0, .int .i64 0, .int .i64 0, .int .i64 0, .int .i64 0, .int .i64 0, .int .i64 0, .int .i64 0, .int .u32 0, .int .u64 0, .int .u64 0, .int .u64 0, .int .u64 0, .slice none 0 0, .int .i64 0, .bool false, .slice none 0 0] 29)) (bs0 := bs0) (er0 := er0) (A := #[.int .u8 0, .int .u8 0, .int .u8 0, .int .u8 0]) (H.out.below ((Below.refl w.heap.size w).alloc (Nat.le_refl _) _) hq) (mod_alloc (mod_refl w _) _) (fun x hx => by rw [List.mem_singleton] at hx; subst hx; exact ⟨Bk.new _ _ _, by show w.heap.size ≠ q; omega, by simp⟩) rfl (zeros4 .u8) (Pg.start 48 bs0 er0) (Nat.le_refl _) (fun _ => trivial)
    have e : (w.alloc (.cells zP 29)).heap.size = w.heap.size + 1 := by simp
    show HA _ _ _ _ _ _ _ _ _ _ _ _ _ _ _ _ _ _
    rw [← e]
    exact hs
  go_enter Try.func34, Try.ntmps34
  go_wp2
  go_loopw [9] (fun i wr => ∃ (k : Nat) (A : Array Value) (bs : List Int) (er : Int), i = .int .i64 (k : Int) ∧ (k : Int) ≤ 4 ∧ Hid (HA True [(w.heap.size, zP, 29)] .u8 0 1 4 87 N q (w.heap.size + 1) w wr bs0 er0 k A bs er)) (fun i _ => (4 - intOf i).toNat)
  case atStart => exact ⟨0, _, _, _, rfl, by omega, A0⟩
  case round =>
    clear A0
    obtain ⟨k, A1, bs, er, rfl, hk, hM⟩ := hrel
    obtain ⟨p1, hp1⟩ : ∃ p, p = w.heap.size + 1 := ⟨_, rfl⟩
    rw [← hp1] at hM ⊢
    have HP1 : Hid (p1 = w.heap.size + 1) := hp1
    clear hp1
    by_cases hlt : (k : Int) < 4
    · obtain ⟨X, hX⟩ : ∃ X, X = gt (tkT 1 bs er) := ⟨_, rfl⟩
      have bd := gtw_bd (tk_okb (n := 1) (er := er) hM.out.rd.okb).1 1 (tkT_len 1 bs er)
      rw [← hX] at bd
      obtain ⟨g0, g1⟩ := bd
      have g2 : X < 256 := g1
      have HX : Hid (X = gt (tkT 1 bs er)) := hX
      clear hX g1
      have hix : ∀ w, Sem.run Try.prog (Instr.indexAt 87 (.pointer (some ⟨p1, 0, none⟩)) (.int .i64 (k : Int))) w = .ok (.pointer (some ⟨p1, k, none⟩)) w := aidx4 p1 k hlt
      go_wp2_with fail
      refine (num_hid N q 1 bs er X (by decide) HX.out _ hM.out.rd).mono ?_
      rintro e' w4 ⟨rfl, hg4, h4⟩
      have b4 := hM.out.b.mod hg4 (by have := hM.out.hp; omega)
      obtain ⟨x, hx1, -⟩ := hM.out.val k (by omega)
      have d0 : w4.cell? ⟨p1, k, none⟩ = some (.int .u8 x) := (b4.cell k).trans hx1
      have df := b4.frozen k
      have L4 := hM.out.step hq (by omega) (by omega) hg4 h4 HX.out
      have M4 : Hid _ := L4
      clear hg4 h4 b4 hx1 L4 hM
      go_wp2
      exact ⟨⟨k + 1, _, _, _, by go_num, by omega, M4⟩, by simp [intOf]; omega⟩
    · have M1 : Hid (HA True [(w.heap.size, zP, 29)] .u8 0 1 4 87 N q p1 w wr bs0 er0 4 A1 bs er) := by have hk4 : k = 4 := (by omega); subst hk4; exact hM.out
      obtain ⟨p2, hp2⟩ : ∃ p, p = wr.heap.size := ⟨_, rfl⟩
      have hp12 : p1 < p2 := by rw [hp2]; exact M1.out.b.lt
      have A0 : Hid (HA (True ∧ Av bs0 A1 .u8 0 1 4) ([(w.heap.size, zP, 29)] ++ [(p1, A1, 87)]) .u32 4 4 3 78 N q p2 w (wr.alloc (.cells #[.int .u32 0, .int .u32 0, .int .u32 0] 78)) bs0 er0 0 #[.int .u32 0, .int .u32 0, .int .u32 0] bs er) := by
        rw [hp2]
        exact HA.start M1.out.rd M1.out.gr (M1.out.full hq) rfl (zeros3 .u32) M1.out.pg M1.out.ln (M1.out.av rfl)
      have W1 : Hid (∀ j, j < 4 → ∃ x, A1[j]? = some (.int .u8 x) ∧ 0 ≤ x ∧ x < 256) := fun j hj => by obtain ⟨x, a, b, c, _⟩ := M1.out.val j hj; exact ⟨x, a, b, c⟩
      clear hM M1
      go_wp2
      clear hk hlt
      rw [← hp2]
      clear hp2
      go_loopw [18] (fun i wr => ∃ (k : Nat) (A2 : Array Value) (bs : List Int) (er : Int), i = .int .i64 (k : Int) ∧ (k : Int) ≤ 3 ∧ Hid (HA (True ∧ Av bs0 A1 .u8 0 1 4) ([(w.heap.size, zP, 29)] ++ [(p1, A1, 87)]) .u32 4 4 3 78 N q p2 w wr bs0 er0 k A2 bs er)) (fun i _ => (3 - intOf i).toNat)
      case atStart => exact ⟨0, _, _, _, rfl, by omega, A0⟩
      case round =>
        clear A0
        obtain ⟨k, A2, bs, er, rfl, hk, hM⟩ := hrel
        by_cases hlt : (k : Int) < 3
        · obtain ⟨X, hX⟩ : ∃ X, X = gt (tkT 4 bs er) := ⟨_, rfl⟩
          have bd := gtw_bd (tk_okb (n := 4) (er := er) hM.out.rd.okb).1 4 (tkT_len 4 bs er)
          rw [← hX] at bd
          obtain ⟨g0, g1⟩ := bd
          have g2 : X < 4294967296 := g1
          have HX : Hid (X = gt (tkT 4 bs er)) := hX
          clear hX g1
          have hix : ∀ w, Sem.run Try.prog (Instr.indexAt 78 (.pointer (some ⟨p2, 0, none⟩)) (.int .i64 (k : Int))) w = .ok (.pointer (some ⟨p2, k, none⟩)) w := aidx3 p2 k hlt
          go_wp2_with fail
          refine (num_hid N q 4 bs er X (by decide) HX.out _ hM.out.rd).mono ?_
          rintro e' w4 ⟨rfl, hg4, h4⟩
          have b4 := hM.out.b.mod hg4 (by have := hM.out.hp; omega)
          obtain ⟨x, hx1, -⟩ := hM.out.val k (by omega)
          have d0 : w4.cell? ⟨p2, k, none⟩ = some (.int .u32 x) := (b4.cell k).trans hx1
          have df := b4.frozen k
          have L4 := hM.out.step hq (by omega) (by omega) hg4 h4 HX.out
          have M4 : Hid _ := L4
          clear hg4 h4 b4 hx1 L4 hM
          go_wp2
          exact ⟨⟨k + 1, _, _, _, by go_num, by omega, M4⟩, by simp [intOf]; omega⟩
        · have M2 : Hid (HA (True ∧ Av bs0 A1 .u8 0 1 4) ([(w.heap.size, zP, 29)] ++ [(p1, A1, 87)]) .u32 4 4 3 78 N q p2 w wr bs0 er0 3 A2 bs er) := by have hk3 : k = 3 := (by omega); subst hk3; exact hM.out
          obtain ⟨p3, hp3⟩ : ∃ p, p = wr.heap.size := ⟨_, rfl⟩
          have hp23 : p2 < p3 := by rw [hp3]; exact M2.out.b.lt
          have A0 : Hid (HA ((True ∧ Av bs0 A1 .u8 0 1 4) ∧ Av bs0 A2 .u32 4 4 3) (([(w.heap.size, zP, 29)] ++ [(p1, A1, 87)]) ++ [(p2, A2, 78)]) .u64 16 8 4 79 N q p3 w (wr.alloc (.cells #[.int .u64 0, .int .u64 0, .int .u64 0, .int .u64 0] 79)) bs0 er0 0 #[.int .u64 0, .int .u64 0, .int .u64 0, .int .u64 0] bs er) := by
            rw [hp3]
            exact HA.start M2.out.rd M2.out.gr (M2.out.full hq) rfl (zeros4 .u64) M2.out.pg M2.out.ln (M2.out.av rfl)
          have W2 : Hid (∀ j, j < 3 → ∃ x, A2[j]? = some (.int .u32 x) ∧ 0 ≤ x ∧ x < 4294967296) := fun j hj => by obtain ⟨x, a, b, c, _⟩ := M2.out.val j hj; exact ⟨x, a, b, c⟩
          clear hM M2
          go_wp2
          clear hk hlt
          rw [← hp3]
          clear hp3
          go_loopw [27] (fun i wr => ∃ (k : Nat) (A3 : Array Value) (bs : List Int) (er : Int), i = .int .i64 (k : Int) ∧ (k : Int) ≤ 4 ∧ Hid (HA ((True ∧ Av bs0 A1 .u8 0 1 4) ∧ Av bs0 A2 .u32 4 4 3) (([(w.heap.size, zP, 29)] ++ [(p1, A1, 87)]) ++ [(p2, A2, 78)]) .u64 16 8 4 79 N q p3 w wr bs0 er0 k A3 bs er)) (fun i _ => (4 - intOf i).toNat)
          case atStart => exact ⟨0, _, _, _, rfl, by omega, A0⟩
          case round =>
            clear A0
            obtain ⟨k, A3, bs, er, rfl, hk, hM⟩ := hrel
            by_cases hlt : (k : Int) < 4
            · obtain ⟨X, hX⟩ : ∃ X, X = gt (tkT 8 bs er) := ⟨_, rfl⟩
              have bd := gtw_bd (tk_okb (n := 8) (er := er) hM.out.rd.okb).1 8 (tkT_len 8 bs er)
              rw [← hX] at bd
              obtain ⟨g0, g1⟩ := bd
              have g2 : X < 18446744073709551616 := g1
              have HX : Hid (X = gt (tkT 8 bs er)) := hX
              clear hX g1
              have hix : ∀ w, Sem.run Try.prog (Instr.indexAt 79 (.pointer (some ⟨p3, 0, none⟩)) (.int .i64 (k : Int))) w = .ok (.pointer (some ⟨p3, k, none⟩)) w := aidx8 p3 k hlt
              go_wp2_with fail
              refine (num_hid N q 8 bs er X (by decide) HX.out _ hM.out.rd).mono ?_
              rintro e' w4 ⟨rfl, hg4, h4⟩
              have b4 := hM.out.b.mod hg4 (by have := hM.out.hp; omega)
              obtain ⟨x, hx1, -⟩ := hM.out.val k (by omega)
              have d0 : w4.cell? ⟨p3, k, none⟩ = some (.int .u64 x) := (b4.cell k).trans hx1
              have df := b4.frozen k
              have L4 := hM.out.step hq (by omega) (by omega) hg4 h4 HX.out
              have M4 : Hid _ := L4
              clear hg4 h4 b4 hx1 L4 hM
              go_wp2
              exact ⟨⟨k + 1, _, _, _, by go_num, by omega, M4⟩, by simp [intOf]; omega⟩
            · have M3 : Hid (HA ((True ∧ Av bs0 A1 .u8 0 1 4) ∧ Av bs0 A2 .u32 4 4 3) (([(w.heap.size, zP, 29)] ++ [(p1, A1, 87)]) ++ [(p2, A2, 78)]) .u64 16 8 4 79 N q p3 w wr bs0 er0 4 A3 bs er) := by have hk4 : k = 4 := (by omega); subst hk4; exact hM.out
              clear hM
              obtain ⟨x0, a0, x00, x01⟩ := W1.out 0 (by decide)
              obtain ⟨x1, a1, x10, x11⟩ := W1.out 1 (by decide)
              obtain ⟨x2, a2, x20, x21⟩ := W1.out 2 (by decide)
              obtain ⟨x3, a3, x30, x31⟩ := W1.out 3 (by decide)
              obtain ⟨y0, b0, y00, y01⟩ := W2.out 0 (by decide)
              obtain ⟨y1, b1, y10, y11⟩ := W2.out 1 (by decide)
              obtain ⟨y2, b2, y20, y21⟩ := W2.out 2 (by decide)
              obtain ⟨t0, c0, t00, t01, -⟩ := M3.out.val 0 (by decide)
              obtain ⟨t1, c1, t10, t11, -⟩ := M3.out.val 1 (by decide)
              obtain ⟨t2, c2, t20, t21, -⟩ := M3.out.val 2 (by decide)
              obtain ⟨t3, c3, t30, t31, -⟩ := M3.out.val 3 (by decide)
              have K1 := (M3.out.ks (p1, A1, 87) (by simp)).1
              have K2 := (M3.out.ks (p2, A2, 78) (by simp)).1
              have K0 := (M3.out.ks (w.heap.size, zP, 29) (by simp)).1
              have HV : Hid (er = 0 → x0 = fv bs0 0 1 ∧ x1 = fv bs0 1 1 ∧ x2 = fv bs0 2 1 ∧ x3 = fv bs0 3 1 ∧ y0 = fv bs0 4 4 ∧ y1 = fv bs0 8 4 ∧ y2 = fv bs0 12 4 ∧ t0 = fv bs0 16 8 ∧ t1 = fv bs0 24 8 ∧ t2 = fv bs0 32 8 ∧ t3 = fv bs0 40 8) := fun e => by
                obtain ⟨⟨⟨_, v1⟩, v2⟩, v3⟩ := M3.out.av rfl e
                exact ⟨v1 0 _ (by decide) a0, v1 1 _ (by decide) a1, v1 2 _ (by decide) a2, v1 3 _ (by decide) a3, v2 0 _ (by decide) b0, v2 1 _ (by decide) b1, v2 2 _ (by decide) b2, v3 0 _ (by decide) c0, v3 1 _ (by decide) c1, v3 2 _ (by decide) c2, v3 3 _ (by decide) c3⟩
              have d0 : wr.cell? ⟨p1, 0, none⟩ = some (.int .u8 x0) := (K1.cell 0).trans a0
              have d1 : wr.cell? ⟨p1, 1, none⟩ = some (.int .u8 x1) := (K1.cell 1).trans a1
              have d2 : wr.cell? ⟨p1, 2, none⟩ = some (.int .u8 x2) := (K1.cell 2).trans a2
              have d3 : wr.cell? ⟨p1, 3, none⟩ = some (.int .u8 x3) := (K1.cell 3).trans a3
              have f0 : wr.cell? ⟨p2, 0, none⟩ = some (.int .u32 y0) := (K2.cell 0).trans b0
              have f1 : wr.cell? ⟨p2, 1, none⟩ = some (.int .u32 y1) := (K2.cell 1).trans b1
              have f2 : wr.cell? ⟨p2, 2, none⟩ = some (.int .u32 y2) := (K2.cell 2).trans b2
              have g0 : wr.cell? ⟨p3, 0, none⟩ = some (.int .u64 t0) := (M3.out.b.cell 0).trans c0
              have g1 : wr.cell? ⟨p3, 1, none⟩ = some (.int .u64 t1) := (M3.out.b.cell 1).trans c1
              have g2 : wr.cell? ⟨p3, 2, none⟩ = some (.int .u64 t2) := (M3.out.b.cell 2).trans c2
              have g3 : wr.cell? ⟨p3, 3, none⟩ = some (.int .u64 t3) := (M3.out.b.cell 3).trans c3
              have hp01 : w.heap.size < p1 := by have := HP1.out; omega
              clear a0 a1 a2 a3 b0 b1 b2 c0 c1 c2 c3 t00 t01 t10 t11 t20 t21 t30 t31 K1 K2
              obtain ⟨z0, z1, z2, z3, z4, z5, z6, z7, z8, z9, z10, z11, z12, z13, z14, z15, z16⟩ := (⟨K0.lt, K0.cell⟩ : Ck w.heap.size wr zP).c17
              have zf := K0.frozen
              obtain ⟨LP, hLP⟩ : ∃ A, A = x0 / 64 := ⟨_, rfl⟩
              obtain ⟨VR, hVR⟩ : ∃ A, A = x0 / 8 % 8 := ⟨_, rfl⟩
              obtain ⟨MD, hMD⟩ : ∃ A, A = x0 % 8 := ⟨_, rfl⟩
              obtain ⟨PO, hPO⟩ : ∃ A, A = sg x2 := ⟨_, rfl⟩
              obtain ⟨PR, hPR⟩ : ∃ A, A = sg x3 := ⟨_, rfl⟩
              have e0 : x0 / 64 = LP := hLP.symm
              have e1 : bits .and .u8 (x0 / 8) 7 = VR := by rw [hVR]; exact u8_and_7 _ (by omega) (by omega)
              have e2 : bits .and .u8 x0 7 = MD := by rw [hMD]; exact u8_and_7 _ x00 x01
              have e3 : IntKind.i8.wrap x2 = PO := by rw [hPO]; exact wrap8 _ (by omega) (by omega)
              have e4 : IntKind.i8.wrap x3 = PR := by rw [hPR]; exact wrap8 _ (by omega) (by omega)
              have n1 : 0 ≤ LP ∧ LP < 256 ∧ 0 ≤ VR ∧ VR < 256 ∧ 0 ≤ MD ∧ MD < 256 ∧ -128 ≤ PO ∧ PO < 128 ∧ -128 ≤ PR ∧ PR < 128 := by rw [hLP, hVR, hMD, hPO, hPR]; unfold sg; refine ⟨by omega, by omega, by omega, by omega, by omega, by omega, by split <;> omega, by split <;> omega, by split <;> omega, by split <;> omega⟩
              obtain ⟨n1, n2, n3, n4, n5, n6, n7, n8, n9, n10⟩ := n1
              have HL : Hid (LP = x0 / 64 ∧ VR = x0 / 8 % 8 ∧ MD = x0 % 8 ∧ PO = sg x2 ∧ PR = sg x3) := ⟨hLP, hVR, hMD, hPO, hPR⟩
              have i1 : IntKind.i64.wrap LP = LP := by rw [IntKind.wrap_i64]; omega
              have i2 : IntKind.i64.wrap VR = VR := by rw [IntKind.wrap_i64]; omega
              have i3 : IntKind.i64.wrap MD = MD := by rw [IntKind.wrap_i64]; omega
              have i4 : IntKind.i64.wrap PO = PO := by rw [IntKind.wrap_i64]; omega
              have i5 : IntKind.i64.wrap PR = PR := by rw [IntKind.wrap_i64]; omega
              have i6 : IntKind.i64.wrap x1 = x1 := by rw [IntKind.wrap_i64]; omega
              have hn1 : w.heap.size ≠ p1 := by omega
              have hn2 : w.heap.size ≠ p2 := by omega
              have hn3 : w.heap.size ≠ p3 := by omega
              clear hLP hVR hMD hPO hPR
              go_wp2_with fail
              clear hk hlt
              go_region_held3 (fun w' => w'.cell? ⟨p1, 0, none⟩ = some (.int .u8 x0) ∧ w'.cell? ⟨p1, 1, none⟩ = some (.int .u8 x1) ∧ w'.cell? ⟨p1, 2, none⟩ = some (.int .u8 x2) ∧ w'.cell? ⟨p1, 3, none⟩ = some (.int .u8 x3) ∧ w'.cell? ⟨p2, 0, none⟩ = some (.int .u32 y0) ∧ w'.cell? ⟨p2, 1, none⟩ = some (.int .u32 y1) ∧ w'.cell? ⟨p2, 2, none⟩ = some (.int .u32 y2) ∧ w'.cell? ⟨p3, 0, none⟩ = some (.int .u64 t0) ∧ w'.cell? ⟨p3, 1, none⟩ = some (.int .u64 t1) ∧ w'.cell? ⟨p3, 2, none⟩ = some (.int .u64 t2) ∧ w'.cell? ⟨p3, 3, none⟩ = some (.int .u64 t3)) (first | with_reducible exact ⟨d0, d1, d2, d3, f0, f1, f2, g0, g1, g2, g3⟩ | go_keep) (first | (go_at_call 51; refine (fromShort_any _ _ (by omega) (by omega)).mono ?_; rintro e' w' ⟨rfl, rfl⟩))
              obtain ⟨W5, hW5⟩ : ∃ W, W = (sp17 wr w.heap.size (.int .i64 LP) (.int .i64 VR) (.int .i64 MD) (.int .i64 x1) (.int .i64 PO) (.int .i64 PR) (.int .i64 (y0 * 65536)) (.int .i64 (y1 * 65536)) (.int .u32 y2) (.int .u64 t0) (.int .u64 t1) (.int .u64 t2) (.int .u64 t3) (.slice none 0 0) (.int .i64 0) (.bool false) (.slice none 0 0)).drew := ⟨_, rfl⟩
              show Exit.then _ _ _ _ (World.drew (sp17 wr w.heap.size (.int .i64 LP) (.int .i64 VR) (.int .i64 MD) (.int .i64 x1) (.int .i64 PO) (.int .i64 PR) (.int .i64 (y0 * 65536)) (.int .i64 (y1 * 65536)) (.int .u32 y2) (.int .u64 t0) (.int .u64 t1) (.int .u64 t2) (.int .u64 t3) (.slice none 0 0) (.int .i64 0) (.bool false) (.slice none 0 0)))
              rw [← hW5]
              have hN := M3.out.rd.hN
              have B5 : Hid (Bk w.heap.size W5 #[.int .i64 LP, .int .i64 VR, .int .i64 MD, .int .i64 x1, .int .i64 PO, .int .i64 PR, .int .i64 (y0 * 65536), .int .i64 (y1 * 65536), .int .u32 y2, .int .u64 t0, .int .u64 t1, .int .u64 t2, .int .u64 t3, .slice none 0 0, .int .i64 0, .bool false, .slice none 0 0] 29) := by show Bk _ _ _ _; rw [hW5]; exact (Bk.all17 K0 (.int .i64 LP) (.int .i64 VR) (.int .i64 MD) (.int .i64 x1) (.int .i64 PO) (.int .i64 PR) (.int .i64 (y0 * 65536)) (.int .i64 (y1 * 65536)) (.int .u32 y2) (.int .u64 t0) (.int .u64 t1) (.int .u64 t2) (.int .u64 t3) (.slice none 0 0) (.int .i64 0) (.bool false) (.slice none 0 0)).drew
              have G5 : Hid (w.grownBy W5 (some q)) := by show World.grownBy _ _ _; rw [hW5]; exact mod_drew (mod_sp17 M3.out.gr (Nat.le_refl _) (.int .i64 LP) (.int .i64 VR) (.int .i64 MD) (.int .i64 x1) (.int .i64 PO) (.int .i64 PR) (.int .i64 (y0 * 65536)) (.int .i64 (y1 * 65536)) (.int .u32 y2) (.int .u64 t0) (.int .u64 t1) (.int .u64 t2) (.int .u64 t3) (.slice none 0 0) (.int .i64 0) (.bool false) (.slice none 0 0))
              have R5 : Hid (RdX N q W5 bs er) := by show RdX _ _ _ _ _; rw [hW5]; exact (RdX.sp17 M3.out.rd (by omega) (by omega) (.int .i64 LP) (.int .i64 VR) (.int .i64 MD) (.int .i64 x1) (.int .i64 PO) (.int .i64 PR) (.int .i64 (y0 * 65536)) (.int .i64 (y1 * 65536)) (.int .u32 y2) (.int .u64 t0) (.int .u64 t1) (.int .u64 t2) (.int .u64 t3) (.slice none 0 0) (.int .i64 0) (.bool false) (.slice none 0 0)).drew
              clear hW5 z0 z1 z2 z3 z4 z5 z6 z7 z8 z9 z10 z11 z12 z13 z14 z15 z16 zf d0 d1 d2 d3 f0 f1 f2 g0 g1 g2 g3 K0
              go_wp2_with fail
              refine bodyPost_ret (v := pkV ⟨LP, VR, MD, x1, PO, PR, y0 * 65536, y1 * 65536, y2, t0, t1, t2, t3⟩ (.slice none 0 0) 0 false (.slice none 0 0)) (res_pk Try.results34 _ _ w.heap.size _ (by rfl) B5.out (by rfl)) rfl ⟨_, bs, er, rfl, G5.out, R5.out, M3.out.pg, M3.out.ln, fun e => ?_⟩
              obtain ⟨v0, v1, v2, v3, v4, v5, v6, v7, v8, v9, v10⟩ := HV.out e
              obtain ⟨u0, u1, u2, u3, u4⟩ := HL.out
              unfold hdD
              rw [u0, u1, u2, u3, u4, v0, v1, v2, v3, v4, v5, v6, v7, v8, v9, v10]
end Go.Proofs.Ytdobghhjlfffpaa
