/- Blocks of two and of seven cells that stay. -/
import Derived.Test.YtifaneckfnjgiabStH
import Derived.WalkKit
import Derived.Below
namespace Go.Proofs.Ytifaneckfnjgiab
open Go.RowKit
/-- a date that lies in a block -/
structure R2 (v : World) (A : Nat) (e t : Int) : Prop where
  top : A < v.heap.size
  c0 : v.cell? ⟨A, 0, none⟩ = some (.int .i64 e)
  c1 : v.cell? ⟨A, 1, none⟩ = some (.int .u64 t)
theorem R2.step {v v' : World} {A : Nat} {e t : Int} (x : R2 v A e t) (hb : Below v.heap.size v v') : R2 v' A e t :=
  ⟨Nat.lt_of_lt_of_le x.top hb.size, by rw [hb.cell x.top]; exact x.c0, by rw [hb.cell x.top]; exact x.c1⟩
theorem R2.drew {v : World} {A : Nat} {e t : Int} (x : R2 v A e t) : R2 v.drew A e t := ⟨x.top, x.c0, x.c1⟩
theorem R2.alloc {v : World} {A : Nat} {e t : Int} (x : R2 v A e t) (o : Obj) : R2 (v.alloc o) A e t := x.step ((Below.refl _ _).alloc (Nat.le_refl _) o)
theorem R2.new (v : World) (e t : Int) (T : TypeId) : R2 (v.alloc (.cells #[.int .i64 e, .int .u64 t] T)) v.heap.size e t :=
  ⟨by simp, by rw [World.cell?_alloc_new]; rfl, by rw [World.cell?_alloc_new]; rfl⟩
/-- a calendar's date that lies in a block -/
structure R7 (v : World) (A : Nat) (y m d h n s f : Int) : Prop where
  top : A < v.heap.size
  c0 : v.cell? ⟨A, 0, none⟩ = some (.int .i64 y)
  c1 : v.cell? ⟨A, 1, none⟩ = some (.int .i64 m)
  c2 : v.cell? ⟨A, 2, none⟩ = some (.int .i64 d)
  c3 : v.cell? ⟨A, 3, none⟩ = some (.int .i64 h)
  c4 : v.cell? ⟨A, 4, none⟩ = some (.int .i64 n)
  c5 : v.cell? ⟨A, 5, none⟩ = some (.int .i64 s)
  c6 : v.cell? ⟨A, 6, none⟩ = some (.int .u32 f)
theorem R7.step {v v' : World} {A : Nat} {y m d h n s f : Int} (x : R7 v A y m d h n s f) (hb : Below v.heap.size v v') : R7 v' A y m d h n s f :=
  ⟨Nat.lt_of_lt_of_le x.top hb.size, by rw [hb.cell x.top]; exact x.c0, by rw [hb.cell x.top]; exact x.c1, by rw [hb.cell x.top]; exact x.c2, by rw [hb.cell x.top]; exact x.c3, by rw [hb.cell x.top]; exact x.c4, by rw [hb.cell x.top]; exact x.c5, by rw [hb.cell x.top]; exact x.c6⟩
theorem R7.drew {v : World} {A : Nat} {y m d h n s f : Int} (x : R7 v A y m d h n s f) : R7 v.drew A y m d h n s f := ⟨x.top, x.c0, x.c1, x.c2, x.c3, x.c4, x.c5, x.c6⟩
theorem R7.alloc {v : World} {A : Nat} {y m d h n s f : Int} (x : R7 v A y m d h n s f) (o : Obj) : R7 (v.alloc o) A y m d h n s f := x.step ((Below.refl _ _).alloc (Nat.le_refl _) o)
theorem R7.new (v : World) (y m d h n s f : Int) (T : TypeId) : R7 (v.alloc (.cells #[.int .i64 y, .int .i64 m, .int .i64 d, .int .i64 h, .int .i64 n, .int .i64 s, .int .u32 f] T)) v.heap.size y m d h n s f :=
  ⟨by simp, by rw [World.cell?_alloc_new]; rfl, by rw [World.cell?_alloc_new]; rfl, by rw [World.cell?_alloc_new]; rfl, by rw [World.cell?_alloc_new]; rfl, by rw [World.cell?_alloc_new]; rfl, by rw [World.cell?_alloc_new]; rfl, by rw [World.cell?_alloc_new]; rfl⟩
/-- one world behind another: what was there stays -/
theorem bel_step {w v v' : World} (h : Below w.heap.size w v) (hb : Below v.heap.size v v') : Below w.heap.size w v' := h.trans (hb.mono h.size)
theorem bel_alloc {w v : World} (h : Below w.heap.size w v) (o : Obj) : Below w.heap.size w (v.alloc o) := h.alloc h.size o
end Go.Proofs.Ytifaneckfnjgiab
