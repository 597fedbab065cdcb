/- slices.symMergeCmpFunc, whole. -/
import Derived.Test.YtdlipponajilbaaClWb
import Derived.Test.YtdlipponajilbaaClWc
namespace Go.Proofs.Ytdlipponajilbaa
open Go Go.RowKit Go.Sort Go.Shelf Go.Lib Go.Proofs
set_option linter.unusedVariables false
variable {α : Type} [Inhabited α] {enc : α → List Value} {w0 : World} {blk off : Nat} {d0 : Array α}
theorem sym_any (R : RowK enc 8 w0 blk off d0) (cf : α → α → Int) (hS : SWO (ltOf cf)) (hcmp : CmpLays Try.prog 40 #[] enc 8 cf blk off d0.size w0) (N cap : Nat) (hN : N = d0.size) (hsz : N ≤ 1000000) : ∀ (T : Nat) (P U V Z : List α) (a m b : Nat) (x y z : Int) (W : World), U.length + V.length ≤ T → x = a → y = m → z = b → a = P.length → m = a + U.length → b = m + V.length → 0 < U.length → 0 < V.length → St.So (ltOf cf) U → St.So (ltOf cf) V → N = b + Z.length → SWK enc 8 w0 blk off (P ++ (U ++ (V ++ Z))).toArray W →
    Calls Try.prog 81 #[.slice (some ⟨blk, off, none⟩) N cap, .int .i64 x, .int .i64 y, .int .i64 z, .func (.func 40) #[] #[]] W fun e w' => e = .returned (.tuple #[]) ∧ Hid (SWK enc 8 w0 blk off (P ++ (St.mg (ltOf cf) U V ++ Z)).toArray w') := by
  intro T
  induction T with
  | zero => intro P U V Z a m b x y z W hT _ _ _ _ _ _ hU _; omega
  | succ T ih =>
    intro P U V Z a m b x y z W hT hx hy hz ha hm hb hU hV sU sV hL h
    subst hx hy hz
    by_cases h1 : U.length = 1
    · obtain ⟨u, rfl⟩ := List.length_eq_one_iff.1 h1
      exact symL_any R cf hS hcmp P V Z u N a m b cap ha hm hb sV hN hL hsz W (by simpa using h)
    · by_cases h2 : V.length = 1
      · obtain ⟨v, rfl⟩ := List.length_eq_one_iff.1 h2
        exact symR_any R cf hS hcmp P U Z v N a m b cap ha hm (by omega) hb sU hN hL hsz W (by simpa using h)
      · have HI := fun (P' U' V' Z' : List α) (a' m' b' : Nat) (x y z : Int) (W' : World) (hlt : U'.length + V'.length < U.length + V.length) => ih P' U' V' Z' a' m' b' x y z W' (by omega)
        by_cases hc : (a + b) / 2 < m
        · exact symGb_any R cf hS hcmp P U V Z N a m b cap ha hm hb (by omega) (by omega) sU sV hN hL hsz HI hc W h
        · exact symGc_any R cf hS hcmp P U V Z N a m b cap ha hm hb (by omega) (by omega) sU sV hN hL hsz HI (by omega) W h
end Go.Proofs.Ytdlipponajilbaa
