/-
  DERIVED. GIVEN WITH THE SEED: THE CARDS: each row of YtocimfhagkcnlaaDoorRows.lean that lists a variable, with what it lists TIED to the program's text (the seventh form; the later family's looks); each row that meets fmt, with fmt's text TOLD by the authors' own Lean function (tested against real Go, not proved from fmt's source: count such statements apart). THE CARD IS WHAT COUNTS. Prove the row's statement (the work); the ties are given (YtocimfhagkcnlaaDoorTie.lean); close each card by the builder's one call (the guide's Derived/Test/ToyasCard.lean, 'card_holds'). Laid BY PROGRAM, IN A SANDBOX (cutbox-door.mjs). By AI agents, Wed Nov 11 2026. No macro, syntax, notation, axiom, sorry.
-/
import Derived.Test.YtocimfhagkcnlaaDoorRows
import GoSem.ClaimSeven
namespace Go.Proofs.YtocimfhagkcnlaaDoor
namespace Rows

/-- THE TIED CARD OF 'foliotlaw04.AuthDigests'. -/
def authDigestsCard : Claim7 := { stood := { row := authDigestsRow, standIns := [], harness := (true, "cf4bf577e7077b270e33b6e034690735215a54c467a963f21c3109ac1c56906b"), looks := false }, kinds := [], alts := [], laidByText := true, laidKinds := [.data], laidTests := true, laidLooks := .later }
def AuthDigestsCardSaid : Prop := Claim7.holds Tryd.pinned (.plain (OpenSpec.ofChange authDigestsSpec)) authDigestsCard

/-- THE TIED CARD OF 'foliotlaw04.AuthKeys'. -/
def authKeysCard : Claim7 := { stood := { row := authKeysRow, standIns := [], harness := (true, "cf4bf577e7077b270e33b6e034690735215a54c467a963f21c3109ac1c56906b"), looks := false }, kinds := [], alts := [], laidByText := true, laidKinds := [.data], laidTests := true, laidLooks := .later }
def AuthKeysCardSaid : Prop := Claim7.holds Tryd.pinned (.plain (OpenSpec.ofChange authKeysSpec)) authKeysCard

/-- THE TIED CARD OF 'foliotlaw04.AuthSame'. -/
def authSameCard : Claim7 := { stood := { row := authSameRow, standIns := [], harness := (true, "cf4bf577e7077b270e33b6e034690735215a54c467a963f21c3109ac1c56906b"), looks := false }, kinds := [], alts := [], laidByText := true, laidKinds := [.data], laidTests := true, laidLooks := .later }
def AuthSameCardSaid : Prop := Claim7.holds Tryd.pinned (.plain (OpenSpec.ofChange authSameSpec)) authSameCard

/-- THE TIED CARD OF 'foliotlaw04.AuthFiles'. -/
def authFilesCard : Claim7 := { stood := { row := authFilesRow, standIns := [], harness := (true, "cf4bf577e7077b270e33b6e034690735215a54c467a963f21c3109ac1c56906b"), looks := false }, kinds := [], alts := [], laidByText := true, laidKinds := [.data, .data, .data, .data], laidTests := true, laidLooks := .later }
def AuthFilesCardSaid : Prop := Claim7.holds Tryd.pinned (.plain (OpenSpec.ofChange authFilesSpec)) authFilesCard

/-- THE TIED CARD OF 'foliotlaw04.AuthBack'. -/
def authBackCard : Claim7 := { stood := { row := authBackRow, standIns := [], harness := (true, "cf4bf577e7077b270e33b6e034690735215a54c467a963f21c3109ac1c56906b"), looks := false }, kinds := [], alts := [], laidByText := true, laidKinds := [.data, .data, .data, .data], laidTests := true, laidLooks := .later }
def AuthBackCardSaid : Prop := Claim7.holds Tryd.pinned (.plain (OpenSpec.ofChange authBackSpec)) authBackCard

/-- THE SECOND FORM's CARD OF 'foliotlaw04.AuthDigests'. -/
def authDigestsUptoCard : Claim7 := { stood := { row := authDigestsUptoRow, standIns := [], harness := (true, "cf4bf577e7077b270e33b6e034690735215a54c467a963f21c3109ac1c56906b"), looks := false }, kinds := [], alts := [], laidByText := true, laidKinds := [.data], laidTests := true, laidLooks := .later }
def AuthDigestsUptoCardSaid : Prop := Claim7.holds Tryd.pinned (.plain (OpenSpec.upto authDigestsSpec)) authDigestsUptoCard

/-- THE SECOND FORM's CARD OF 'foliotlaw04.AuthKeys'. -/
def authKeysUptoCard : Claim7 := { stood := { row := authKeysUptoRow, standIns := [], harness := (true, "cf4bf577e7077b270e33b6e034690735215a54c467a963f21c3109ac1c56906b"), looks := false }, kinds := [], alts := [], laidByText := true, laidKinds := [.data], laidTests := true, laidLooks := .later }
def AuthKeysUptoCardSaid : Prop := Claim7.holds Tryd.pinned (.plain (OpenSpec.upto authKeysSpec)) authKeysUptoCard

/-- THE SECOND FORM's CARD OF 'foliotlaw04.AuthSame'. -/
def authSameUptoCard : Claim7 := { stood := { row := authSameUptoRow, standIns := [], harness := (true, "cf4bf577e7077b270e33b6e034690735215a54c467a963f21c3109ac1c56906b"), looks := false }, kinds := [], alts := [], laidByText := true, laidKinds := [.data], laidTests := true, laidLooks := .later }
def AuthSameUptoCardSaid : Prop := Claim7.holds Tryd.pinned (.plain (OpenSpec.upto authSameSpec)) authSameUptoCard

/-- THE SECOND FORM's CARD OF 'foliotlaw04.AuthFiles'. -/
def authFilesUptoCard : Claim7 := { stood := { row := authFilesUptoRow, standIns := [], harness := (true, "cf4bf577e7077b270e33b6e034690735215a54c467a963f21c3109ac1c56906b"), looks := false }, kinds := [], alts := [], laidByText := true, laidKinds := [.data, .data, .data, .data], laidTests := true, laidLooks := .later }
def AuthFilesUptoCardSaid : Prop := Claim7.holds Tryd.pinned (.plain (OpenSpec.upto authFilesSpec)) authFilesUptoCard

/-- THE SECOND FORM's CARD OF 'foliotlaw04.AuthBack'. -/
def authBackUptoCard : Claim7 := { stood := { row := authBackUptoRow, standIns := [], harness := (true, "cf4bf577e7077b270e33b6e034690735215a54c467a963f21c3109ac1c56906b"), looks := false }, kinds := [], alts := [], laidByText := true, laidKinds := [.data, .data, .data, .data], laidTests := true, laidLooks := .later }
def AuthBackUptoCardSaid : Prop := Claim7.holds Tryd.pinned (.plain (OpenSpec.upto authBackSpec)) authBackUptoCard
end Rows
end Go.Proofs.YtocimfhagkcnlaaDoor
