/-
  DERIVED. GIVEN WITH THE SEED: THE CARDS: each row of YtbkadfdpboghiaaDoorRows.lean that lists a variable, with what it lists TIED to the program's text (the seventh form; the later family's looks); each row that meets fmt, with fmt's text TOLD by the authors' own Lean function (tested against real Go, not proved from fmt's source: count such statements apart). THE CARD IS WHAT COUNTS. Prove the row's statement (the work); the ties are given (YtbkadfdpboghiaaDoorTie.lean); close each card by the builder's one call (the guide's Derived/Test/ToyasCard.lean, 'card_holds'). Laid BY PROGRAM, IN A SANDBOX (cutbox-door.mjs). By AI agents, Wed Nov 11 2026. No macro, syntax, notation, axiom, sorry.
-/
import Derived.Test.YtbkadfdpboghiaaDoorRows
import GoSem.ClaimSeven
namespace Go.Proofs.YtbkadfdpboghiaaDoor
namespace Rows

/-- THE TIED CARD OF 'boomeranglaw07.ModelChecks'. -/
def modelChecksCard : Claim7 := { stood := { row := modelChecksRow, standIns := [], harness := (true, "d4e2dfc0f3e8c7f3e34dbd307c470d1036eef5709b65e6ec16be812e3c2eba8e"), looks := false }, kinds := [], alts := [], laidByText := true, laidKinds := [.data], laidTests := true, laidLooks := .later }
def ModelChecksCardSaid : Prop := Claim7.holds Tryd.pinned (.plain (OpenSpec.ofChange modelChecksSpec)) modelChecksCard

/-- THE TIED CARD OF 'boomeranglaw07.ModelKeeps'. -/
def modelKeepsCard : Claim7 := { stood := { row := modelKeepsRow, standIns := [], harness := (true, "d4e2dfc0f3e8c7f3e34dbd307c470d1036eef5709b65e6ec16be812e3c2eba8e"), looks := false }, kinds := [], alts := [], laidByText := true, laidKinds := [.data], laidTests := true, laidLooks := .later }
def ModelKeepsCardSaid : Prop := Claim7.holds Tryd.pinned (.plain (OpenSpec.ofChange modelKeepsSpec)) modelKeepsCard

/-- THE TIED CARD OF 'boomeranglaw07.ModelEvents'. -/
def modelEventsCard : Claim7 := { stood := { row := modelEventsRow, standIns := [], harness := (true, "d4e2dfc0f3e8c7f3e34dbd307c470d1036eef5709b65e6ec16be812e3c2eba8e"), looks := false }, kinds := [], alts := [], laidByText := true, laidKinds := [.data], laidTests := true, laidLooks := .later }
def ModelEventsCardSaid : Prop := Claim7.holds Tryd.pinned (.plain (OpenSpec.ofChange modelEventsSpec)) modelEventsCard

/-- THE TIED CARD OF 'boomeranglaw07.ModelNil'. -/
def modelNilCard : Claim7 := { stood := { row := modelNilRow, standIns := [], harness := (true, "d4e2dfc0f3e8c7f3e34dbd307c470d1036eef5709b65e6ec16be812e3c2eba8e"), looks := false }, kinds := [], alts := [], laidByText := true, laidKinds := [.data], laidTests := true, laidLooks := .later }
def ModelNilCardSaid : Prop := Claim7.holds Tryd.pinned (.plain (OpenSpec.ofChange modelNilSpec)) modelNilCard

/-- THE TIED CARD OF 'boomeranglaw07.ModelSame'. -/
def modelSameCard : Claim7 := { stood := { row := modelSameRow, standIns := [], harness := (true, "d4e2dfc0f3e8c7f3e34dbd307c470d1036eef5709b65e6ec16be812e3c2eba8e"), looks := false }, kinds := [], alts := [], laidByText := true, laidKinds := [.data], laidTests := true, laidLooks := .later }
def ModelSameCardSaid : Prop := Claim7.holds Tryd.pinned (.plain (OpenSpec.ofChange modelSameSpec)) modelSameCard

/-- THE SECOND FORM's CARD OF 'boomeranglaw07.ModelChecks'. -/
def modelChecksUptoCard : Claim7 := { stood := { row := modelChecksUptoRow, standIns := [], harness := (true, "d4e2dfc0f3e8c7f3e34dbd307c470d1036eef5709b65e6ec16be812e3c2eba8e"), looks := false }, kinds := [], alts := [], laidByText := true, laidKinds := [.data], laidTests := true, laidLooks := .later }
def ModelChecksUptoCardSaid : Prop := Claim7.holds Tryd.pinned (.plain (OpenSpec.upto modelChecksSpec)) modelChecksUptoCard

/-- THE SECOND FORM's CARD OF 'boomeranglaw07.ModelKeeps'. -/
def modelKeepsUptoCard : Claim7 := { stood := { row := modelKeepsUptoRow, standIns := [], harness := (true, "d4e2dfc0f3e8c7f3e34dbd307c470d1036eef5709b65e6ec16be812e3c2eba8e"), looks := false }, kinds := [], alts := [], laidByText := true, laidKinds := [.data], laidTests := true, laidLooks := .later }
def ModelKeepsUptoCardSaid : Prop := Claim7.holds Tryd.pinned (.plain (OpenSpec.upto modelKeepsSpec)) modelKeepsUptoCard

/-- THE SECOND FORM's CARD OF 'boomeranglaw07.ModelEvents'. -/
def modelEventsUptoCard : Claim7 := { stood := { row := modelEventsUptoRow, standIns := [], harness := (true, "d4e2dfc0f3e8c7f3e34dbd307c470d1036eef5709b65e6ec16be812e3c2eba8e"), looks := false }, kinds := [], alts := [], laidByText := true, laidKinds := [.data], laidTests := true, laidLooks := .later }
def ModelEventsUptoCardSaid : Prop := Claim7.holds Tryd.pinned (.plain (OpenSpec.upto modelEventsSpec)) modelEventsUptoCard

/-- THE SECOND FORM's CARD OF 'boomeranglaw07.ModelNil'. -/
def modelNilUptoCard : Claim7 := { stood := { row := modelNilUptoRow, standIns := [], harness := (true, "d4e2dfc0f3e8c7f3e34dbd307c470d1036eef5709b65e6ec16be812e3c2eba8e"), looks := false }, kinds := [], alts := [], laidByText := true, laidKinds := [.data], laidTests := true, laidLooks := .later }
def ModelNilUptoCardSaid : Prop := Claim7.holds Tryd.pinned (.plain (OpenSpec.upto modelNilSpec)) modelNilUptoCard

/-- THE SECOND FORM's CARD OF 'boomeranglaw07.ModelSame'. -/
def modelSameUptoCard : Claim7 := { stood := { row := modelSameUptoRow, standIns := [], harness := (true, "d4e2dfc0f3e8c7f3e34dbd307c470d1036eef5709b65e6ec16be812e3c2eba8e"), looks := false }, kinds := [], alts := [], laidByText := true, laidKinds := [.data], laidTests := true, laidLooks := .later }
def ModelSameUptoCardSaid : Prop := Claim7.holds Tryd.pinned (.plain (OpenSpec.upto modelSameSpec)) modelSameUptoCard
end Rows
end Go.Proofs.YtbkadfdpboghiaaDoor
