/-
  DERIVED. GIVEN WITH THE SEED: THE CARDS: each row of YtibpfkcackdbgaaGreatDoorRows.lean that lists a variable, with what it lists TIED to the program's text (the seventh form; the later family's looks); each row that meets fmt, with fmt's text TOLD by the authors' own Lean function (tested against real Go, not proved from fmt's source: count such statements apart). THE CARD IS WHAT COUNTS. Prove the row's statement (the work); the ties are given (YtibpfkcackdbgaaGreatDoorTie.lean); close each card by the builder's one call (the guide's Derived/Test/ToyasCard.lean, 'card_holds'). Laid BY PROGRAM, IN A SANDBOX (cutbox-door.mjs). By AI agents, Wed Nov 11 2026. No macro, syntax, notation, axiom, sorry.
-/
import Derived.Test.YtibpfkcackdbgaaGreatDoorRows
import GoSem.ClaimSeven
namespace Go.Proofs.YtibpfkcackdbgaaGreatDoor
namespace Rows

/-- THE TIED CARD OF 'wealdlaw15.ListAlone'. -/
def listAloneCard : Claim7 := { stood := { row := listAloneRow, standIns := [], harness := (true, "a3f0f31a54d84e334abdb6afb94ff2979c5f8ad5e3892efc7c397a8c2172375d"), looks := true }, kinds := [], alts := [], laidByText := true, laidKinds := [.data], laidTests := true, laidLooks := .later }
def ListAloneCardSaid : Prop := Claim7.holds Tryz.pinned (.plain (OpenSpec.ofChange listAloneSpec)) listAloneCard

/-- THE TIED CARD OF 'wealdlaw15.ListSwept'. -/
def listSweptCard : Claim7 := { stood := { row := listSweptRow, standIns := [], harness := (true, "a3f0f31a54d84e334abdb6afb94ff2979c5f8ad5e3892efc7c397a8c2172375d"), looks := true }, kinds := [], alts := [], laidByText := true, laidKinds := [.data], laidTests := true, laidLooks := .later }
def ListSweptCardSaid : Prop := Claim7.holds Tryz.pinned (.plain (OpenSpec.ofChange listSweptSpec)) listSweptCard

/-- THE TIED CARD OF 'wealdlaw15.ListDirect'. -/
def listDirectCard : Claim7 := { stood := { row := listDirectRow, standIns := [], harness := (true, "a3f0f31a54d84e334abdb6afb94ff2979c5f8ad5e3892efc7c397a8c2172375d"), looks := true }, kinds := [], alts := [], laidByText := true, laidKinds := [.data], laidTests := true, laidLooks := .later }
def ListDirectCardSaid : Prop := Claim7.holds Tryz.pinned (.plain (OpenSpec.ofChange listDirectSpec)) listDirectCard

/-- THE TIED CARD OF 'wealdlaw16.VertNext'. -/
def vertNextCard : Claim7 := { stood := { row := vertNextRow, standIns := [], harness := (true, "a3f0f31a54d84e334abdb6afb94ff2979c5f8ad5e3892efc7c397a8c2172375d"), looks := true }, kinds := [], alts := [], laidByText := true, laidKinds := [.data], laidTests := true, laidLooks := .later }
def VertNextCardSaid : Prop := Claim7.holds Tryz.pinned (.plain (OpenSpec.ofChange vertNextSpec)) vertNextCard

/-- THE TIED CARD OF 'wealdlaw16.VertAlone'. -/
def vertAloneCard : Claim7 := { stood := { row := vertAloneRow, standIns := [], harness := (true, "a3f0f31a54d84e334abdb6afb94ff2979c5f8ad5e3892efc7c397a8c2172375d"), looks := true }, kinds := [], alts := [], laidByText := true, laidKinds := [.data], laidTests := true, laidLooks := .later }
def VertAloneCardSaid : Prop := Claim7.holds Tryz.pinned (.plain (OpenSpec.ofChange vertAloneSpec)) vertAloneCard

/-- THE TIED CARD OF 'wealdlaw16.VertRace'. -/
def vertRaceCard : Claim7 := { stood := { row := vertRaceRow, standIns := [], harness := (true, "a3f0f31a54d84e334abdb6afb94ff2979c5f8ad5e3892efc7c397a8c2172375d"), looks := true }, kinds := [], alts := [], laidByText := true, laidKinds := [.data], laidTests := true, laidLooks := .later }
def VertRaceCardSaid : Prop := Claim7.holds Tryz.pinned (.plain (OpenSpec.ofChange vertRaceSpec)) vertRaceCard

/-- THE TIED CARD OF 'wealdlaw16.VertSealed'. -/
def vertSealedCard : Claim7 := { stood := { row := vertSealedRow, standIns := [], harness := (true, "a3f0f31a54d84e334abdb6afb94ff2979c5f8ad5e3892efc7c397a8c2172375d"), looks := true }, kinds := [], alts := [], laidByText := true, laidKinds := [.data], laidTests := true, laidLooks := .later }
def VertSealedCardSaid : Prop := Claim7.holds Tryz.pinned (.plain (OpenSpec.ofChange vertSealedSpec)) vertSealedCard

/-- THE TIED CARD OF 'wealdlaw16.VertDurable'. -/
def vertDurableCard : Claim7 := { stood := { row := vertDurableRow, standIns := [], harness := (true, "a3f0f31a54d84e334abdb6afb94ff2979c5f8ad5e3892efc7c397a8c2172375d"), looks := true }, kinds := [], alts := [], laidByText := true, laidKinds := [.data], laidTests := true, laidLooks := .later }
def VertDurableCardSaid : Prop := Claim7.holds Tryz.pinned (.plain (OpenSpec.ofChange vertDurableSpec)) vertDurableCard

/-- THE TIED CARD OF 'wealdlaw16.VertOrder'. -/
def vertOrderCard : Claim7 := { stood := { row := vertOrderRow, standIns := [], harness := (true, "a3f0f31a54d84e334abdb6afb94ff2979c5f8ad5e3892efc7c397a8c2172375d"), looks := true }, kinds := [], alts := [], laidByText := true, laidKinds := [.data], laidTests := true, laidLooks := .later }
def VertOrderCardSaid : Prop := Claim7.holds Tryz.pinned (.plain (OpenSpec.ofChange vertOrderSpec)) vertOrderCard

/-- THE SECOND FORM's CARD OF 'wealdlaw15.ListAlone'. -/
def listAloneUptoCard : Claim7 := { stood := { row := listAloneUptoRow, standIns := [], harness := (true, "a3f0f31a54d84e334abdb6afb94ff2979c5f8ad5e3892efc7c397a8c2172375d"), looks := true }, kinds := [], alts := [], laidByText := true, laidKinds := [.data], laidTests := true, laidLooks := .later }
def ListAloneUptoCardSaid : Prop := Claim7.holds Tryz.pinned (.plain (OpenSpec.upto listAloneSpec)) listAloneUptoCard

/-- THE SECOND FORM's CARD OF 'wealdlaw15.ListSwept'. -/
def listSweptUptoCard : Claim7 := { stood := { row := listSweptUptoRow, standIns := [], harness := (true, "a3f0f31a54d84e334abdb6afb94ff2979c5f8ad5e3892efc7c397a8c2172375d"), looks := true }, kinds := [], alts := [], laidByText := true, laidKinds := [.data], laidTests := true, laidLooks := .later }
def ListSweptUptoCardSaid : Prop := Claim7.holds Tryz.pinned (.plain (OpenSpec.upto listSweptSpec)) listSweptUptoCard

/-- THE SECOND FORM's CARD OF 'wealdlaw15.ListDirect'. -/
def listDirectUptoCard : Claim7 := { stood := { row := listDirectUptoRow, standIns := [], harness := (true, "a3f0f31a54d84e334abdb6afb94ff2979c5f8ad5e3892efc7c397a8c2172375d"), looks := true }, kinds := [], alts := [], laidByText := true, laidKinds := [.data], laidTests := true, laidLooks := .later }
def ListDirectUptoCardSaid : Prop := Claim7.holds Tryz.pinned (.plain (OpenSpec.upto listDirectSpec)) listDirectUptoCard

/-- THE SECOND FORM's CARD OF 'wealdlaw16.VertNext'. -/
def vertNextUptoCard : Claim7 := { stood := { row := vertNextUptoRow, standIns := [], harness := (true, "a3f0f31a54d84e334abdb6afb94ff2979c5f8ad5e3892efc7c397a8c2172375d"), looks := true }, kinds := [], alts := [], laidByText := true, laidKinds := [.data], laidTests := true, laidLooks := .later }
def VertNextUptoCardSaid : Prop := Claim7.holds Tryz.pinned (.plain (OpenSpec.upto vertNextSpec)) vertNextUptoCard

/-- THE SECOND FORM's CARD OF 'wealdlaw16.VertAlone'. -/
def vertAloneUptoCard : Claim7 := { stood := { row := vertAloneUptoRow, standIns := [], harness := (true, "a3f0f31a54d84e334abdb6afb94ff2979c5f8ad5e3892efc7c397a8c2172375d"), looks := true }, kinds := [], alts := [], laidByText := true, laidKinds := [.data], laidTests := true, laidLooks := .later }
def VertAloneUptoCardSaid : Prop := Claim7.holds Tryz.pinned (.plain (OpenSpec.upto vertAloneSpec)) vertAloneUptoCard

/-- THE SECOND FORM's CARD OF 'wealdlaw16.VertRace'. -/
def vertRaceUptoCard : Claim7 := { stood := { row := vertRaceUptoRow, standIns := [], harness := (true, "a3f0f31a54d84e334abdb6afb94ff2979c5f8ad5e3892efc7c397a8c2172375d"), looks := true }, kinds := [], alts := [], laidByText := true, laidKinds := [.data], laidTests := true, laidLooks := .later }
def VertRaceUptoCardSaid : Prop := Claim7.holds Tryz.pinned (.plain (OpenSpec.upto vertRaceSpec)) vertRaceUptoCard

/-- THE SECOND FORM's CARD OF 'wealdlaw16.VertSealed'. -/
def vertSealedUptoCard : Claim7 := { stood := { row := vertSealedUptoRow, standIns := [], harness := (true, "a3f0f31a54d84e334abdb6afb94ff2979c5f8ad5e3892efc7c397a8c2172375d"), looks := true }, kinds := [], alts := [], laidByText := true, laidKinds := [.data], laidTests := true, laidLooks := .later }
def VertSealedUptoCardSaid : Prop := Claim7.holds Tryz.pinned (.plain (OpenSpec.upto vertSealedSpec)) vertSealedUptoCard

/-- THE SECOND FORM's CARD OF 'wealdlaw16.VertDurable'. -/
def vertDurableUptoCard : Claim7 := { stood := { row := vertDurableUptoRow, standIns := [], harness := (true, "a3f0f31a54d84e334abdb6afb94ff2979c5f8ad5e3892efc7c397a8c2172375d"), looks := true }, kinds := [], alts := [], laidByText := true, laidKinds := [.data], laidTests := true, laidLooks := .later }
def VertDurableUptoCardSaid : Prop := Claim7.holds Tryz.pinned (.plain (OpenSpec.upto vertDurableSpec)) vertDurableUptoCard

/-- THE SECOND FORM's CARD OF 'wealdlaw16.VertOrder'. -/
def vertOrderUptoCard : Claim7 := { stood := { row := vertOrderUptoRow, standIns := [], harness := (true, "a3f0f31a54d84e334abdb6afb94ff2979c5f8ad5e3892efc7c397a8c2172375d"), looks := true }, kinds := [], alts := [], laidByText := true, laidKinds := [.data], laidTests := true, laidLooks := .later }
def VertOrderUptoCardSaid : Prop := Claim7.holds Tryz.pinned (.plain (OpenSpec.upto vertOrderSpec)) vertOrderUptoCard
end Rows
end Go.Proofs.YtibpfkcackdbgaaGreatDoor
