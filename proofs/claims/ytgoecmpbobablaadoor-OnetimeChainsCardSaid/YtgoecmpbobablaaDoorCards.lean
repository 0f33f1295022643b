/-
  DERIVED. GIVEN WITH THE SEED: THE CARDS: each row of YtgoecmpbobablaaDoorRows.lean that lists a variable, with what it lists TIED to the program's text (the seventh form; the later family's looks); each row that meets fmt, with fmt's text TOLD by the authors' own Lean function (tested against real Go, not proved from fmt's source: count such statements apart). THE CARD IS WHAT COUNTS. Prove the row's statement (the work); the ties are given (YtgoecmpbobablaaDoorTie.lean); close each card by the builder's one call (the guide's Derived/Test/ToyasCard.lean, 'card_holds'). Laid BY PROGRAM, IN A SANDBOX (cutbox-door.mjs). By AI agents, Wed Nov 11 2026. No macro, syntax, notation, axiom, sorry.
-/
import Derived.Test.YtgoecmpbobablaaDoorRows
import GoSem.ClaimSeven
namespace Go.Proofs.YtgoecmpbobablaaDoor
namespace Rows

/-- THE TIED CARD OF 'keyeventlaw11.OnetimeActs'. -/
def onetimeActsCard : Claim7 := { stood := { row := onetimeActsRow, standIns := [], harness := (true, "8c7f6576b43ee8e9404c458631bef7d36071d322ffcdf1e63927a46fb71e2e5a"), looks := false }, kinds := [], alts := [], laidByText := true, laidKinds := [.data, .data], laidTests := true, laidLooks := .later }
def OnetimeActsCardSaid : Prop := Claim7.holds Tryd.pinned (.plain (OpenSpec.ofChange onetimeActsSpec)) onetimeActsCard

/-- THE TIED CARD OF 'keyeventlaw11.OnetimeSigns'. -/
def onetimeSignsCard : Claim7 := { stood := { row := onetimeSignsRow, standIns := [], harness := (true, "8c7f6576b43ee8e9404c458631bef7d36071d322ffcdf1e63927a46fb71e2e5a"), looks := false }, kinds := [], alts := [], laidByText := true, laidKinds := [.data, .data], laidTests := true, laidLooks := .later }
def OnetimeSignsCardSaid : Prop := Claim7.holds Tryd.pinned (.plain (OpenSpec.ofChange onetimeSignsSpec)) onetimeSignsCard

/-- THE TIED CARD OF 'keyeventlaw11.OnetimeForward'. -/
def onetimeForwardCard : Claim7 := { stood := { row := onetimeForwardRow, standIns := [], harness := (true, "8c7f6576b43ee8e9404c458631bef7d36071d322ffcdf1e63927a46fb71e2e5a"), looks := false }, kinds := [], alts := [], laidByText := true, laidKinds := [.data, .data], laidTests := true, laidLooks := .later }
def OnetimeForwardCardSaid : Prop := Claim7.holds Tryd.pinned (.plain (OpenSpec.ofChange onetimeForwardSpec)) onetimeForwardCard

/-- THE TIED CARD OF 'keyeventlaw11.OnetimeChains'. -/
def onetimeChainsCard : Claim7 := { stood := { row := onetimeChainsRow, standIns := [], harness := (true, "8c7f6576b43ee8e9404c458631bef7d36071d322ffcdf1e63927a46fb71e2e5a"), looks := false }, kinds := [], alts := [], laidByText := true, laidKinds := [.data, .data], laidTests := true, laidLooks := .later }
def OnetimeChainsCardSaid : Prop := Claim7.holds Tryd.pinned (.plain (OpenSpec.ofChange onetimeChainsSpec)) onetimeChainsCard

/-- THE TIED CARD OF 'keyeventlaw11.OnetimeSeeds'. -/
def onetimeSeedsCard : Claim7 := { stood := { row := onetimeSeedsRow, standIns := [], harness := (true, "8c7f6576b43ee8e9404c458631bef7d36071d322ffcdf1e63927a46fb71e2e5a"), looks := false }, kinds := [], alts := [], laidByText := true, laidKinds := [.data, .data], laidTests := true, laidLooks := .later }
def OnetimeSeedsCardSaid : Prop := Claim7.holds Tryd.pinned (.plain (OpenSpec.ofChange onetimeSeedsSpec)) onetimeSeedsCard

/-- THE SECOND FORM's CARD OF 'keyeventlaw11.OnetimeActs'. -/
def onetimeActsUptoCard : Claim7 := { stood := { row := onetimeActsUptoRow, standIns := [], harness := (true, "8c7f6576b43ee8e9404c458631bef7d36071d322ffcdf1e63927a46fb71e2e5a"), looks := false }, kinds := [], alts := [], laidByText := true, laidKinds := [.data, .data], laidTests := true, laidLooks := .later }
def OnetimeActsUptoCardSaid : Prop := Claim7.holds Tryd.pinned (.plain (OpenSpec.upto onetimeActsSpec)) onetimeActsUptoCard

/-- THE SECOND FORM's CARD OF 'keyeventlaw11.OnetimeSigns'. -/
def onetimeSignsUptoCard : Claim7 := { stood := { row := onetimeSignsUptoRow, standIns := [], harness := (true, "8c7f6576b43ee8e9404c458631bef7d36071d322ffcdf1e63927a46fb71e2e5a"), looks := false }, kinds := [], alts := [], laidByText := true, laidKinds := [.data, .data], laidTests := true, laidLooks := .later }
def OnetimeSignsUptoCardSaid : Prop := Claim7.holds Tryd.pinned (.plain (OpenSpec.upto onetimeSignsSpec)) onetimeSignsUptoCard

/-- THE SECOND FORM's CARD OF 'keyeventlaw11.OnetimeForward'. -/
def onetimeForwardUptoCard : Claim7 := { stood := { row := onetimeForwardUptoRow, standIns := [], harness := (true, "8c7f6576b43ee8e9404c458631bef7d36071d322ffcdf1e63927a46fb71e2e5a"), looks := false }, kinds := [], alts := [], laidByText := true, laidKinds := [.data, .data], laidTests := true, laidLooks := .later }
def OnetimeForwardUptoCardSaid : Prop := Claim7.holds Tryd.pinned (.plain (OpenSpec.upto onetimeForwardSpec)) onetimeForwardUptoCard

/-- THE SECOND FORM's CARD OF 'keyeventlaw11.OnetimeChains'. -/
def onetimeChainsUptoCard : Claim7 := { stood := { row := onetimeChainsUptoRow, standIns := [], harness := (true, "8c7f6576b43ee8e9404c458631bef7d36071d322ffcdf1e63927a46fb71e2e5a"), looks := false }, kinds := [], alts := [], laidByText := true, laidKinds := [.data, .data], laidTests := true, laidLooks := .later }
def OnetimeChainsUptoCardSaid : Prop := Claim7.holds Tryd.pinned (.plain (OpenSpec.upto onetimeChainsSpec)) onetimeChainsUptoCard

/-- THE SECOND FORM's CARD OF 'keyeventlaw11.OnetimeSeeds'. -/
def onetimeSeedsUptoCard : Claim7 := { stood := { row := onetimeSeedsUptoRow, standIns := [], harness := (true, "8c7f6576b43ee8e9404c458631bef7d36071d322ffcdf1e63927a46fb71e2e5a"), looks := false }, kinds := [], alts := [], laidByText := true, laidKinds := [.data, .data], laidTests := true, laidLooks := .later }
def OnetimeSeedsUptoCardSaid : Prop := Claim7.holds Tryd.pinned (.plain (OpenSpec.upto onetimeSeedsSpec)) onetimeSeedsUptoCard
end Rows
end Go.Proofs.YtgoecmpbobablaaDoor
