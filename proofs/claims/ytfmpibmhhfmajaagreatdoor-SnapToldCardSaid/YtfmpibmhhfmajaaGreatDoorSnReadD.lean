/- What the document's Read answers, of any bytes. -/
import Derived.Test.YtfmpibmhhfmajaaGreatDoorSnRead0
namespace Go.Proofs.YtfmpibmhhfmajaaGreatDoor
set_option maxRecDepth 100000
open Go.RowKit Go.ChangeShapes Go.WideShapes Go.ChangeAt
attribute [local go_sem ↓] ldOr stOr alOr bxOr bdOr ldBa stBa alBa bxBa bdBa ldSt stSt alSt bxSt bdSt bsOr3 bsBa3
attribute [local go_sem] al_or bx_or st_ornew bd_or al_ba bx_ba st_banew bd_ba al_sta bx_sta st_stnew bd_sta bs_or3 bs_ba3

theorem ownSt_doors {W : World} {B : Nat} {a b c d : Int} {e n nb nk : Int} {l : List Int} {p : Option Addr} {q : Nat} (h : OwnI W B (.slice p l.length q) l) : OwnSt W B ⟨⟨a, b⟩, ⟨c, d⟩, e, l, p, q, n, nb, nk, [], none, 0, [], none, 0, [], none, 0⟩ :=
  ⟨h, World.ownsRow_nil _ _ _ _, (fun _ h => by cases h), World.ownsRow_nil _ _ _ _, (fun _ h => by cases h), World.ownsRow_nil _ _ _ _⟩
theorem i64_small {n m : Nat} (h : n ≤ m) (hm : m ≤ 1000000000000) : IntKind.i64.wrap (n : Int) = (n : Int) := by rw [IntKind.wrap_i64]; omega
end Go.Proofs.YtfmpibmhhfmajaaGreatDoor
