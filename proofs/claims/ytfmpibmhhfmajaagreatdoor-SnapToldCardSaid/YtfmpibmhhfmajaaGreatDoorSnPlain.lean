/- Plain facts on commands and states as bytes: what can be, what is written, what is read. -/
import Derived.Test.YtfmpibmhhfmajaaGreatDoorMgState
namespace Go.Proofs.YtfmpibmhhfmajaaGreatDoor
set_option maxRecDepth 100000

/-- A command. -/
structure Cm where
  kind : Int
  id : ByteArray
  ls : List Ln
  car : ByteArray
  zone : ByteArray
  serv : ByteArray
  total : Int
  number : Int
  yes : Bool

def noCm : Cm := ⟨0, ⟨#[]⟩, [], ⟨#[]⟩, ⟨#[]⟩, ⟨#[]⟩, 0, 0, false⟩
/-- The same everywhere? -/
def sameCm (x y : Cm) : Bool := (x.kind == y.kind) && ((x.id.toList == y.id.toList) && (sameL x.ls y.ls && (sameG x.car x.zone x.serv y.car y.zone y.serv && ((x.total == y.total) && ((x.number == y.number) && (x.yes == y.yes))))))
theorem sameCm_iff (x y : Cm) : sameCm x y = true ↔ x = y := by
  unfold sameCm sameG
  simp only [Bool.and_eq_true, sameL_iff, beq_iff_eq, tl_iff]
  cases x; cases y
  simp only [Cm.mk.injEq]
  constructor
  · rintro ⟨h1, h2, h3, ⟨h4, h5, h6⟩, h7, h8, h9⟩
    exact ⟨h1, h2, h3, h4, h5, h6, h7, h8, h9⟩
  · rintro ⟨h1, h2, h3, h4, h5, h6, h7, h8, h9⟩
    exact ⟨h1, h2, h3, ⟨h4, h5, h6⟩, h7, h8, h9⟩
/-- What its kind has, alone. -/
def bareC (c : Cm) : Cm :=
  if c.kind = 1 then ⟨c.kind, c.id, c.ls, c.car, c.zone, c.serv, c.total, 0, false⟩
  else if c.kind = 2 ∨ c.kind = 8 then ⟨c.kind, c.id, [], ⟨#[]⟩, ⟨#[]⟩, ⟨#[]⟩, 0, 0, false⟩
  else if c.kind = 3 then ⟨c.kind, c.id, [], c.car, c.zone, c.serv, 0, 0, false⟩
  else if c.kind = 4 then ⟨c.kind, ⟨#[]⟩, [], ⟨#[]⟩, ⟨#[]⟩, ⟨#[]⟩, 0, c.number, false⟩
  else if c.kind = 5 then ⟨c.kind, ⟨#[]⟩, [], ⟨#[]⟩, ⟨#[]⟩, ⟨#[]⟩, 0, c.number, c.yes⟩
  else ⟨c.kind, ⟨#[]⟩, [], ⟨#[]⟩, ⟨#[]⟩, ⟨#[]⟩, 0, 0, false⟩
/-- What its kind has can be. -/
def fitsC (c : Cm) : Bool :=
  if c.kind = 1 then rightT c.id && (rightLB c.ls && (groupB c.car c.zone c.serv && tallyB c.total))
  else if c.kind = 2 ∨ c.kind = 8 then rightT c.id
  else if c.kind = 3 then rightT c.id && groupB c.car c.zone c.serv
  else if c.kind = 4 then decide (1 ≤ c.number ∧ c.number ≤ 96)
  else if c.kind = 5 then aboveB c.number
  else decide (c.kind = 6 ∨ c.kind = 7)
def rightC (c : Cm) : Bool := sameCm c (bareC c) && fitsC c
theorem sc_beq (s : Sc) : (s == some []) = true ↔ s = some [] := by simp
theorem rightC_of {c : Cm} (h : rightC c = true) : c = bareC c ∧ fitsC c = true := by
  unfold rightC at h
  rw [Bool.and_eq_true, sameCm_iff] at h
  exact h
theorem rightC_kind {c : Cm} (h : rightC c = true) : 1 ≤ c.kind ∧ c.kind ≤ 8 := by
  have h2 := (rightC_of h).2
  unfold fitsC at h2
  split at h2
  · omega
  · split at h2
    · omega
    · split at h2
      · omega
      · split at h2
        · omega
        · split at h2
          · omega
          · simp only [decide_eq_true_eq] at h2
            omega
/-- What stands behind the kind. -/
def restL (c : Cm) : List Nat :=
    if c.kind = 1 then textL c.id ++ (numL c.ls.length ++ (linesL c.ls ++ (textL c.car ++ (textL c.zone ++ (textL c.serv ++ numL c.total.toNat)))))
    else if c.kind = 2 ∨ c.kind = 8 then textL c.id
    else if c.kind = 3 then textL c.id ++ (textL c.car ++ (textL c.zone ++ textL c.serv))
    else if c.kind = 4 then numL c.number.toNat
    else if c.kind = 5 then numL c.number.toNat ++ numL (givenN c.yes)
    else []
/-- A command as bytes. -/
def commandL (c : Cm) : List Nat := numL c.kind.toNat ++ restL c
end Go.Proofs.YtfmpibmhhfmajaaGreatDoor
