/- Where the effect of a key stands: what BinarySearchFunc of package slices answers, and place of package outbox. -/
import Derived.Test.YtciijkognhdddaaObLeaf
namespace Go.Proofs.Ytciijkognhdddaa
set_option maxRecDepth 100000
open Go.RowKit Go.ChangeShapes Go.WideShapes Go.ChangeAt
attribute [local go_sem ↓] ldEf stEf alEf bxEf eqEf
attribute [local go_sem] al_ef bx_ef

/-- The one at a place: its cells, and whole. -/
theorem SlP.ef {w : World} {a : Option Addr} {cap : Nat} {l : List Ef} (h : SlP LE w a cap l) (j : Nat) (hj : j < l.length) :
    ∃ b o, a = some ⟨b, o, none⟩ ∧ b < w.heap.size ∧ LdX 27 (.pointer (some ⟨b, o + j * 6, none⟩)) w = .ok (.value (efV l[j])) w ∧ w.cell? ⟨b, o + j * 6, none⟩ = some (.int .i64 l[j].key) ∧ w.cell? ⟨b, o + j * 6 + 2, none⟩ = some (.int .i64 l[j].due) ∧ w.cell? ⟨b, o + j * 6 + 4, none⟩ = some (.int .i64 l[j].tries) := by
  obtain ⟨b, o, e, hb, hc, hl⟩ := h.at LE_ok j hj
  exact ⟨b, o, e, hb, hl, hc 0 _ rfl, hc 2 _ rfl, hc 4 _ rfl⟩

/-- So many have a lower key, from the first one on. -/
def posE : List Ef → Int → Nat
  | [], _ => 0
  | e :: r, key => if e.key < key then posE r key + 1 else 0
theorem posE_le : ∀ (l : List Ef) (key : Int), posE l key ≤ l.length
  | [], _ => Nat.le_refl _
  | e :: r, key => by
    have := posE_le r key
    rw [posE]
    split
    · simp; omega
    · simp
def risesE (l : List Ef) : Prop := (l.map (·.key)).Pairwise (· < ·)
theorem rises_of {l : List Ef} (h : rightE l = true) : risesE l := ((rightE_iff l).1 h).2
theorem posE_iff : ∀ (l : List Ef) (key : Int) (_ : risesE l) (m : Nat) (hm : m < l.length), l[m].key < key ↔ m < posE l key
  | [], _, _, m, hm => by simp at hm
  | e :: r, key, h, m, hm => by
    unfold risesE at h
    rw [List.map_cons, List.pairwise_cons] at h
    rw [posE]
    cases m with
    | zero =>
      simp only [List.getElem_cons_zero]
      split <;> simp [*]
    | succ m =>
      have hm' : m < r.length := by simpa using hm
      have ih := posE_iff r key h.2 m hm'
      simp only [List.getElem_cons_succ]
      have hlt := h.1 r[m].key (List.mem_map.2 ⟨_, List.getElem_mem hm', rfl⟩)
      split
      · rw [ih]; omega
      · constructor
        · intro h; omega
        · intro h; omega
theorem find_pos {l : List Ef} {key : Int} (h : risesE l) : (findE l key).isSome = decide (∃ hp : posE l key < l.length, l[posE l key].key = key) := by
  rw [Bool.eq_iff_iff, decide_eq_true_eq]
  constructor
  · intro hs
    obtain ⟨e, he⟩ := Option.isSome_iff_exists.1 hs
    obtain ⟨hm, hk⟩ := find_mem he
    obtain ⟨i, hi, rfl⟩ := List.mem_iff_getElem.1 hm
    have h1 := posE_iff l key h i hi
    have hip : ¬ i < posE l key := fun hc => by have := h1.2 hc; omega
    have hle : posE l key ≤ i := by omega
    have hp : posE l key < l.length := by omega
    refine ⟨hp, ?_⟩
    have h2 := posE_iff l key h _ hp
    have h3 : ¬ l[posE l key].key < key := fun hc => by have := h2.1 hc; omega
    rcases Nat.lt_or_ge (posE l key) i with hlt | hge
    · have := List.pairwise_iff_getElem.1 h (posE l key) i (by simpa using hp) (by simpa using hi) hlt
      simp only [List.getElem_map] at this
      omega
    · have : posE l key = i := by omega
      simp only [this]; exact hk
  · rintro ⟨hp, hk⟩
    cases e : findE l key with
    | some _ => rfl
    | none =>
      have := find_no e _ (List.getElem_mem hp)
      simp [hasK, hk] at this
theorem find_end {l : List Ef} {key : Int} (h : risesE l) (hp : ¬ posE l key < l.length) : (findE l key).isSome = false := by
  rw [find_pos h, decide_eq_false_iff_not]
  rintro ⟨hp', _⟩
  exact hp hp'
theorem find_cmp {l : List Ef} {key : Int} (h : risesE l) (hp : posE l key < l.length) : (findE l key).isSome = (cmpI l[posE l key].key key == 0) := by
  have h2 := posE_iff l key h _ hp
  have h3 : ¬ l[posE l key].key < key := fun hc => by have := h2.1 hc; omega
  rw [find_pos h, Bool.eq_iff_iff, decide_eq_true_eq, beq_iff_eq]
  unfold cmpI
  rw [if_neg h3]
  constructor
  · rintro ⟨_, hk⟩; rw [if_neg (by omega)]
  · intro hc
    refine ⟨hp, ?_⟩
    split at hc
    · cases hc
    · omega
theorem cmpI_neg (a b : Int) : cmpI a b < 0 ↔ a < b := by
  unfold cmpI
  split
  · simp [*]
  · split <;> simp [*]

set_option maxHeartbeats 4000000 in
theorem search_any (a : Option Addr) (cap : Nat) (l : List Ef) (k : Int) (w : World) (h : SlP LE w a cap l) (hm : l.length ≤ 10000000) (hs : risesE l) :
    Calls Try.prog 49 #[.slice a l.length cap, .int .i64 k, .func (.func 50) #[] #[]] w fun e w' => e = .returned (.tuple #[.int .i64 (posE l k : Nat), .bool (findE l k).isSome]) ∧ Below w.heap.size w w' := by
  have H := Lib.hid h
  have HP := Lib.hid (posE_iff l k hs)
  have hpl := posE_le l k
  have HC := Lib.hid (fun hp => find_cmp (key := k) hs hp)
  have HN := Lib.hid (fun hp => find_end (key := k) hs hp)
  clear h hs
  generalize posE l k = P at *
  generalize (findE l k).isSome = B at *
  go_enter Try.func49, Try.ntmps49
  go_wp2_with fail
  go_loopw [9, 10] (fun s9 s10 wr => ∃ lo hi : Nat, s9 = .int .i64 lo ∧ s10 = .int .i64 hi ∧ lo ≤ P ∧ P ≤ hi ∧ hi ≤ l.length ∧ Below w.heap.size w wr) (fun s9 s10 _ => (intOf s10).toNat - (intOf s9).toNat)
  case atStart => exact ⟨0, l.length, rfl, rfl, Nat.zero_le _, hpl, Nat.le_refl _, Below.refl _ _⟩
  case round =>
    obtain ⟨lo, hi, rfl, rfl, hlo, hhi, hin, hbw⟩ := hrel
    by_cases hlt : lo < hi
    · have hml : (lo + hi) / 2 < l.length := by omega
      obtain ⟨b, o, rfl, hb, c1, _⟩ := (H.out.below hbw).ef _ hml
      have p1 := H.out.cap
      have HI := Lib.hid ((cmpI_neg l[(lo + hi) / 2].key k).trans (HP.out _ hml))
      have C := Lib.hid (fun w => keyCmp_any l[(lo + hi) / 2] k w)
      generalize l[(lo + hi) / 2] = y at *
      generalize cmpI y.key k = c at *
      by_cases hc : c < 0
      · have hmp := HI.out.1 hc
        go_wp2_with fail
        refine (C.out _).mono ?_
        rintro e w1 ⟨rfl, b1⟩
        have b2 := hbw.trans (b1.mono hbw.size)
        go_wp2_with fail
        go_roundw
        case rel => exact ⟨(lo + hi) / 2 + 1, hi, by rw [show ((lo : Int) + (hi : Int)) / 2 + 1 = (((lo + hi) / 2 + 1 : Nat) : Int) by omega], rfl, by omega, hhi, hin, b2⟩
        case measure => simp [intOf]; omega
      · have hmp : ¬ (lo + hi) / 2 < P := fun h => hc (HI.out.2 h)
        go_wp2_with fail
        refine (C.out _).mono ?_
        rintro e w1 ⟨rfl, b1⟩
        have b2 := hbw.trans (b1.mono hbw.size)
        go_wp2_with fail
        go_roundw
        case rel => exact ⟨lo, (lo + hi) / 2, rfl, by rw [show ((lo : Int) + (hi : Int)) / 2 = (((lo + hi) / 2 : Nat) : Int) by omega], hlo, by omega, by omega, b2⟩
        case measure => simp [intOf]; omega
    · obtain rfl : P = lo := by omega
      obtain rfl : hi = P := by omega
      by_cases hn : hi < l.length
      · obtain ⟨b, o, rfl, hb, c1, _⟩ := (H.out.below hbw).ef _ hn
        have p1 := H.out.cap
        have HI := Lib.hid (HC.out hn)
        have C := Lib.hid (fun w => keyCmp_any l[hi] k w)
        generalize l[hi] = y at *
        generalize cmpI y.key k = c at *
        go_wp2_with fail
        refine (C.out _).mono ?_
        rintro e w1 ⟨rfl, b1⟩
        have b2 := hbw.trans (b1.mono hbw.size)
        go_wp2_with fail
        go_ret2
        exact ⟨by rw [HI.out]; rfl, b2⟩
      · have HE := Lib.hid (HN.out hn)
        go_wp2_with fail
        go_ret2
        exact ⟨by rw [HE.out]; rfl, hbw⟩

theorem place_any (a : Option Addr) (cap : Nat) (l : List Ef) (k : Int) (w : World) (h : SlP LE w a cap l) (hm : l.length ≤ 10000000) (hs : risesE l) :
    Calls Try.prog 33 #[.slice a l.length cap, .int .i64 k] w fun e w' => e = .returned (.tuple #[.int .i64 (posE l k : Nat), .bool (findE l k).isSome]) ∧ Below w.heap.size w w' := by
  have C := Lib.hid (search_any a cap l k w h hm hs)
  clear h hs
  go_enter Try.func33, Try.ntmps33
  go_wp2_with fail
  refine C.out.mono ?_
  rintro e w1 ⟨rfl, b1⟩
  go_wp2_with fail
  go_ret2
  exact ⟨rfl, b1⟩

end Go.Proofs.Ytciijkognhdddaa
