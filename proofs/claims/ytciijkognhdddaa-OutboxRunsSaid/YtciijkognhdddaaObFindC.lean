/- What Find and Due of package outbox answer. -/
import Derived.Test.YtciijkognhdddaaObAdd
namespace Go.Proofs.Ytciijkognhdddaa
set_option maxRecDepth 100000
open Go.RowKit Go.ChangeShapes Go.WideShapes Go.ChangeAt
attribute [local go_sem ↓] ldEf stEf alEf bxEf eqEf bdEf bsEf
attribute [local go_sem] al_ef bx_ef st_new bd_ef bs_ef bs_ef0

/-- Where it stands, and what is then found, left and sent. -/
theorem place_is {l : List Ef} {key : Int} (h : rightE l = true) (hs : (findE l key).isSome = true) : ∃ hp : posE l key < l.length, l[posE l key].key = key ∧ findE l key = some l[posE l key] ∧ restOf l key = l.take (posE l key) ++ l.drop (posE l key + 1) ∧ ∀ now, sentOf l key now = l.set (posE l key) (bumpE now l[posE l key]) := by
  rw [find_pos (rises_of h), decide_eq_true_eq] at hs
  obtain ⟨hp, hk⟩ := hs
  refine ⟨hp, hk, ?_, ?_, fun now => ?_⟩
  · have := find_of h hp
    rwa [hk] at this
  · have := rest_of h hp
    rwa [hk] at this
  · have := sent_of h hp now
    rwa [hk] at this
theorem findVN_some {l : List Ef} {key : Int} {e : Ef} (h : findE l key = some e) : findV l key = e ∧ findN l key = 0 := by
  unfold findV findN
  rw [h]
  exact ⟨rfl, rfl⟩
theorem findVN_none {l : List Ef} {key : Int} (h : (findE l key).isSome = false) : findV l key = noEf ∧ findN l key = 131 := by
  unfold findV findN
  cases e : findE l key with
  | none => exact ⟨rfl, rfl⟩
  | some _ => rw [e] at h; cases h

/-- An effect and an error's number are answered; all that was there stays. -/
def FindP (v : Ef) (n : Int) (w : World) (x : Ending) (w' : World) : Prop := x = .returned (.tuple #[efV v, .int .i64 n]) ∧ Below w.heap.size w w'
theorem low_set {w W : World} (h : Below w.heap.size w W) (cs : Array Value) : Below w.heap.size w (W.setRow w.heap.size cs) := Below.row h (Nat.le_refl _) cs

set_option maxHeartbeats 4000000 in
theorem find_any (a : Option Addr) (cap : Nat) (l : List Ef) (key : Int) (w : World) (h : SlP LE w a cap l) (hr : rightE l = true) (hm : l.length ≤ 1000000) :
    Calls Try.prog 11 #[.slice a l.length cap, .int .i64 key] w (FindP (findV l key) (findN l key) w) := by
  have B0 := Lib.hid ((Below.refl w.heap.size w).alloc (Nat.le_refl _) (Obj.cells (efC noEf) 27))
  have R0 := Lib.hid (Row.new w (efC noEf) 27)
  have H := Lib.hid (h.below B0.out)
  have CP := Lib.hid (place_any a cap l key _ H.out (by omega) (rises_of hr))
  have HS := Lib.hid (fun hs => place_is (key := key) hr hs)
  have HF := Lib.hid (fun e he => findVN_some (l := l) (key := key) (e := e) he)
  have HN := Lib.hid (findVN_none (l := l) (key := key))
  clear h hr
  generalize findV l key = V at *
  generalize findN l key = N at *
  go_enter Try.func11, Try.ntmps11
  go_wp2_with fail
  generalize w.alloc (Obj.cells (efC noEf) 27) = W0 at *
  refine CP.out.mono ?_
  rintro x W1 ⟨rfl, b1⟩
  have R1 := Lib.hid (R0.out.below b1)
  have H1 := Lib.hid (H.out.below b1)
  have B1 := Lib.hid (B0.out.trans (b1.mono B0.out.size))
  have hst : ∀ y, StX 27 (.pointer (some ⟨w.heap.size, 0, none⟩)) (efV y) W1 = .ok .skip (W1.setRow w.heap.size (efC y)) := fun y => st_row R1.out y
  clear b1 R0 H B0 CP
  cases hf : (findE l key).isSome with
  | false =>
    have HE := Lib.hid (HN.out hf)
    clear HS HF HN hf
    go_wp2_with fail
    (try simp only [Exit.inBlock, Exit.then])
    apply bodyPost_ret
    case hd => rfl
    case hr => exact results_cell_one rfl _ _ w.heap.size _ rfl (load6 (row_set R1.out noEf))
    case hR => exact ⟨by rw [HE.out.1, HE.out.2]; rfl, low_set B1.out _⟩
  | true =>
    obtain ⟨hp, _, he, _, _⟩ := HS.out hf
    have HE := Lib.hid (HF.out _ he)
    have hcap := H1.out.cap
    obtain ⟨b, o, rfl, hb, ld, _⟩ := H1.out.ef _ hp
    clear HS HF HN hf he
    generalize l[posE l key] = y at *
    generalize posE l key = P at *
    go_wp2_with fail
    (try simp only [Exit.inBlock, Exit.then])
    apply bodyPost_ret
    case hd => rfl
    case hr => exact results_cell_one rfl _ _ w.heap.size _ rfl (load6 (row_set R1.out y))
    case hR => exact ⟨by rw [HE.out.1, HE.out.2]; rfl, low_set B1.out _⟩

theorem dueE_drop {l : List Ef} {k : Nat} (h : k < l.length) (now : Int) : dueE (l.drop k) now = (if decide (l[k].due ≤ now) then [l[k]] else []) ++ dueE (l.drop (k + 1)) now := by
  rw [List.drop_eq_getElem_cons h]
  unfold dueE
  rw [List.filter_cons]
  split <;> rfl

set_option maxHeartbeats 4000000 in
theorem due_any (a : Option Addr) (cap : Nat) (l : List Ef) (now : Int) (w : World) (h : SlP LE w a cap l) (hm : l.length ≤ 1000000) :
    Calls Try.prog 21 #[.slice a l.length cap, .int .i64 now] w (OwnSs LE (dueE l now) w) := by
  have H := Lib.hid h
  have hc := h.cap
  clear h
  go_enter Try.func21, Try.ntmps21
  go_wp2_with fail
  go_loopw [5, 10] (fun s i wr => ∃ (k : Nat) (acc : List Ef), k ≤ l.length ∧ i = .int .i64 k ∧ Hid (OwnS LE wr w.heap.size s acc) ∧ Hid (acc ++ dueE (l.drop k) now = dueE l now) ∧ acc.length ≤ k ∧ Below w.heap.size w wr) (fun _ i _ => l.length - (intOf i).toNat)
  case atStart => exact ⟨0, [], Nat.zero_le _, rfl, Lib.hid (OwnS.nil _ _), Lib.hid rfl, Nat.le_refl _, Below.refl _ _⟩
  case round =>
    obtain ⟨k, acc, hk, rfl, HO, HS, hac, hbw⟩ := hrel
    by_cases hlt : k < l.length
    · have HN := Lib.hid (HS.out.symm.trans (by rw [dueE_drop hlt now, ← List.append_assoc]))
      obtain ⟨b, o, rfl, hb, ld, _⟩ := (H.out.below hbw).ef k hlt
      have bW := Lib.hid ((Below.refl wr.heap.size wr).alloc (Nat.le_refl _) (Obj.cells (efC l[k]) 27))
      have R := Lib.hid (Row.new wr (efC l[k]) 27)
      have ld2 := ld_row R.out
      obtain ⟨_, _, c2, _⟩ := R.out.c
      have OW := Lib.hid (HO.out.alloc (Obj.cells (efC l[k]) 27))
      have BW := Lib.hid (hbw.trans (bW.out.mono hbw.size))
      clear HS HO
      generalize l[k] = y at *
      cases hd : decide (y.due ≤ now) with
      | false =>
        rw [hd] at HN
        go_wp2_with fail
        go_roundw
        case rel => exact ⟨k + 1, acc, hlt, by go_num, OW, Lib.hid (by rw [HN.out]; simp), by omega, BW.out⟩
        case measure => simp [intOf]; omega
      | true =>
        rw [hd] at HN
        have hlen : acc.length + [y].length ≤ 10000000 := by simp; omega
        have hbs := BW.out.size
        go_wp2_with (at_builtin; go_must (refine wpList_append_sl LE_ok rfl _ _ rfl w.heap.size _ acc [y] rfl (OW.out.alloc _) _ 1 rfl (ef_one _ _ (by simp) y) hlen (Nat.le_trans hbs (by simp)) ?_))
        rintro v2 w2 o2 g2
        have b2 := (BW.out.alloc hbs (Obj.cells (efC y) 27)).grown g2 (Nat.le_trans hbs (by simp)) OW.out.row
        have O2 := Lib.hid o2
        clear o2 g2
        go_wp2_with fail
        go_roundw
        case rel => exact ⟨k + 1, acc ++ [y], hlt, by go_num, O2, Lib.hid (by rw [HN.out]; simp), by simp; omega, b2⟩
        case measure => simp [intOf]; omega
    · have HE := Lib.hid (show dueE l now = acc by rw [← HS.out, List.drop_eq_nil_of_le (by omega)]; exact List.append_nil _)
      go_wp2_with fail
      go_ret
      exact ⟨_, rfl, by rw [HE.out]; exact HO.out, hbw⟩

end Go.Proofs.Ytciijkognhdddaa
