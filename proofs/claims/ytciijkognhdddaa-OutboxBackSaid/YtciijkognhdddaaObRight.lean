/- Whether an effect can stand behind others, and whether all can: package outbox. -/
import Derived.Test.YtciijkognhdddaaObFind
namespace Go.Proofs.Ytciijkognhdddaa
set_option maxRecDepth 100000
open Go.RowKit Go.ChangeShapes Go.WideShapes Go.ChangeAt
attribute [local go_sem ↓] ldEf stEf alEf bxEf eqEf
attribute [local go_sem] al_ef bx_ef st_new

/-- It can be, and its key is above the last one's. -/
def followB (l : List Ef) (e : Ef) : Bool := oneB e && ((l.length == 0) || decide ((l.getLast?.map (·.key)).getD 0 < e.key))
theorem keyAt_last (l : List Ef) (h : l ≠ []) : (l.getLast?.map (·.key)).getD 0 = keyAt l l.length := by
  unfold keyAt
  cases l with
  | nil => exact absurd rfl h
  | cons x r => rw [if_neg (by simp), List.getLast?_eq_getElem?]
/-- So it stands behind what can be, just where all can be together. -/
theorem follow_add {l : List Ef} (h : rightE l = true) (e : Ef) : followB l e = rightE (l ++ [e]) := by
  rw [right_add, h, Bool.true_and]
  unfold followB
  cases hl : l with
  | nil =>
    simp only [List.length_nil, keyAt, if_pos]
    cases ho : oneB e with
    | false => simp
    | true =>
      have := (oneB_of ho).1
      simp; omega
  | cons x r =>
    rw [← hl, keyAt_last l (by simp [hl])]
    have : (l.length == 0) = false := by simp [hl]
    rw [this, Bool.false_or]
theorem follow_at {l : List Ef} {k : Nat} (h : k < l.length) : followB (l.take k) l[k] = (oneB l[k] && decide (keyAt l k < l[k].key)) := by
  unfold followB
  cases k with
  | zero =>
    simp only [List.take_zero, List.length_nil, keyAt, if_pos]
    cases ho : oneB l[0] with
    | false => simp
    | true =>
      have := (oneB_of ho).1
      simp; omega
  | succ k =>
    have hl : (l.take (k + 1)).length = k + 1 := by simp; omega
    rw [keyAt_last _ (by intro e; rw [e] at hl; simp at hl), hl]
    have e1 : ((k + 1 : Nat) == 0) = false := by simp
    rw [e1, Bool.false_or]
    have e2 : keyAt (l.take (k + 1)) (k + 1) = keyAt l (k + 1) := by
      unfold keyAt
      rw [if_neg (by omega), if_neg (by omega), List.getElem?_take, if_pos (by omega)]
    rw [e2]

set_option maxHeartbeats 4000000 in
/-- Whether e can be, and can stand behind l. -/
theorem follow_any (a : Option Addr) (cap : Nat) (l : List Ef) (e : Ef) (w : World) (h : SlP LE w a cap l) (hs : e.order.size ≤ maxLen) : Calls Try.prog 31 #[.slice a l.length cap, efV e] w (Tell (followB l e) w) := by
  have B := Lib.hid ((Below.refl w.heap.size w).alloc (Nat.le_refl _) (Obj.cells (efC e) 27))
  have D := Lib.hid (show Row (w.alloc (.cells (efC e) 27)) w.heap.size 27 (efC e) from Row.new _ _ _)
  have H := Lib.hid (h.below B.out)
  clear h
  have hc := H.out.cap
  go_enter Try.func31, Try.ntmps31
  go_wp2_with fail
  generalize w.alloc (Obj.cells (efC e) 27) = W at *
  have hg := D.out.lt
  have f1 : ∀ p : Far W, LdX 27 (.pointer (some ⟨w.heap.size, 0, none⟩)) (farOf W p) = .ok (.value (efV e)) (farOf W p) := fun p => ld_row (D.out.below (far_below W p))
  have f2 : ∀ p : Far W, (farOf W p).cell? ⟨w.heap.size, 0, none⟩ = some (.int .i64 e.key) := fun p => (D.out.below (far_below W p)).c.1
  have C := Lib.hid (fun p : Far W => one_any e (farOf W p) hs)
  have HB := Lib.hid (show followB l e = (oneB e && ((l.length == 0) || decide ((l.getLast?.map (·.key)).getD 0 < e.key))) from rfl)
  generalize followB l e = F at *
  generalize oneB e = O at *
  by_cases hl : 0 < l.length
  · obtain ⟨m, hm⟩ : ∃ m, l.length = m + 1 := ⟨l.length - 1, by omega⟩
    have hml : m < l.length := by omega
    obtain ⟨b, o, rfl, hb, _, k1, _⟩ := H.out.ef m hml
    have f3 : ∀ p : Far W, (farOf W p).cell? ⟨b, o + m * 6, none⟩ = some (.int .i64 l[m].key) := fun p => far_cell hb k1 p
    have HL : (l.getLast?.map (·.key)).getD 0 = l[m].key := by
      rw [List.getLast?_eq_getElem?, hm, Nat.add_sub_cancel, List.getElem?_eq_getElem hml]; rfl
    have hl0 : (l.length == 0) = false := by rw [hm]; rfl
    rw [HL, hl0, Bool.false_or] at HB
    generalize l[m].key = K at *
    have hl1 : ((m : Int) + 1 == 0) = false := by simp only [beq_eq_false_iff_ne]; omega
    have hlm := H.out.len
    unfold maxLen at hlm
    have hw : IntKind.i64.wrap (m : Int) = (m : Int) := by rw [IntKind.wrap_i64]; omega
    clear k1 HL hl0
    cases O <;> cases hk : decide (K < e.key)
    all_goals
      rw [hk] at HB
      refine wp_region_far (by kernel_rfl) (by kernel_rfl) ?_
      repeat (first | go_big_quiet_step (first | (go_at_call 48; exact calls_far (C.out _))) | quiet_step (first | (go_at_call 48; exact calls_far (C.out _))))
      refine wpQuiet_nil ?_
      intro _ hw'
      obtain ⟨p, hw''⟩ := hw'
      subst hw''
      have B4 := Lib.hid (B.out.trans ((far_below W p).mono B.out.size))
      go_wp2_with fail
      go_ret
      exact ⟨by rw [HB.out]; rfl, B4.out⟩
  · have hl0 : l.length = 0 := by omega
    have hl1 : ((l.length : Int) == 0) = true := by simp [hl0]
    have hl2 : (l.length == 0) = true := by simp [hl0]
    rw [hl2, Bool.true_or, Bool.and_true] at HB
    cases O
    all_goals
      refine wp_region_far (by kernel_rfl) (by kernel_rfl) ?_
      repeat (first | go_big_quiet_step (first | (go_at_call 48; exact calls_far (C.out _))) | quiet_step (first | (go_at_call 48; exact calls_far (C.out _))))
      refine wpQuiet_nil ?_
      intro _ hw'
      obtain ⟨p, hw''⟩ := hw'
      subst hw''
      have B4 := Lib.hid (B.out.trans ((far_below W p).mono B.out.size))
      go_wp2_with fail
      go_ret
      exact ⟨by rw [HB.out]; rfl, B4.out⟩

theorem right_step {l : List Ef} {k : Nat} (h : k < l.length) (e : rightE l = goodE (keyAt l k) (l.drop k)) : rightE l = (followB (l.take k) l[k] && goodE (keyAt l (k + 1)) (l.drop (k + 1))) := by
  rw [e, goodE_step l k h, follow_at h]

set_option maxHeartbeats 4000000 in
/-- Whether all can be. -/
theorem obRight_any (a : Option Addr) (cap : Nat) (l : List Ef) (w : World) (h : SlP LE w a cap l) (hs : ∀ e ∈ l, e.order.size ≤ maxLen) : Calls Try.prog 20 #[.slice a l.length cap] w (Tell (rightE l) w) := by
  have H := Lib.hid h
  have hc := h.cap
  have hlm := h.len
  unfold maxLen at hlm
  clear h
  go_enter Try.func20, Try.ntmps20
  go_wp2_with fail
  go_loopw [7] (fun i wr => ∃ k : Nat, k ≤ l.length ∧ i = .int .i64 k ∧ Hid (rightE l = goodE (keyAt l k) (l.drop k)) ∧ Below w.heap.size w wr) (fun i _ => l.length - (intOf i).toNat)
  case atStart => exact ⟨0, Nat.zero_le _, rfl, Lib.hid (rightE_at l), Below.refl _ _⟩
  case round =>
    obtain ⟨k, hk, rfl, HG, hbw⟩ := hrel
    by_cases hlt : k < l.length
    · have hks : k ≤ l.length := hk
      obtain ⟨a', c', s1, s2⟩ := sl_to LE_ok (a := a) hc k (k : Int) rfl hk
      have HN := Lib.hid (right_step hlt HG.out)
      have hy := hs _ (List.getElem_mem hlt)
      obtain ⟨b, o, ea, hb, ld, _⟩ := (H.out.below hbw).ef k hlt
      have bW := Lib.hid ((Below.refl wr.heap.size wr).alloc (Nat.le_refl _) (Obj.cells (efC l[k]) 27))
      have R := Lib.hid (show Row (wr.alloc (.cells (efC l[k]) 27)) wr.heap.size 27 (efC l[k]) from Row.new _ _ _)
      have HT := Lib.hid (s2 _ ((H.out.below hbw).below bW.out))
      have s1 : ∀ W, (Instr.slice 22 (.slice a l.length cap) none (some (.int .i64 (k : Int))) none).run Try.prog W = .ok (.slice a' (l.take k).length c') W := s1
      clear HG s2
      subst ea
      generalize l[k] = y at *
      generalize l.take k = T at *
      go_wp2_with fail
      generalize wr.alloc (Obj.cells (efC y) 27) = W at *
      have hg := R.out.lt
      have f1 : ∀ p : Far W, LdX 27 (.pointer (some ⟨wr.heap.size, 0, none⟩)) (farOf W p) = .ok (.value (efV y)) (farOf W p) := fun p => ld_row (R.out.below (far_below W p))
      have C := Lib.hid (fun p : Far W => follow_any a' c' T y (farOf W p) (HT.out.below (far_below W p)) hy)
      clear ld
      generalize followB T y = F at *
      cases F
      all_goals
        refine wp_region_far (by kernel_rfl) (by kernel_rfl) ?_
        repeat (first | go_big_quiet_step (first | (go_at_call 31; exact calls_far (C.out _))) | quiet_step (first | (go_at_call 31; exact calls_far (C.out _))))
        refine wpQuiet_nil ?_
        intro _ hw'
        obtain ⟨p, hw''⟩ := hw'
        subst hw''
        have B4 := Lib.hid ((hbw.trans (bW.out.mono hbw.size)).trans ((far_below W p).mono (Nat.le_trans hbw.size bW.out.size)))
        clear f1 C
        go_wp2_with fail
      · go_ret
        exact ⟨by rw [HN.out]; rfl, B4.out⟩
      · go_roundw
        case rel => exact ⟨k + 1, hlt, by go_num, Lib.hid (by rw [HN.out, Bool.true_and]), B4.out⟩
        case measure => simp [intOf]; omega
    · have HE := Lib.hid (show rightE l = true by rw [HG.out, List.drop_eq_nil_of_le (by omega)]; rfl)
      go_wp2_with fail
      go_ret
      exact ⟨by rw [HE.out]; rfl, hbw⟩

end Go.Proofs.Ytciijkognhdddaa
