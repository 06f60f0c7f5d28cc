/- What Settle of package outbox answers. -/
import Derived.Test.YtciijkognhdddaaObFindC
import Derived.Test.YtciijkognhdddaaObCat
namespace Go.Proofs.Ytciijkognhdddaa
set_option maxRecDepth 100000
open Go.RowKit Go.ChangeShapes Go.WideShapes Go.ChangeAt
attribute [local go_sem ↓] ldEf stEf alEf bxEf eqEf bdEf bsEf
attribute [local go_sem] al_ef bx_ef st_new bd_ef bs_ef bs_ef0

theorem settleVN_some {l : List Ef} {key : Int} (h : (findE l key).isSome = true) : settleV l key = restOf l key ∧ settleN l key = 0 := by
  unfold settleV settleN findN
  rw [if_pos h, if_pos h]
  exact ⟨rfl, rfl⟩
theorem settleVN_none {l : List Ef} {key : Int} (h : (findE l key).isSome = false) : settleV l key = [] ∧ settleN l key = 131 := by
  unfold settleV settleN findN
  rw [if_neg (by rw [h]; decide), if_neg (by rw [h]; decide)]
  exact ⟨rfl, rfl⟩

set_option maxHeartbeats 4000000 in
theorem settle_any (a : Option Addr) (cap : Nat) (l : List Ef) (key : Int) (w : World) (h : SlP LE w a cap l) (hr : rightE l = true) (hm : l.length ≤ 1000000) :
    Calls Try.prog 10 #[.slice a l.length cap, .int .i64 key] w (OwnSE LE (settleV l key) (settleN l key) w) := by
  have H := Lib.hid h
  have hc := h.cap
  have CP := Lib.hid (place_any a cap l key _ H.out (by omega) (rises_of hr))
  have HS := Lib.hid (fun hs => place_is (key := key) hr hs)
  have HF := Lib.hid (settleVN_some (l := l) (key := key))
  have HN := Lib.hid (settleVN_none (l := l) (key := key))
  clear h hr
  generalize settleV l key = V at *
  generalize settleN l key = N at *
  go_enter Try.func10, Try.ntmps10
  go_wp2_with fail
  refine CP.out.mono ?_
  rintro x W1 ⟨rfl, b1⟩
  cases hf : (findE l key).isSome with
  | false =>
    have HE := Lib.hid (HN.out hf)
    clear HS HF HN hf
    go_wp2_with fail
    go_ret2
    exact ⟨_, by rw [HE.out.2]; rfl, by rw [HE.out.1]; exact OwnS.nil _ _, b1⟩
  | true =>
    obtain ⟨hp, _, _, he, _⟩ := HS.out hf
    have HE := Lib.hid (HF.out hf)
    rw [he] at HE
    have hp0 : posE l key ≤ l.length := Nat.le_of_lt hp
    have hlen : (l.take (posE l key)).length + (l.drop (posE l key + 1)).length ≤ 1000000 := by rw [List.length_take, List.length_drop]; omega
    obtain ⟨a2, c2, s2, t2⟩ := sl_to LE_ok (a := a) hc (posE l key) (posE l key : Int) rfl (by omega)
    obtain ⟨a3, c3, s3, t3⟩ := sl_from LE_ok (a := a) hc (posE l key + 1) ((posE l key : Int) + 1) (by omega) (by omega)
    have s2 : ∀ W, (Instr.slice 22 (.slice a l.length cap) none (some (.int .i64 (posE l key : Int))) none).run Try.prog W = .ok (.slice a2 (l.take (posE l key)).length c2) W := s2
    have s3 : ∀ W, (Instr.slice 22 (.slice a l.length cap) (some (.int .i64 ((posE l key : Int) + 1))) none none).run Try.prog W = .ok (.slice a3 (l.drop (posE l key + 1)).length c3) W := s3
    have bd := b1.drew
    have T2 := Lib.hid (t2 _ (H.out.below bd))
    have T3 := Lib.hid (t3 _ (H.out.below bd))
    clear HS HF HN hf he t2 t3
    generalize l.take (posE l key) = d1 at *
    generalize l.drop (posE l key + 1) = d2 at *
    generalize posE l key = P at *
    have hw : IntKind.i64.wrap ((P : Int) + 1) = (P : Int) + 1 := by rw [IntKind.wrap_i64]; omega
    have CK : Hid (∀ N W, W.heap.size = N → SlP LE W a2 c2 d1 → SlP LE W a3 c3 d2 → Calls Try.prog 34 #[.slice (some ⟨N, 0, none⟩) 2 2] (W.alloc (.cells #[.slice a2 d1.length c2, .slice a3 d2.length c3] 22)) (OwnSs LE (d1 ++ d2) (W.alloc (.cells #[.slice a2 d1.length c2, .slice a3 d2.length c3] 22)))) := Lib.hid (by
      intro N W hN g1 g2
      subst hN
      have := concatE_any _ 2 [⟨a2, c2, d1⟩, ⟨a3, c3, d2⟩] _ (listsS_two g1 g2 22) (by simp [flatS]; omega)
      rwa [show flatS [⟨a2, c2, d1⟩, ⟨a3, c3, d2⟩] = d1 ++ d2 by simp [flatS]] at this)
    have bA := Lib.hid (bd.alloc bd.size (.cells #[.slice a2 d1.length c2, .slice a3 d2.length c3] 22))
    go_wp2_with fail
    go_region_law (go_simp; go_at_call 34; refine (CK.out _ W1.drew rfl T2.out T3.out).mono ?_; rintro e w4 ⟨v4, rfl, o4, b4⟩)
    all_goals
      have L4 := Lib.hid (bA.out.trans (b4.mono bA.out.size))
      have O4 := Lib.hid (o4.base bA.out.size)
      clear o4 b4
      obtain ⟨a4, c4, rfl⟩ := O4.out.shape
      go_wp2_with fail
      go_ret2
      exact ⟨_, by rw [HE.out.2]; rfl, by rw [HE.out.1]; exact O4.out, L4.out⟩

end Go.Proofs.Ytciijkognhdddaa
