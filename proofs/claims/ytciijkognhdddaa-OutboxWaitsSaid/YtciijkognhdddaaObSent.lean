/- What Sent of package outbox answers. -/
import Derived.Test.YtciijkognhdddaaObFindC
namespace Go.Proofs.Ytciijkognhdddaa
set_option maxRecDepth 100000
open Go.RowKit Go.ChangeShapes Go.WideShapes Go.ChangeAt
attribute [local go_sem ↓] ldEf stEf alEf bxEf eqEf bdEf bsEf
attribute [local go_sem] al_ef bx_ef st_new bd_ef bs_ef bs_ef0

theorem sentVN_some {l : List Ef} {key now : Int} (h : (findE l key).isSome = true) (hn : tickB now = true) : sentV l key now = sentOf l key now ∧ sentN l key now = 0 := by
  unfold sentV sentN
  rw [h, hn]
  exact ⟨rfl, rfl⟩
theorem sentVN_none {l : List Ef} {key now : Int} (h : (findE l key).isSome = false ∨ tickB now = false) : sentV l key now = [] ∧ sentN l key now = 131 := by
  have : ((findE l key).isSome && tickB now) = false := by
    rcases h with h | h <;> simp [h]
  unfold sentV sentN
  rw [this]
  exact ⟨rfl, rfl⟩

def withDue (e : Ef) (d : Int) : Ef := ⟨e.key, e.batch, d, e.kind, e.tries, e.order⟩
def dueN (now : Int) (e : Ef) : Int := if 1099511627776 < now + backN e.tries then 1099511627776 else now + backN e.tries
def triesN (e : Ef) : Int := if e.tries < 1000000 then e.tries + 1 else e.tries
theorem bump_is (now : Int) (e : Ef) : bumpE now e = ⟨e.key, e.batch, dueN now e, e.kind, triesN e, e.order⟩ := rfl

set_option maxHeartbeats 4000000 in
theorem sent_any (a : Option Addr) (cap : Nat) (l : List Ef) (key now : Int) (w : World) (h : SlP LE w a cap l) (hr : rightE l = true) (hm : l.length ≤ 1000000) :
    Calls Try.prog 15 #[.slice a l.length cap, .int .i64 key, .int .i64 now] w (OwnSE LE (sentV l key now) (sentN l key now) w) := by
  have H := Lib.hid h
  have hc := h.cap
  have CP := Lib.hid (place_any a cap l key _ H.out (by omega) (rises_of hr))
  have HS := Lib.hid (fun hs => place_is (key := key) hr hs)
  have HF := Lib.hid (sentVN_some (l := l) (key := key) (now := now))
  have HN := Lib.hid (sentVN_none (l := l) (key := key) (now := now))
  have H1 := Lib.hid (fun e he => oneB_of (((rightE_iff l).1 hr).1 e he))
  have CT := Lib.hid (fun w => tick_any now w)
  clear h hr
  generalize sentV l key now = V at *
  generalize sentN l key now = N at *
  go_enter Try.func15, Try.ntmps15
  go_wp2_with fail
  refine CP.out.mono ?_
  rintro x W1 ⟨rfl, b1⟩
  cases hf : (findE l key).isSome with
  | false =>
    have HE := Lib.hid (HN.out (.inl hf))
    clear HS HF HN hf
    go_wp2_with fail
    go_ret2
    exact ⟨_, by rw [HE.out.2]; rfl, by rw [HE.out.1]; exact OwnS.nil _ _, b1⟩
  | true =>
    go_wp2_with fail
    refine (CT.out _).mono ?_
    rintro x w2 ⟨rfl, rfl⟩
    cases ht : tickB now with
    | false =>
      have HE := Lib.hid (HN.out (.inr ht))
      clear HS HF HN hf
      go_wp2_with fail
      go_ret2
      exact ⟨_, by rw [HE.out.2]; rfl, by rw [HE.out.1]; exact OwnS.nil _ _, b1⟩
    | true =>
      obtain ⟨hp, _, _, _, he⟩ := HS.out hf
      have HE := Lib.hid (HF.out hf ht)
      rw [he now] at HE
      obtain ⟨_, _, ⟨t1, t2⟩, _⟩ := H1.out _ (List.getElem_mem hp)
      have CO := Lib.hid (own_any a cap l W1 (H.out.below b1) hm)
      rw [tickB_iff] at ht
      obtain ⟨n1, n2⟩ := ht
      clear HS HF HN hf he H1 CT CP
      go_wp2_with fail
      refine CO.out.mono ?_
      rintro x w3 ⟨v3, rfl, o3, b3⟩
      obtain ⟨g, c3, rfl, hg1, hg2, hg3, hg4, hcl, hfr⟩ := o3.at LE_ok _ hp
      have O3 := Lib.hid (o3.base b1.size)
      have L3 := Lib.hid (b1.trans (b3.mono b1.size))
      have hy4 : w3.cell? ⟨g, posE l key * 6 + 4, none⟩ = some (.int .i64 l[posE l key].tries) := hcl 4 _ rfl
      have f2 : w3.frozen? ⟨g, posE l key * 6 + 2, none⟩ = false := hfr _
      have hy2 : w3.cell? ⟨g, posE l key * 6 + 2, none⟩ = some (.int .i64 l[posE l key].due) := hcl 2 _ rfl
      have S1 : Hid (∀ d, OwnS LE (w3.setCell ⟨g, posE l key * 6 + 2, none⟩ (.int .i64 d)) w.heap.size (.slice (some ⟨g, 0, none⟩) l.length c3) (l.set (posE l key) (withDue l[posE l key] d))) := Lib.hid (fun d => O3.out.set LE_ok _ hp (withDue l[posE l key] d) 2 _ (by decide) rfl)
      have S2 : Hid (∀ d t, OwnS LE ((w3.setCell ⟨g, posE l key * 6 + 2, none⟩ (.int .i64 d)).setCell ⟨g, posE l key * 6 + 4, none⟩ (.int .i64 t)) w.heap.size (.slice (some ⟨g, 0, none⟩) l.length c3) (l.set (posE l key) ⟨l[posE l key].key, l[posE l key].batch, d, l[posE l key].kind, t, l[posE l key].order⟩)) := Lib.hid (fun d t => by
        have hq : posE l key < (l.set (posE l key) (withDue l[posE l key] d)).length := by rw [List.length_set]; exact hp
        have := (S1.out d).set LE_ok _ hq ⟨l[posE l key].key, l[posE l key].batch, d, l[posE l key].kind, t, l[posE l key].order⟩ 4 (.int .i64 t) (by decide) (by rw [List.getElem_set_self]; rfl)
        rwa [List.set_set] at this)
      have c4 : ∀ d, (w3.setCell ⟨g, posE l key * 6 + 2, none⟩ (.int .i64 d)).cell? ⟨g, posE l key * 6 + 4, none⟩ = some (.int .i64 l[posE l key].tries) := fun d => by
        have hq : posE l key < (l.set (posE l key) (withDue l[posE l key] d)).length := by rw [List.length_set]; exact hp
        obtain ⟨g', c', e', _, _, _, _, hc', _⟩ := (S1.out d).at LE_ok _ hq
        rw [List.length_set] at e'
        injection e' with e1 e2 e3
        injection e1 with e1
        injection e1 with e1
        subst e1
        refine hc' 4 _ ?_
        rw [List.getElem_set_self]; rfl
      have f4 : ∀ d, (w3.setCell ⟨g, posE l key * 6 + 2, none⟩ (.int .i64 d)).frozen? ⟨g, posE l key * 6 + 4, none⟩ = false := fun d => by
        have hq : posE l key < (l.set (posE l key) (withDue l[posE l key] d)).length := by rw [List.length_set]; exact hp
        obtain ⟨g', c', e', _, _, _, _, _, hf'⟩ := (S1.out d).at LE_ok _ hq
        rw [List.length_set] at e'
        injection e' with e1 e2 e3
        injection e1 with e1
        injection e1 with e1
        subst e1
        exact hf' _
      have CB := Lib.hid (fun w => backoff_any l[posE l key].tries w)
      have hbk := backN_in l[posE l key].tries
      have HB := Lib.hid (show bumpE now l[posE l key] = ⟨l[posE l key].key, l[posE l key].batch, if 1099511627776 < now + backN l[posE l key].tries then 1099511627776 else now + backN l[posE l key].tries, l[posE l key].kind, if l[posE l key].tries < 1000000 then l[posE l key].tries + 1 else l[posE l key].tries, l[posE l key].order⟩ from rfl)
      have hgb : w.heap.size ≤ g := Nat.le_trans b1.size hg1
      rw [HB.out] at HE
      have hlt := hp
      clear HB CO o3 b3 hcl hfr S1 O3
      generalize backN l[posE l key].tries = K at *
      generalize l[posE l key].tries = T at *
      generalize posE l key = P at *
      have hwa : IntKind.i64.wrap (now + K) = now + K := by rw [IntKind.wrap_i64]; omega
      by_cases hd : 1099511627776 < now + K <;> by_cases hT : T < 1000000
      · have hT2 : ¬ 999999 < T := by omega
        rw [if_pos hd, if_pos hT] at HE
        go_wp2_with fail
        refine (CB.out _).mono ?_
        rintro x w4 ⟨rfl, rfl⟩
        go_wp2_with fail
        go_ret2
        exact ⟨_, by rw [HE.out.2]; rfl, by rw [HE.out.1]; exact S2.out _ _, (L3.out.setCell hgb _).setCell hgb _⟩
      · obtain rfl : T = 1000000 := by omega
        rw [if_pos hd, if_neg hT] at HE
        go_wp2_with fail
        refine (CB.out _).mono ?_
        rintro x w4 ⟨rfl, rfl⟩
        go_wp2_with fail
        go_ret2
        exact ⟨_, by rw [HE.out.2]; rfl, by rw [HE.out.1]; exact S2.out _ _, (L3.out.setCell hgb _).setCell hgb _⟩
      · have hT2 : ¬ 999999 < T := by omega
        rw [if_neg hd, if_pos hT] at HE
        go_wp2_with fail
        refine (CB.out _).mono ?_
        rintro x w4 ⟨rfl, rfl⟩
        go_wp2_with fail
        go_ret2
        exact ⟨_, by rw [HE.out.2]; rfl, by rw [HE.out.1]; exact S2.out _ _, (L3.out.setCell hgb _).setCell hgb _⟩
      · obtain rfl : T = 1000000 := by omega
        rw [if_neg hd, if_neg hT] at HE
        go_wp2_with fail
        refine (CB.out _).mono ?_
        rintro x w4 ⟨rfl, rfl⟩
        go_wp2_with fail
        go_ret2
        exact ⟨_, by rw [HE.out.2]; rfl, by rw [HE.out.1]; exact S2.out _ _, (L3.out.setCell hgb _).setCell hgb _⟩

end Go.Proofs.Ytciijkognhdddaa
