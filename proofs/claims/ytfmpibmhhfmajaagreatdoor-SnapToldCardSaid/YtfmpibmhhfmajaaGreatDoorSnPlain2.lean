/- Plain facts on states as bytes. -/
import Derived.Test.YtfmpibmhhfmajaaGreatDoorSnPlain
namespace Go.Proofs.YtfmpibmhhfmajaaGreatDoor
set_option maxRecDepth 100000

def ordersL (l : List Od) : List Nat := (l.map orderL).flatten
def batchesL (l : List Bt) : List Nat := (l.map batchL).flatten
def natsI (l : List Int) : List Nat := l.map Int.toNat
/-- The limits as bytes, to how many doors there are; the numbers behind the doors, to how many orders there are. -/
def capsN (s : St) : List Nat := [s.waves.count.toNat, s.waves.wt.toNat, s.mans.count.toNat, s.mans.wt.toNat, s.limit.toNat, s.doors.length]
def nextN (s : St) : List Nat := [s.now.toNat, s.nb.toNat, s.nk.toNat, s.ords.length]
/-- A state as bytes. -/
def stateL (s : St) : List Nat := numsL (capsN s) ++ (numsL (natsI s.doors) ++ (numsL (nextN s) ++ (ordersL s.ords ++ (numL s.bats.length ++ (batchesL s.bats ++ boxL s.effs)))))

def doorsS (m : Nat) : Nat → Sc → List Int × Sc
  | 0, s => ([], s)
  | n + 1, s => (((numS m s).1 : Int) :: (doorsS m n (numS m s).2).1, (doorsS m n (numS m s).2).2)
def ordersO : Nat → Sc → Option (List Od × Sc)
  | 0, s => some ([], s)
  | n + 1, s => (takeV s).bind fun o => (ordersO n (takeS s).2).map fun p => (o :: p.1, p.2)
theorem ordersO_zero (s : Sc) : ordersO 0 s = some ([], s) := rfl
theorem ordersO_succ (n : Nat) (s : Sc) : ordersO (n + 1) s = (takeV s).bind fun o => (ordersO n (takeS s).2).map fun p => (o :: p.1, p.2) := rfl
def batchesO : Nat → Sc → Option (List Bt × Sc)
  | 0, s => some ([], s)
  | n + 1, s => (takeBV s).bind fun b => (batchesO n (takeB s).2).map fun p => (b :: p.1, p.2)
theorem batchesO_zero (s : Sc) : batchesO 0 s = some ([], s) := rfl
theorem batchesO_succ (n : Nat) (s : Sc) : batchesO (n + 1) s = (takeBV s).bind fun b => (batchesO n (takeB s).2).map fun p => (b :: p.1, p.2) := rfl
structure Hd where
  wc : Nat
  ww : Nat
  mc : Nat
  mw : Nat
  limit : Nat
  doors : List Int
  now : Nat
  nb : Nat
  nk : Nat
  many : Nat
/-- The limits and numbers, to how many orders there are. -/
def capsS (s : Sc) : (Nat × Nat) × Sc := (((numS 64 s).1, (numS 1000000000000 (numS 64 s).2).1), (numS 1000000000000 (numS 64 s).2).2)
def headS (dm : Nat) (s : Sc) : Hd × Sc :=
  let w := capsS s
  let m := capsS w.2
  let l := numS 100 m.2
  let n := numS 96 l.2
  let d := doorsS dm n.1 n.2
  let t := numS 1099511627776 d.2
  let b := numS 1000000000000 t.2
  let k := numS 1000000000000 b.2
  let o := numS 400 k.2
  (⟨w.1.1, w.1.2, m.1.1, m.1.2, l.1, d.1, t.1, b.1, k.1, o.1⟩, o.2)
def stOf (h : Hd) (os : List Od) (bs : List Bt) (es : List Ef) : St := ⟨⟨h.wc, h.ww⟩, ⟨h.mc, h.mw⟩, h.limit, h.doors, h.now, h.nb, h.nk, os, bs, es⟩
/-- What is read; none, if an order, a batch or the effects can't be. -/
def tailS (bm : Nat) (h : Hd) (s : Sc) : Option (St × Sc) :=
  match ordersO h.many s with
  | none => none
  | some p => match batchesO (numS bm p.2).1 (numS bm p.2).2 with
    | none => none
    | some q => match boxO q.2 with
      | none => none
      | some l => some (stOf h p.1 q.1 l, (boxS q.2).2)
def readS (dm bm : Nat) (s : Sc) : Option (St × Sc) := tailS bm (headS dm s).1 (headS dm s).2
/-- The state of bytes; none, if there is none. -/
def readM (dm bm : Nat) (l : List Nat) : Option St :=
  match readS dm bm (some l) with
  | some (st, some []) => if rightS st then some st else none
  | _ => none
def readO (l : List Nat) : Option St := readM 96 1048576 l
def readV (l : List Nat) : St := (readO l).getD noSt
def readE (l : List Nat) : Int := if (readO l).isSome then 0 else 161

theorem natsI_cons (x : Int) (l : List Int) : natsI (x :: l) = x.toNat :: natsI l := rfl
theorem numsL_one (n : Nat) (l : List Nat) : numsL (n :: l) = numL n ++ numsL l := by simp [numsL]
theorem numsL_none : numsL [] = [] := rfl
theorem doorsS_put (m : Nat) (hm : 95 ≤ m) : ∀ (l : List Int) (_ : ∀ x ∈ l, 0 ≤ x ∧ x ≤ 95) (r : List Nat), doorsS m l.length (some (numsL (natsI l) ++ r)) = (l, some r)
  | [], _, r => by simp [doorsS, natsI, numsL]
  | x :: l, h, r => by
    have hx := h x (by simp)
    rw [natsI_cons, numsL_one, List.append_assoc, List.length_cons, doorsS, numS_put (by omega)]
    simp only
    rw [doorsS_put m hm l (fun y hy => h y (by simp [hy])) r, Int.toNat_of_nonneg hx.1]
theorem doorsS_len (m : Nat) : ∀ (n : Nat) (s : Sc), (doorsS m n s).1.length = n
  | 0, _ => rfl
  | n + 1, s => by rw [doorsS]; simp [doorsS_len m n]
theorem doorsS_bytes (m : Nat) : ∀ (n : Nat) {s : Sc} (_ : BytesS s), BytesS (doorsS m n s).2
  | 0, _, h => h
  | n + 1, _, h => doorsS_bytes m n (numS_bytes h m)
theorem doorsS_back (m : Nat) : ∀ (n : Nat) {s : Sc} (_ : BytesS s) {r : List Nat} (_ : (doorsS m n s).2 = some r), s = some (numsL (natsI (doorsS m n s).1) ++ r)
  | 0, s, _, r, e => by simpa [doorsS, natsI, numsL] using e
  | n + 1, s, h, r, e => by
    rw [doorsS] at e ⊢
    simp only at e ⊢
    have e2 := doorsS_back m n (numS_bytes h m) e
    have e1 := numS_back h e2
    rw [natsI_cons, numsL_one, List.append_assoc, Int.toNat_natCast]
    exact e1
theorem ordersL_cons (x : Od) (l : List Od) : ordersL (x :: l) = orderL x ++ ordersL l := by simp [ordersL]
theorem batchesL_cons (x : Bt) (l : List Bt) : batchesL (x :: l) = batchL x ++ batchesL l := by simp [batchesL]
theorem ordersO_put : ∀ (l : List Od) (_ : ∀ x ∈ l, rightO x = true) (r : List Nat), ordersO l.length (some (ordersL l ++ r)) = some (l, some r)
  | [], _, r => by simp [ordersO_zero, ordersL]
  | x :: l, h, r => by
    have hx := h x (by simp)
    rw [ordersL_cons, List.append_assoc, List.length_cons, ordersO_succ, takeV_put hx, takeS_put hx, Option.bind_some]
    rw [ordersO_put l (fun y hy => h y (by simp [hy])) r]
    rfl
theorem batchesO_put : ∀ (l : List Bt) (_ : ∀ x ∈ l, rightBt x = true) (r : List Nat), batchesO l.length (some (batchesL l ++ r)) = some (l, some r)
  | [], _, r => by simp [batchesO_zero, batchesL]
  | x :: l, h, r => by
    have hx := h x (by simp)
    rw [batchesL_cons, List.append_assoc, List.length_cons, batchesO_succ, takeBV_put hx, takeB_put hx, Option.bind_some]
    rw [batchesO_put l (fun y hy => h y (by simp [hy])) r]
    rfl
theorem takeS_bytes {s : Sc} (h : BytesS s) : BytesS (takeS s).2 := by
  unfold takeS
  exact numS_bytes (numS_bytes (numS_bytes (numS_bytes (numS_bytes (textS_bytes (textS_bytes (textS_bytes (linesS_bytes _ (numS_bytes (textS_bytes h 32).1 8)) 32).1 32).1 32).1 _) _) _) _) _
theorem takeB_bytes {s : Sc} (h : BytesS s) : BytesS (takeB s).2 := by
  cases hr : (takeB s).2 with
  | none => exact fun b hb => by cases hb
  | some r =>
    have := takeB_back h hr
    refine fun b hb => ?_
    cases hb
    exact fun y hy => h _ this y (List.mem_append_right _ hy)
theorem ordersO_back : ∀ (n : Nat) {s : Sc} (_ : BytesS s) {l : List Od} {r : List Nat} (_ : ordersO n s = some (l, some r)), s = some (ordersL l ++ r) ∧ l.length = n ∧ ∀ x ∈ l, rightO x = true
  | 0, s, _, l, r, e => by
    simp only [ordersO_zero, Option.some.injEq, Prod.mk.injEq] at e
    obtain ⟨rfl, rfl⟩ := e
    exact ⟨by simp [ordersL], rfl, fun x hx => by simp at hx⟩
  | n + 1, s, h, l, r, e => by
    rw [ordersO_succ] at e
    cases ho : takeV s with
    | none => rw [ho] at e; cases e
    | some o =>
      rw [ho, Option.bind_some] at e
      obtain ⟨t, h1, h2⟩ := takeV_some ho
      simp only [Option.map_eq_some_iff] at e
      obtain ⟨⟨l2, s2⟩, e1, e2⟩ := e
      simp only [Prod.mk.injEq] at e2
      obtain ⟨rfl, rfl⟩ := e2
      obtain ⟨b1, b2, b3⟩ := ordersO_back n (takeS_bytes h) e1
      have e4 := takeS_back h b1
      rw [h1] at e4
      refine ⟨by rw [ordersL_cons, List.append_assoc]; exact e4, by rw [List.length_cons, b2], fun x hx => ?_⟩
      rcases List.mem_cons.1 hx with rfl | hx
      · exact h2
      · exact b3 x hx
theorem batchesO_back : ∀ (n : Nat) {s : Sc} (_ : BytesS s) {l : List Bt} {r : List Nat} (_ : batchesO n s = some (l, some r)), s = some (batchesL l ++ r) ∧ l.length = n ∧ ∀ x ∈ l, rightBt x = true
  | 0, s, _, l, r, e => by
    simp only [batchesO_zero, Option.some.injEq, Prod.mk.injEq] at e
    obtain ⟨rfl, rfl⟩ := e
    exact ⟨by simp [batchesL], rfl, fun x hx => by simp at hx⟩
  | n + 1, s, h, l, r, e => by
    rw [batchesO_succ] at e
    cases ho : takeBV s with
    | none => rw [ho] at e; cases e
    | some o =>
      rw [ho, Option.bind_some] at e
      obtain ⟨t, h1, h2⟩ := takeBV_some ho
      simp only [Option.map_eq_some_iff] at e
      obtain ⟨⟨l2, s2⟩, e1, e2⟩ := e
      simp only [Prod.mk.injEq] at e2
      obtain ⟨rfl, rfl⟩ := e2
      obtain ⟨b1, b2, b3⟩ := batchesO_back n (takeB_bytes h) e1
      have e4 := takeB_back h b1
      rw [h1] at e4
      refine ⟨by rw [batchesL_cons, List.append_assoc]; exact e4, by rw [List.length_cons, b2], fun x hx => ?_⟩
      rcases List.mem_cons.1 hx with rfl | hx
      · exact h2
      · exact b3 x hx
theorem ordersO_bytes : ∀ (n : Nat) {s : Sc} (_ : BytesS s) {p : List Od × Sc} (_ : ordersO n s = some p), BytesS p.2
  | 0, s, h, p, e => by
    simp only [ordersO_zero, Option.some.injEq] at e
    rw [← e]
    exact h
  | n + 1, s, h, p, e => by
    rw [ordersO_succ] at e
    cases ho : takeV s with
    | none => rw [ho] at e; cases e
    | some o =>
      rw [ho, Option.bind_some] at e
      simp only [Option.map_eq_some_iff] at e
      obtain ⟨q, e1, e2⟩ := e
      rw [← e2]
      exact ordersO_bytes n (takeS_bytes h) (p := q) e1
theorem batchesO_bytes : ∀ (n : Nat) {s : Sc} (_ : BytesS s) {p : List Bt × Sc} (_ : batchesO n s = some p), BytesS p.2
  | 0, s, h, p, e => by
    simp only [batchesO_zero, Option.some.injEq] at e
    rw [← e]
    exact h
  | n + 1, s, h, p, e => by
    rw [batchesO_succ] at e
    cases ho : takeBV s with
    | none => rw [ho] at e; cases e
    | some o =>
      rw [ho, Option.bind_some] at e
      simp only [Option.map_eq_some_iff] at e
      obtain ⟨q, e1, e2⟩ := e
      rw [← e2]
      exact batchesO_bytes n (takeB_bytes h) (p := q) e1
/-- What the head of a state wants. -/
structure HeadP (s : St) : Prop where
  wc : 0 ≤ s.waves.count ∧ s.waves.count ≤ 64
  ww : 0 ≤ s.waves.wt ∧ s.waves.wt ≤ 1000000000000
  mc : 0 ≤ s.mans.count ∧ s.mans.count ≤ 64
  mw : 0 ≤ s.mans.wt ∧ s.mans.wt ≤ 1000000000000
  limit : 0 ≤ s.limit ∧ s.limit ≤ 100
  doors : ∀ x ∈ s.doors, 0 ≤ x ∧ x ≤ 95
  dlen : s.doors.length ≤ 96
  now : 0 ≤ s.now ∧ s.now ≤ 1099511627776
  nb : 0 ≤ s.nb ∧ s.nb ≤ 1000000000000
  nk : 0 ≤ s.nk ∧ s.nk ≤ 1000000000000
  many : s.ords.length ≤ 400
theorem asc_len : ∀ (l : List Int) (a : Int) (_ : l.Pairwise (· < ·)) (_ : ∀ x ∈ l, a ≤ x ∧ x ≤ 95) (_ : a ≤ 96), (l.length : Int) ≤ 96 - a
  | [], a, _, _, h => by simp; omega
  | x :: r, a, hp, hr, h => by
    rw [List.pairwise_cons] at hp
    have hx := hr x (by simp)
    have := asc_len r (x + 1) hp.2 (fun y hy => ⟨by have := hp.1 y hy; omega, (hr y (by simp [hy])).2⟩) (by omega)
    simp only [List.length_cons]
    omega
structure RightP (s : St) : Prop where
  head : HeadP s
  ords : ∀ x ∈ s.ords, rightO x = true
  bats : ∀ x ∈ s.bats, rightBt x = true
  effs : rightE s.effs = true
theorem rightP_of {s : St} (h : rightS s = true) : RightP s := by
  simp only [rightS, limitsB, capsB, limitB, effsOk, Bool.and_eq_true, decide_eq_true_eq, aboveB_iff, tickB_iff] at h
  obtain ⟨⟨⟨h1, h2⟩, ⟨h3, h4⟩, h5, h6, h7, h8, h9⟩, h10, h11, h12, _, _, _, _, _, h13⟩ := h
  have hd := fitsB_iff.1 h6
  refine ⟨⟨by omega, by omega, by omega, by omega, by omega, hd.rng, ?_, h7, by omega, by omega, h10⟩, goodO_all _ _ h11, fun x hx => ?_, h13⟩
  · have := asc_len s.doors 0 hd.asc hd.rng (by omega)
    omega
  · have := goodB_all _ _ _ _ h12 x hx
    simp only [batchOk, Bool.and_eq_true] at this
    exact this.1
theorem capsS_put {a b : Int} (ha : 0 ≤ a ∧ a ≤ 64) (hb : 0 ≤ b ∧ b ≤ 1000000000000) (r : List Nat) : capsS (some (numL a.toNat ++ (numL b.toNat ++ r))) = ((a.toNat, b.toNat), some r) := by
  unfold capsS
  rw [numS_put (by omega)]
  simp only
  rw [numS_put (by omega)]
def hdOf (s : St) : Hd := ⟨s.waves.count.toNat, s.waves.wt.toNat, s.mans.count.toNat, s.mans.wt.toNat, s.limit.toNat, s.doors, s.now.toNat, s.nb.toNat, s.nk.toNat, s.ords.length⟩
theorem headS_put (dm : Nat) (hdm : 95 ≤ dm) {s : St} (h : HeadP s) (r : List Nat) : headS dm (some (numsL (capsN s) ++ (numsL (natsI s.doors) ++ (numsL (nextN s) ++ r)))) = (hdOf s, some r) := by
  obtain ⟨h1, h2, h3, h4, h5, h6, h7, h8, h9, h10, h11⟩ := h
  unfold headS capsN nextN
  simp only [numsL_one, numsL_none, List.append_nil, List.append_assoc]
  rw [capsS_put h1 h2]
  simp only
  rw [capsS_put h3 h4]
  simp only
  rw [numS_put (by omega)]
  simp only
  rw [numS_put (by omega)]
  simp only
  rw [doorsS_put dm hdm _ h6]
  simp only
  rw [numS_put (by omega)]
  simp only
  rw [numS_put (by omega)]
  simp only
  rw [numS_put (by omega)]
  simp only
  rw [numS_put (by omega)]
  rfl
theorem stOf_hd {s : St} (h : HeadP s) : stOf (hdOf s) s.ords s.bats s.effs = s := by
  obtain ⟨h1, h2, h3, h4, h5, h6, h7, h8, h9, h10, h11⟩ := h
  obtain ⟨⟨wc, ww⟩, ⟨mc, mw⟩, limit, doors, now, nb, nk, ords, bats, effs⟩ := s
  simp only [stOf, hdOf] at *
  rw [Int.toNat_of_nonneg h1.1, Int.toNat_of_nonneg h2.1, Int.toNat_of_nonneg h3.1, Int.toNat_of_nonneg h4.1, Int.toNat_of_nonneg h5.1, Int.toNat_of_nonneg h8.1, Int.toNat_of_nonneg h9.1, Int.toNat_of_nonneg h10.1]
/-- What is written is read. -/
theorem readS_put (dm bm : Nat) (hdm : 95 ≤ dm) {s : St} (h : rightS s = true) (hb : s.bats.length ≤ bm) (he : s.effs.length ≤ 1048576) (r : List Nat) : readS dm bm (some (stateL s ++ r)) = some (s, some r) := by
  have hp := rightP_of h
  unfold readS stateL
  simp only [List.append_assoc]
  rw [headS_put dm hdm hp.head]
  unfold tailS
  simp only
  rw [show (hdOf s).many = s.ords.length from rfl, ordersO_put _ hp.ords]
  simp only
  rw [numS_put hb]
  simp only
  rw [batchesO_put _ hp.bats]
  simp only
  rw [boxO_put hp.effs he, boxS_put hp.effs he]
  simp only
  rw [stOf_hd hp.head]
theorem readM_put (dm bm : Nat) (hdm : 95 ≤ dm) {s : St} (h : rightS s = true) (hb : s.bats.length ≤ bm) (he : s.effs.length ≤ 1048576) : readM dm bm (stateL s) = some s := by
  have := readS_put dm bm hdm h hb he []
  rw [List.append_nil] at this
  unfold readM
  rw [this]
  simp [h]
theorem readO_put {s : St} (h : rightS s = true) (hb : s.bats.length ≤ 1048576) (he : s.effs.length ≤ 1048576) : readO (stateL s) = some s := readM_put 96 1048576 (by decide) h hb he
theorem capsS_bytes {s : Sc} (h : BytesS s) : BytesS (capsS s).2 := numS_bytes (numS_bytes h 64) 1000000000000
theorem capsS_back {s : Sc} (h : BytesS s) {r : List Nat} (e : (capsS s).2 = some r) : s = some (numL (capsS s).1.1 ++ (numL (capsS s).1.2 ++ r)) := numS_back h (numS_back (numS_bytes h 64) e)
theorem headS_bytes (dm : Nat) {s : Sc} (h : BytesS s) : BytesS (headS dm s).2 := by
  unfold headS
  exact numS_bytes (numS_bytes (numS_bytes (numS_bytes (doorsS_bytes dm _ (numS_bytes (numS_bytes (capsS_bytes (capsS_bytes h)) _) _)) _) _) _) _
theorem headS_back (dm : Nat) {s : Sc} (h : BytesS s) {r : List Nat} (e : (headS dm s).2 = some r) {os : List Od} (bs : List Bt) (es : List Ef) (hmany : os.length = (headS dm s).1.many) :
    s = some (numsL (capsN (stOf (headS dm s).1 os bs es)) ++ (numsL (natsI (stOf (headS dm s).1 os bs es).doors) ++ (numsL (nextN (stOf (headS dm s).1 os bs es)) ++ r))) := by
  unfold headS at e hmany ⊢
  simp only at e hmany ⊢
  have b1 := capsS_bytes h
  generalize hw : capsS s = w at *
  have b2 := capsS_bytes b1
  generalize hm : capsS w.2 = m at *
  have b3 := numS_bytes b2 100
  generalize hl : numS 100 m.2 = l at *
  have b4 := numS_bytes b3 96
  generalize hn : numS 96 l.2 = n at *
  have b5 := doorsS_bytes dm n.1 b4
  have n5 := doorsS_len dm n.1 n.2
  generalize hd : doorsS dm n.1 n.2 = d at *
  have b6 := numS_bytes b5 1099511627776
  generalize ht : numS 1099511627776 d.2 = t at *
  have b7 := numS_bytes b6 1000000000000
  generalize hbb : numS 1000000000000 t.2 = b at *
  have b8 := numS_bytes b7 1000000000000
  generalize hk : numS 1000000000000 b.2 = k at *
  have e9 := numS_back b8 (m := 400) (r := r) e
  generalize ho : numS 400 k.2 = o at *
  have e8 := numS_back b7 (m := 1000000000000) (by rw [hk]; exact e9)
  rw [hk] at e8
  have e7 := numS_back b6 (m := 1000000000000) (by rw [hbb]; exact e8)
  rw [hbb] at e7
  have e6 := numS_back b5 (m := 1099511627776) (by rw [ht]; exact e7)
  rw [ht] at e6
  have e5 := doorsS_back dm n.1 b4 (by rw [hd]; exact e6)
  rw [hd] at e5
  have e4 := numS_back b3 (m := 96) (by rw [hn]; exact e5)
  rw [hn] at e4
  have e3 := numS_back b2 (m := 100) (by rw [hl]; exact e4)
  rw [hl] at e3
  have e2 := capsS_back b1 (by rw [hm]; exact e3)
  rw [hm] at e2
  have e1 := capsS_back h (by rw [hw]; exact e2)
  rw [hw] at e1
  unfold capsN nextN stOf
  simp only [numsL_one, numsL_none, List.append_nil, List.append_assoc, Int.toNat_natCast]
  rw [n5]
  rw [hmany]
  exact e1
theorem readS_back (dm bm : Nat) {s : Sc} (h : BytesS s) {st : St} {r : List Nat} (e : readS dm bm s = some (st, some r)) : s = some (stateL st ++ r) := by
  unfold readS tailS at e
  have hh := headS_bytes dm h
  cases h1 : ordersO (headS dm s).1.many (headS dm s).2 with
  | none => rw [h1] at e; cases e
  | some p =>
    rw [h1] at e
    simp only at e
    have hp := ordersO_bytes _ hh h1
    have hq0 := numS_bytes hp bm
    cases h2 : batchesO (numS bm p.2).1 (numS bm p.2).2 with
    | none => rw [h2] at e; cases e
    | some q =>
      rw [h2] at e
      simp only at e
      have hq := batchesO_bytes _ hq0 h2
      cases h3 : boxO q.2 with
      | none => rw [h3] at e; cases e
      | some l =>
        rw [h3] at e
        simp only [Option.some.injEq, Prod.mk.injEq] at e
        obtain ⟨e1, e2⟩ := e
        obtain ⟨t, h4, h5⟩ := boxO_some h3
        have k1 := boxS_back hq e2
        rw [h4] at k1
        simp only at k1
        obtain ⟨pl, ps⟩ := p
        obtain ⟨ql, qs⟩ := q
        simp only at k1 h2 hp hq0 e1
        subst k1
        obtain ⟨k2, k3, _⟩ := batchesO_back _ hq0 h2
        have k4 := numS_back hp k2
        clear h2 hq0 k2
        generalize (numS bm ps).1 = nn at *
        subst k4
        obtain ⟨k5, k6, _⟩ := ordersO_back _ hh h1
        have k7 := headS_back dm h k5 (os := pl) ql l k6
        rw [k7, ← e1]
        unfold stateL
        simp only [List.append_assoc]
        rw [← k3]
        rfl
theorem readM_some {dm bm : Nat} {l : List Nat} {st : St} (h : readM dm bm l = some st) : readS dm bm (some l) = some (st, some []) ∧ rightS st = true := by
  unfold readM at h
  split at h
  · rename_i x h1
    split at h
    · rename_i h2
      cases h
      exact ⟨h1, h2⟩
    · cases h
  · cases h
theorem readM_back {dm bm : Nat} {l : List Nat} (hb : Bytes l) {st : St} (h : readM dm bm l = some st) : l = stateL st ∧ rightS st = true := by
  obtain ⟨h1, h2⟩ := readM_some h
  have := readS_back dm bm (s := some l) (fun b e => by cases e; exact hb) h1
  rw [List.append_nil] at this
  injection this with this
  exact ⟨this, h2⟩
theorem ordersL_bytes : ∀ (l : List Od), Bytes (ordersL l)
  | [] => fun b hb => by simp [ordersL] at hb
  | x :: l => by rw [ordersL_cons]; exact bytes_app (orderL_bytes x) (ordersL_bytes l)
theorem batchesL_bytes : ∀ (l : List Bt), Bytes (batchesL l)
  | [] => fun b hb => by simp [batchesL] at hb
  | x :: l => by rw [batchesL_cons]; exact bytes_app (batchL_bytes x) (batchesL_bytes l)
theorem stateL_bytes (s : St) : Bytes (stateL s) := by
  unfold stateL
  repeat' (first | exact numsL_bytes _ | exact numL_bytes _ | exact ordersL_bytes _ | exact batchesL_bytes _ | exact boxL_bytes _ | apply bytes_app)
/-- Each batch and each effect has a byte at least. -/
theorem batchesL_many : ∀ (l : List Bt), l.length ≤ (batchesL l).length
  | [] => Nat.zero_le _
  | x :: l => by
    rw [batchesL_cons, List.length_append, List.length_cons]
    have := batchesL_many l
    have h1 : 1 ≤ (batchL x).length := by
      unfold batchL
      rw [List.length_append]
      have := numL_pos x.id.toNat
      omega
    omega
theorem effsL_many : ∀ (l : List Ef), l.length ≤ (effsL l).length
  | [] => Nat.zero_le _
  | x :: l => by
    rw [effsL_cons, List.length_append, List.length_cons]
    have := effsL_many l
    have h1 : 1 ≤ (effL x).length := by
      unfold effL
      rw [List.length_append]
      have := numL_pos x.key.toNat
      omega
    omega
theorem stateL_many (s : St) : s.bats.length ≤ (stateL s).length ∧ s.effs.length ≤ (stateL s).length := by
  unfold stateL boxL
  simp only [List.length_append]
  have h1 := batchesL_many s.bats
  have h2 := effsL_many s.effs
  omega
/-- A batch has a member, which is in no other one: there are no more batches than orders. -/
theorem nodup_few : ∀ (a b : List Int) (_ : a.Nodup) (_ : ∀ x ∈ a, x ∈ b), a.length ≤ b.length
  | [], _, _, _ => Nat.zero_le _
  | x :: a, b, hn, hs => by
    rw [List.nodup_cons] at hn
    have hx := hs x (by simp)
    have ih := nodup_few a (b.erase x) hn.2 (fun y hy => (List.mem_erase_of_ne (fun e => hn.1 (by rw [← e]; exact hy))).2 (hs y (by simp [hy])))
    rw [List.length_erase_of_mem hx] at ih
    have := List.length_pos_of_mem hx
    simp only [List.length_cons]
    omega
theorem goodB_asc (os : List Od) (nb : Int) : ∀ (l : List Bt) (p : Option Int), goodB os nb p l = true → (l.map (·.id)).Pairwise (· < ·) ∧ ∀ q, p = some q → ∀ x ∈ l, q < x.id
  | [], _, _ => ⟨List.Pairwise.nil, fun _ _ x hx => by simp at hx⟩
  | b :: r, p, h => by
    simp only [goodB, Bool.and_eq_true] at h
    obtain ⟨_, h2, h3⟩ := h
    obtain ⟨i1, i2⟩ := goodB_asc os nb r (some b.id) h3
    refine ⟨?_, fun q hq x hx => ?_⟩
    · rw [List.map_cons, List.pairwise_cons]
      refine ⟨fun y hy => ?_, i1⟩
      obtain ⟨z, hz, rfl⟩ := List.mem_map.1 hy
      exact i2 _ rfl z hz
    · subst hq
      have h2 : q < b.id := by simpa [aheadB] using h2
      rcases List.mem_cons.1 hx with rfl | hx
      · exact h2
      · have := i2 _ rfl x hx
        omega
theorem bats_few {s : St} (h : rightS s = true) : s.bats.length ≤ s.ords.length := by
  simp only [rightS, Bool.and_eq_true] at h
  obtain ⟨_, _, _, h12, _⟩ := h
  have hn : (s.bats.map (·.id)).Nodup := by
    have := (goodB_asc _ _ _ _ h12).1
    exact this.imp (fun h => by omega)
  have := nodup_few (s.bats.map (·.id)) (s.ords.map (·.batch)) hn (fun x hx => by
    obtain ⟨b, hb, rfl⟩ := List.mem_map.1 hx
    have hk := goodB_all _ _ _ _ h12 b hb
    simp only [batchOk, Bool.and_eq_true, decide_eq_true_eq] at hk
    obtain ⟨_, _, h3, _, _, h6⟩ := hk
    cases hm : b.mem with
    | nil => rw [hm] at h3; exact absurd rfl h3
    | cons m r =>
      rw [hm, List.all_cons, Bool.and_eq_true] at h6
      have h7 := h6.1
      simp only [memOk, Bool.and_eq_true] at h7
      obtain ⟨h8, h9, _⟩ := h7
      cases ho : findO s.ords m with
      | none => rw [ho] at h8; cases h8
      | some o =>
        have e : o.batch = b.id := by
          have := h9
          unfold orderV at this
          rw [ho] at this
          simpa using this
        rw [← e]
        exact List.mem_map_of_mem (List.mem_of_find?_eq_some ho))
  simpa using this
/-- Whatever the limits, where they are great enough: the same state. -/
theorem readM_same {dm bm : Nat} (hdm : 95 ≤ dm) (hbm : 400 ≤ bm) {l : List Nat} (hb : Bytes l) (hl : l.length ≤ 1000000) : readM dm bm l = readO l := by
  have key : ∀ {d b d' b' : Nat} (_ : 95 ≤ d') (_ : 400 ≤ b') {st : St}, readM d b l = some st → readM d' b' l = some st := by
    intro d b d' b' hd' hb' st h
    obtain ⟨h1, h2⟩ := readM_back hb h
    have hm := stateL_many st
    have hf := bats_few h2
    have hq := (rightP_of h2).head.many
    rw [h1] at hl ⊢
    exact readM_put d' b' hd' h2 (by omega) (by omega)
  unfold readO
  cases h1 : readM dm bm l with
  | some st => exact (key (by decide) (by decide) h1).symm
  | none =>
    cases h2 : readM 96 1048576 l with
    | none => rfl
    | some st => rw [key hdm hbm h2] at h1; cases h1
end Go.Proofs.YtfmpibmhhfmajaaGreatDoor
