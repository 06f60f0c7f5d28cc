/- The document's Find, Due, Settle and Sent. -/
import Derived.Test.YtciijkognhdddaaObRef
import Derived.Test.YtciijkognhdddaaObSettle
import Derived.Test.YtciijkognhdddaaObSent
namespace Go.Proofs.Ytciijkognhdddaa
set_option maxRecDepth 100000
open Go.RowKit Go.ChangeShapes Go.WideShapes Go.ChangeAt
attribute [local go_sem ↓] ldEf stEf alEf bxEf eqEf bdEf bsEf
attribute [local go_sem] al_ef bx_ef st_new bd_ef bs_ef bs_ef0

set_option maxHeartbeats 4000000 in
theorem refFind_any (a : Option Addr) (cap : Nat) (l : List Ef) (key : Int) (w : World) (h : SlP LE w a cap l) : Calls Try.prog 18 #[.slice a l.length cap, .int .i64 key] w (FindP (findV l key) (findN l key) w) := by
  have B0 := Lib.hid ((Below.refl w.heap.size w).alloc (Nat.le_refl _) (Obj.cells (efC noEf) 27))
  have R0 := Lib.hid (Row.new w (efC noEf) 27)
  have H := Lib.hid h
  have hc := h.cap
  have hlm := h.len
  unfold maxLen at hlm
  have HF := Lib.hid (fun e he => findVN_some (l := l) (key := key) (e := e) he)
  have HN := Lib.hid (findVN_none (l := l) (key := key))
  clear h
  generalize findV l key = V at *
  generalize findN l key = N at *
  go_enter Try.func18, Try.ntmps18
  go_wp2_with fail
  generalize w.alloc (Obj.cells (efC noEf) 27) = W0 at *
  go_loopw [10] (fun i wr => ∃ k : Nat, k ≤ l.length ∧ i = .int .i64 k ∧ Hid (findE l key = findE (l.drop k) key) ∧ Hid (Row wr w.heap.size 27 (efC noEf)) ∧ Hid (Below w.heap.size w wr)) (fun i _ => l.length - (intOf i).toNat)
  case atStart => exact ⟨0, Nat.zero_le _, rfl, Lib.hid rfl, R0, B0⟩
  case round =>
    clear R0 B0
    obtain ⟨k, hk, rfl, HG, R, hbw⟩ := hrel
    by_cases hlt : k < l.length
    · obtain ⟨b, o, rfl, hb, ld, hrest⟩ := (H.out.below hbw.out).ef k hlt
      have HS := Lib.hid (HG.out.trans (find_drop l key k hlt))
      have Q := Lib.hid (Row.new wr (efC l[k]) 27)
      have ld2 := ld_row Q.out
      obtain ⟨c0, hrest2⟩ := Q.out.c
      have R1 := Lib.hid (R.out.alloc (.cells (efC l[k]) 27))
      have B1 := Lib.hid (hbw.out.alloc hbw.out.size (.cells (efC l[k]) 27))
      have hst : ∀ y, StX 27 (.pointer (some ⟨w.heap.size, 0, none⟩)) (efV y) (wr.alloc (.cells (efC l[k]) 27)) = .ok .skip ((wr.alloc (.cells (efC l[k]) 27)).setRow w.heap.size (efC y)) := fun y => st_row R1.out y
      clear HG hrest hrest2
      generalize l[k] = y at *
      cases hq : (y.key == key) with
      | true =>
        have HE := Lib.hid (HF.out y (by rw [HS.out, if_pos (by simpa [hasK] using hq)]))
        go_wp2_with fail
        (try simp only [Exit.inBlock, Exit.then])
        apply bodyPost_ret
        case hd => rfl
        case hr => exact results_cell_one rfl _ _ w.heap.size _ rfl (load6 (row_set R1.out y))
        case hR => exact ⟨by rw [HE.out.1, HE.out.2]; rfl, low_set B1.out _⟩
      | false =>
        have hh : hasK y key = false := by simpa [hasK] using hq
        go_wp2_with fail
        go_roundw
        case rel => exact ⟨k + 1, hlt, by go_num, Lib.hid (by rw [HS.out, hh]; rfl), R1, B1⟩
        case measure => simp [intOf]; omega
    · have HE := Lib.hid (HN.out (by rw [HG.out, List.drop_eq_nil_of_le (by omega)]; rfl))
      have hst : ∀ y, StX 27 (.pointer (some ⟨w.heap.size, 0, none⟩)) (efV y) wr = .ok .skip (wr.setRow w.heap.size (efC y)) := fun y => st_row R.out y
      go_wp2_with fail
      (try simp only [Exit.inBlock, Exit.then])
      apply bodyPost_ret
      case hd => rfl
      case hr => exact results_cell_one rfl _ _ w.heap.size _ rfl (load6 (row_set R.out noEf))
      case hR => exact ⟨by rw [HE.out.1, HE.out.2]; rfl, low_set hbw.out _⟩

set_option maxHeartbeats 4000000 in
theorem refDue_any (a : Option Addr) (cap : Nat) (l : List Ef) (now : Int) (w : World) (h : SlP LE w a cap l) (hm : l.length ≤ 1000000) :
    Calls Try.prog 22 #[.slice a l.length cap, .int .i64 now] w (OwnSs LE (dueE l now) w) := by
  have H := Lib.hid h
  have hc := h.cap
  have O0 := Lib.hid (OwnS.fresh (L := LE) w w.heap.size (Nat.le_refl _))
  have B0 := Lib.hid ((Below.refl w.heap.size w).alloc (Nat.le_refl _) (.cells #[] 27))
  have O0 : Hid (OwnS LE (w.alloc (.cells #[] 27)) w.heap.size (.slice (some ⟨w.heap.size, 0, none⟩) 0 0) []) := O0
  clear h
  go_enter Try.func22, Try.ntmps22
  go_wp2_with fail
  generalize w.alloc (.cells #[] 27) = W0 at *
  go_loopw [5, 11] (fun s i wr => ∃ (k : Nat) (acc : List Ef), k ≤ l.length ∧ i = .int .i64 k ∧ Hid (OwnS LE wr w.heap.size s acc) ∧ Hid (acc ++ dueE (l.drop k) now = dueE l now) ∧ acc.length ≤ k ∧ Hid (Below w.heap.size w wr)) (fun _ i _ => l.length - (intOf i).toNat)
  case atStart => exact ⟨0, [], Nat.zero_le _, rfl, O0, Lib.hid rfl, Nat.le_refl _, B0⟩
  case round =>
    clear O0 B0
    obtain ⟨k, acc, hk, rfl, HO, HS, hac, hbw⟩ := hrel
    have hbw := hbw.out
    by_cases hlt : k < l.length
    · have HN := Lib.hid (HS.out.symm.trans (by rw [dueE_drop hlt now, ← List.append_assoc]))
      obtain ⟨b, o, rfl, hb, ld, _⟩ := (H.out.below hbw).ef k hlt
      have R := Lib.hid (Row.new wr (efC l[k]) 27)
      have ld2 := ld_row R.out
      obtain ⟨_, _, c2, _⟩ := R.out.c
      have OW := Lib.hid (HO.out.alloc (Obj.cells (efC l[k]) 27))
      have BW := Lib.hid (hbw.alloc hbw.size (.cells (efC l[k]) 27))
      clear HS HO
      generalize l[k] = y at *
      cases hd : decide (y.due ≤ now) with
      | false =>
        rw [hd] at HN
        go_wp2_with fail
        go_roundw
        case rel => exact ⟨k + 1, acc, hlt, by go_num, OW, Lib.hid (by rw [HN.out]; simp), by omega, BW⟩
        case measure => simp [intOf]; omega
      | true =>
        rw [hd] at HN
        have hlen : acc.length + [y].length ≤ 10000000 := by simp; omega
        have hbs := BW.out.size
        go_wp2_with (at_builtin; go_must (refine wpList_append_sl LE_ok rfl _ _ rfl w.heap.size _ acc [y] rfl (OW.out.alloc _) _ 1 rfl (ef_one _ _ (by simp) y) hlen (Nat.le_trans hbs (by simp)) ?_))
        rintro v2 w2 o2 g2
        have b2 := Lib.hid ((BW.out.alloc hbs (Obj.cells (efC y) 27)).grown g2 (Nat.le_trans hbs (by simp)) OW.out.row)
        have O2 := Lib.hid o2
        clear o2 g2
        go_wp2_with fail
        go_roundw
        case rel => exact ⟨k + 1, acc ++ [y], hlt, by go_num, O2, Lib.hid (by rw [HN.out]; simp), by simp; omega, b2⟩
        case measure => simp [intOf]; omega
    · have HE := Lib.hid (show dueE l now = acc by rw [← HS.out, List.drop_eq_nil_of_le (by omega)]; exact List.append_nil _)
      go_wp2_with fail
      go_ret
      exact ⟨_, rfl, by rw [HE.out]; exact HO.out, hbw⟩

theorem restOf_drop {l : List Ef} {k : Nat} (h : k < l.length) (key : Int) : restOf (l.drop k) key = (if l[k].key != key then [l[k]] else []) ++ restOf (l.drop (k + 1)) key := by
  rw [List.drop_eq_getElem_cons h]
  unfold restOf
  rw [List.filter_cons]
  have : (!hasK l[k] key) = (l[k].key != key) := by
    rw [Bool.eq_iff_iff]; simp [hasK]
  rw [this]
  split <;> rfl

set_option maxHeartbeats 4000000 in
theorem refSettle_any (a : Option Addr) (cap : Nat) (l : List Ef) (key : Int) (w : World) (h : SlP LE w a cap l) (hm : l.length ≤ 1000000) :
    Calls Try.prog 17 #[.slice a l.length cap, .int .i64 key] w (OwnSE LE (settleV l key) (settleN l key) w) := by
  have H := Lib.hid h
  have hc := h.cap
  have CF := Lib.hid (refFind_any a cap l key w h)
  have HF := Lib.hid (settleVN_some (l := l) (key := key))
  have HN := Lib.hid (settleVN_none (l := l) (key := key))
  have HQ := Lib.hid (show findN l key = if (findE l key).isSome then 0 else 131 from rfl)
  clear h
  generalize settleV l key = V at *
  generalize settleN l key = N at *
  generalize findV l key = fv at *
  generalize findN l key = fn at *
  go_enter Try.func17, Try.ntmps17
  go_wp2_with fail
  refine CF.out.mono ?_
  rintro x w1 ⟨rfl, b1⟩
  have B1 := Lib.hid (b1.alloc b1.size (.cells (efC fv) 27))
  clear CF
  cases hf : (findE l key).isSome with
  | false =>
    have HE := Lib.hid (HN.out hf)
    obtain rfl : fn = 131 := by rw [HQ.out, hf]; rfl
    go_wp2_with fail
    go_ret2
    exact ⟨_, by rw [HE.out.2]; rfl, by rw [HE.out.1]; exact OwnS.nil _ _, B1.out⟩
  | true =>
    have HE := Lib.hid (HF.out hf)
    obtain rfl : fn = 0 := by rw [HQ.out, hf]; rfl
    clear HF HN HQ hf b1
    have O0 : Hid (OwnS LE ((w1.alloc (.cells (efC fv) 27)).alloc (.cells #[] 27)) w.heap.size (.slice (some ⟨w1.heap.size + 1, 0, none⟩) 0 0) []) := Lib.hid (by
      have := OwnS.fresh (L := LE) (w1.alloc (.cells (efC fv) 27)) w.heap.size B1.out.size
      rwa [show (w1.alloc (.cells (efC fv) 27)).heap.size = w1.heap.size + 1 by simp] at this)
    have B0 := Lib.hid (B1.out.alloc B1.out.size (.cells #[] 27))
    go_wp2_with fail
    generalize (w1.alloc (.cells (efC fv) 27)).alloc (.cells #[] 27) = W2 at *
    go_loopw [8, 22] (fun s i wr => ∃ (k : Nat) (acc : List Ef), k ≤ l.length ∧ i = .int .i64 k ∧ Hid (OwnS LE wr w.heap.size s acc) ∧ Hid (acc ++ restOf (l.drop k) key = restOf l key) ∧ acc.length ≤ k ∧ Hid (Below w.heap.size w wr)) (fun _ i _ => l.length - (intOf i).toNat)
    case atStart => exact ⟨0, [], Nat.zero_le _, rfl, O0, Lib.hid rfl, Nat.le_refl _, B0⟩
    case round =>
      clear O0 B0 B1
      obtain ⟨k, acc, hk, rfl, HO, HS, hac, hbw⟩ := hrel
      have hbw := hbw.out
      by_cases hlt : k < l.length
      · have HN := Lib.hid (HS.out.symm.trans (by rw [restOf_drop hlt key, ← List.append_assoc]))
        obtain ⟨b, o, rfl, hb, ld, _⟩ := (H.out.below hbw).ef k hlt
        have R := Lib.hid (Row.new wr (efC l[k]) 27)
        have ld2 := ld_row R.out
        obtain ⟨c0, _⟩ := R.out.c
        have OW := Lib.hid (HO.out.alloc (Obj.cells (efC l[k]) 27))
        have BW := Lib.hid (hbw.alloc hbw.size (.cells (efC l[k]) 27))
        clear HS HO
        generalize l[k] = y at *
        cases hd : (y.key != key) with
        | false =>
          rw [hd] at HN
          go_wp2_with fail
          go_roundw
          case rel => exact ⟨k + 1, acc, hlt, by go_num, OW, Lib.hid (by rw [HN.out]; simp), by omega, BW⟩
          case measure => simp [intOf]; omega
        | true =>
          rw [hd] at HN
          have hlen : acc.length + [y].length ≤ 10000000 := by simp; omega
          have hbs := BW.out.size
          go_wp2_with (at_builtin; go_must (refine wpList_append_sl LE_ok rfl _ _ rfl w.heap.size _ acc [y] rfl (OW.out.alloc _) _ 1 rfl (ef_one _ _ (by simp) y) hlen (Nat.le_trans hbs (by simp)) ?_))
          rintro v2 w2 o2 g2
          have b2 := Lib.hid ((BW.out.alloc hbs (Obj.cells (efC y) 27)).grown g2 (Nat.le_trans hbs (by simp)) OW.out.row)
          have O2 := Lib.hid o2
          clear o2 g2
          go_wp2_with fail
          go_roundw
          case rel => exact ⟨k + 1, acc ++ [y], hlt, by go_num, O2, Lib.hid (by rw [HN.out]; simp), by simp; omega, b2⟩
          case measure => simp [intOf]; omega
      · have HL := Lib.hid (show restOf l key = acc by rw [← HS.out, List.drop_eq_nil_of_le (by omega)]; exact List.append_nil _)
        go_wp2_with fail
        go_ret2
        exact ⟨_, by rw [HE.out.2]; rfl, by rw [HE.out.1, HL.out]; exact HO.out, hbw⟩

theorem sentOf_drop {l : List Ef} {k : Nat} (h : k < l.length) (key now : Int) : sentOf (l.drop k) key now = (if l[k].key == key then bumpE now l[k] else l[k]) :: sentOf (l.drop (k + 1)) key now := by
  rw [List.drop_eq_getElem_cons h]
  unfold sentOf
  rw [List.map_cons]
  have : hasK l[k] key = (l[k].key == key) := by
    rw [Bool.eq_iff_iff]; simp [hasK]
  rw [this]

set_option maxHeartbeats 8000000 in
theorem refSent_any (a : Option Addr) (cap : Nat) (l : List Ef) (key now : Int) (w : World) (h : SlP LE w a cap l) (hr : rightE l = true) (hm : l.length ≤ 1000000) :
    Calls Try.prog 16 #[.slice a l.length cap, .int .i64 key, .int .i64 now] w (OwnSE LE (sentV l key now) (sentN l key now) w) := by
  have H := Lib.hid h
  have hc := h.cap
  have CF := Lib.hid (refFind_any a cap l key w h)
  have HF := Lib.hid (sentVN_some (l := l) (key := key) (now := now))
  have HN := Lib.hid (sentVN_none (l := l) (key := key) (now := now))
  have H1 := Lib.hid (fun e he => oneB_of (((rightE_iff l).1 hr).1 e he))
  have CT := Lib.hid (fun w => refTick_any now w)
  have HQ := Lib.hid (show findN l key = if (findE l key).isSome then 0 else 131 from rfl)
  clear h hr
  generalize sentV l key now = V at *
  generalize sentN l key now = N at *
  generalize findV l key = fv at *
  generalize findN l key = fn at *
  go_enter Try.func16, Try.ntmps16
  go_wp2_with fail
  refine CF.out.mono ?_
  rintro x w1 ⟨rfl, b1⟩
  have B1 := Lib.hid (b1.alloc b1.size (.cells (efC fv) 27))
  clear CF
  cases hf : (findE l key).isSome with
  | false =>
    have HE := Lib.hid (HN.out (.inl hf))
    obtain rfl : fn = 131 := by rw [HQ.out, hf]; rfl
    go_wp2_with fail
    go_ret2
    exact ⟨_, by rw [HE.out.2]; rfl, by rw [HE.out.1]; exact OwnS.nil _ _, B1.out⟩
  | true =>
    obtain rfl : fn = 0 := by rw [HQ.out, hf]; rfl
    go_wp2_with fail
    generalize w1.alloc (.cells (efC fv) 27) = W1 at *
    refine (CT.out _).mono ?_
    rintro x w2 ⟨rfl, rfl⟩
    cases ht : tickB now with
    | false =>
      have HE := Lib.hid (HN.out (.inr ht))
      go_wp2_with fail
      go_ret2
      exact ⟨_, by rw [HE.out.2]; rfl, by rw [HE.out.1]; exact OwnS.nil _ _, B1.out⟩
    | true =>
      have HE := Lib.hid (HF.out hf ht)
      rw [tickB_iff] at ht
      obtain ⟨n1, n2⟩ := ht
      clear HF HN HQ hf b1 CT
      go_wp2_with fail
      have O0 : Hid (OwnS LE (W1.alloc (.cells #[] 27)) w.heap.size (.slice (some ⟨W1.heap.size, 0, none⟩) 0 0) []) := Lib.hid (OwnS.fresh (L := LE) W1 w.heap.size B1.out.size)
      have B0 := Lib.hid (B1.out.alloc B1.out.size (.cells #[] 27))
      generalize W1.alloc (.cells #[] 27) = W2 at *
      go_loopw [10, 29] (fun s i wr => ∃ (k : Nat) (acc : List Ef), k ≤ l.length ∧ i = .int .i64 k ∧ Hid (OwnS LE wr w.heap.size s acc) ∧ Hid (acc ++ sentOf (l.drop k) key now = sentOf l key now) ∧ acc.length = k ∧ Hid (Below w.heap.size w wr)) (fun _ i _ => l.length - (intOf i).toNat)
      case atStart => exact ⟨0, [], Nat.zero_le _, rfl, O0, Lib.hid rfl, rfl, B0⟩
      case round =>
        clear O0 B0 B1
        obtain ⟨k, acc, hk, rfl, HO, HS, hac, hbw⟩ := hrel
        have hbw := hbw.out
        by_cases hlt : k < l.length
        · have HN := Lib.hid (HS.out.symm.trans (by rw [sentOf_drop hlt key]))
          obtain ⟨_, _, ⟨t1, t2⟩, _⟩ := H1.out _ (List.getElem_mem hlt)
          obtain ⟨b, o, rfl, hb, ld, hrest⟩ := (H.out.below hbw).ef k hlt
          have R := Lib.hid (Row.new wr (efC l[k]) 27)
          have ld2 := ld_row R.out
          obtain ⟨c0, _, c2, _, c4, _⟩ := R.out.c
          have OW := Lib.hid (HO.out.alloc (Obj.cells (efC l[k]) 27))
          have BW := Lib.hid (hbw.alloc hbw.size (.cells (efC l[k]) 27))
          have hlen : ∀ y : Ef, acc.length + [y].length ≤ 10000000 := fun y => by simp; omega
          have hbs := BW.out.size
          have CB := Lib.hid (fun w => refBackoff_any l[k].tries w)
          obtain ⟨m1, m2⟩ := backN_in l[k].tries
          clear HS hrest
          generalize l[k] = y at *
          cases hd : (y.key == key) with
          | false =>
            rw [hd] at HN
            go_wp2_with (at_builtin; go_must (refine wpList_append_sl LE_ok rfl _ _ rfl w.heap.size _ acc [y] rfl (OW.out.alloc _) _ 1 rfl (ef_one _ _ (by simp) y) (hlen y) (Nat.le_trans hbs (by simp)) ?_))
            rintro v2 w2 o2 g2
            have b2 := Lib.hid ((BW.out.alloc hbs (Obj.cells (efC y) 27)).grown g2 (Nat.le_trans hbs (by simp)) OW.out.row)
            have O2 := Lib.hid o2
            clear o2 g2
            go_wp2_with fail
            go_roundw
            case rel => exact ⟨k + 1, acc ++ [y], hlt, by go_num, O2, Lib.hid (by rw [HN.out]; simp), by simp; omega, b2⟩
            case measure => simp [intOf]; omega
          | true =>
            rw [hd] at HN
            go_wp2_with fail
            refine (CB.out _).mono ?_
            rintro x w3 ⟨rfl, rfl⟩
            have BW0 := Lib.hid ((Below.refl wr.heap.size wr).alloc (Nat.le_refl _) (Obj.cells (efC y) 27))
            obtain ⟨_, _, f2, _, f4, _⟩ := R.out.f
            clear ld ld2 CB OW BW
            generalize wr.alloc (Obj.cells (efC y) 27) = W at *
            by_cases hc : 1099511627776 < now + backN y.tries
            · by_cases hT : y.tries < 1000000
              ·
                have r1 : Row (W.setCell ⟨wr.heap.size, 2, none⟩ (.int .i64 (now + backN y.tries))) wr.heap.size 27 (efC ⟨y.key, y.batch, now + backN y.tries, y.kind, y.tries, y.order⟩) := R.out.set 2 _
                obtain ⟨_, _, p2, _, p4, _⟩ := r1.c
                obtain ⟨_, _, q2, _, q4, _⟩ := r1.f
                have r2 : Row ((W.setCell ⟨wr.heap.size, 2, none⟩ (.int .i64 (now + backN y.tries))).setCell ⟨wr.heap.size, 2, none⟩ (.int .i64 1099511627776)) wr.heap.size 27 (efC ⟨y.key, y.batch, 1099511627776, y.kind, y.tries, y.order⟩) := r1.set 2 _
                obtain ⟨_, _, p2b, _, p4b, _⟩ := r2.c
                obtain ⟨_, _, q2b, _, q4b, _⟩ := r2.f
                have r3 : Row (((W.setCell ⟨wr.heap.size, 2, none⟩ (.int .i64 (now + backN y.tries))).setCell ⟨wr.heap.size, 2, none⟩ (.int .i64 1099511627776)).setCell ⟨wr.heap.size, 4, none⟩ (.int .i64 (y.tries + 1))) wr.heap.size 27 (efC ⟨y.key, y.batch, 1099511627776, y.kind, y.tries + 1, y.order⟩) := r2.set 4 _
                have HZ := Lib.hid (show bumpE now y = ⟨y.key, y.batch, 1099511627776, y.kind, y.tries + 1, y.order⟩ by simp only [bumpE]; rw [if_pos hc, if_pos hT])
                have ldz := ld_row r3
                have BX := Lib.hid (show Below wr.heap.size wr (((W.setCell ⟨wr.heap.size, 2, none⟩ (.int .i64 (now + backN y.tries))).setCell ⟨wr.heap.size, 2, none⟩ (.int .i64 1099511627776)).setCell ⟨wr.heap.size, 4, none⟩ (.int .i64 (y.tries + 1))) from (((BW0.out.setCell (Nat.le_refl _) _).setCell (Nat.le_refl _) _).setCell (Nat.le_refl _) _))
                generalize (⟨y.key, y.batch, 1099511627776, y.kind, y.tries + 1, y.order⟩ : Ef) = Z at *
                go_wp2_with (at_builtin; go_must (refine wpList_append_sl LE_ok rfl _ _ rfl w.heap.size _ acc [Z] rfl ((HO.out.below BX.out).alloc _) _ 1 rfl (ef_one _ _ (by simp) Z) (hlen Z) (Nat.le_trans (Nat.le_trans hbw.size BX.out.size) (by simp)) ?_))
                rintro v2 w2 o2 g2
                have b2 := Lib.hid (((hbw.trans (BX.out.mono hbw.size)).alloc (Nat.le_trans hbw.size BX.out.size) (Obj.cells (efC Z) 27)).grown g2 (Nat.le_trans (Nat.le_trans hbw.size BX.out.size) (by simp)) HO.out.row)
                have O2 := Lib.hid o2
                clear o2 g2
                go_wp2_with fail
                go_roundw
                case rel => exact ⟨k + 1, acc ++ [Z], hlt, by go_num, O2, Lib.hid (by rw [HN.out, HZ.out]; simp), by simp; omega, b2⟩
                case measure => simp [intOf]; omega
              ·
                have r1 : Row (W.setCell ⟨wr.heap.size, 2, none⟩ (.int .i64 (now + backN y.tries))) wr.heap.size 27 (efC ⟨y.key, y.batch, now + backN y.tries, y.kind, y.tries, y.order⟩) := R.out.set 2 _
                obtain ⟨_, _, p2, _, p4, _⟩ := r1.c
                obtain ⟨_, _, q2, _, q4, _⟩ := r1.f
                have r2 : Row ((W.setCell ⟨wr.heap.size, 2, none⟩ (.int .i64 (now + backN y.tries))).setCell ⟨wr.heap.size, 2, none⟩ (.int .i64 1099511627776)) wr.heap.size 27 (efC ⟨y.key, y.batch, 1099511627776, y.kind, y.tries, y.order⟩) := r1.set 2 _
                have p2b : _ = some (Value.int .i64 1099511627776) := r2.cell 2
                have p4b : _ = some (Value.int .i64 y.tries) := r2.cell 4
                obtain ⟨_, _, q2b, _, q4b, _⟩ := r2.f
                have HZ := Lib.hid (show bumpE now y = ⟨y.key, y.batch, 1099511627776, y.kind, y.tries, y.order⟩ by simp only [bumpE]; rw [if_pos hc, if_neg hT])
                have ldz := ld_row r2
                have BX := Lib.hid (show Below wr.heap.size wr ((W.setCell ⟨wr.heap.size, 2, none⟩ (.int .i64 (now + backN y.tries))).setCell ⟨wr.heap.size, 2, none⟩ (.int .i64 1099511627776)) from ((BW0.out.setCell (Nat.le_refl _) _).setCell (Nat.le_refl _) _))
                generalize (⟨y.key, y.batch, 1099511627776, y.kind, y.tries, y.order⟩ : Ef) = Z at *
                go_wp2_with (at_builtin; go_must (refine wpList_append_sl LE_ok rfl _ _ rfl w.heap.size _ acc [Z] rfl ((HO.out.below BX.out).alloc _) _ 1 rfl (ef_one _ _ (by simp) Z) (hlen Z) (Nat.le_trans (Nat.le_trans hbw.size BX.out.size) (by simp)) ?_))
                rintro v2 w2 o2 g2
                have b2 := Lib.hid (((hbw.trans (BX.out.mono hbw.size)).alloc (Nat.le_trans hbw.size BX.out.size) (Obj.cells (efC Z) 27)).grown g2 (Nat.le_trans (Nat.le_trans hbw.size BX.out.size) (by simp)) HO.out.row)
                have O2 := Lib.hid o2
                clear o2 g2
                go_wp2_with fail
                go_roundw
                case rel => exact ⟨k + 1, acc ++ [Z], hlt, by go_num, O2, Lib.hid (by rw [HN.out, HZ.out]; simp), by simp; omega, b2⟩
                case measure => simp [intOf]; omega
            · by_cases hT : y.tries < 1000000
              ·
                have r1 : Row (W.setCell ⟨wr.heap.size, 2, none⟩ (.int .i64 (now + backN y.tries))) wr.heap.size 27 (efC ⟨y.key, y.batch, now + backN y.tries, y.kind, y.tries, y.order⟩) := R.out.set 2 _
                obtain ⟨_, _, p2, _, p4, _⟩ := r1.c
                obtain ⟨_, _, q2, _, q4, _⟩ := r1.f
                have r3 : Row ((W.setCell ⟨wr.heap.size, 2, none⟩ (.int .i64 (now + backN y.tries))).setCell ⟨wr.heap.size, 4, none⟩ (.int .i64 (y.tries + 1))) wr.heap.size 27 (efC ⟨y.key, y.batch, (now + backN y.tries), y.kind, y.tries + 1, y.order⟩) := r1.set 4 _
                have HZ := Lib.hid (show bumpE now y = ⟨y.key, y.batch, (now + backN y.tries), y.kind, y.tries + 1, y.order⟩ by simp only [bumpE]; rw [if_neg hc, if_pos hT])
                have ldz := ld_row r3
                have BX := Lib.hid (show Below wr.heap.size wr ((W.setCell ⟨wr.heap.size, 2, none⟩ (.int .i64 (now + backN y.tries))).setCell ⟨wr.heap.size, 4, none⟩ (.int .i64 (y.tries + 1))) from ((BW0.out.setCell (Nat.le_refl _) _).setCell (Nat.le_refl _) _))
                generalize (⟨y.key, y.batch, (now + backN y.tries), y.kind, y.tries + 1, y.order⟩ : Ef) = Z at *
                go_wp2_with (at_builtin; go_must (refine wpList_append_sl LE_ok rfl _ _ rfl w.heap.size _ acc [Z] rfl ((HO.out.below BX.out).alloc _) _ 1 rfl (ef_one _ _ (by simp) Z) (hlen Z) (Nat.le_trans (Nat.le_trans hbw.size BX.out.size) (by simp)) ?_))
                rintro v2 w2 o2 g2
                have b2 := Lib.hid (((hbw.trans (BX.out.mono hbw.size)).alloc (Nat.le_trans hbw.size BX.out.size) (Obj.cells (efC Z) 27)).grown g2 (Nat.le_trans (Nat.le_trans hbw.size BX.out.size) (by simp)) HO.out.row)
                have O2 := Lib.hid o2
                clear o2 g2
                go_wp2_with fail
                go_roundw
                case rel => exact ⟨k + 1, acc ++ [Z], hlt, by go_num, O2, Lib.hid (by rw [HN.out, HZ.out]; simp), by simp; omega, b2⟩
                case measure => simp [intOf]; omega
              ·
                have r1 : Row (W.setCell ⟨wr.heap.size, 2, none⟩ (.int .i64 (now + backN y.tries))) wr.heap.size 27 (efC ⟨y.key, y.batch, now + backN y.tries, y.kind, y.tries, y.order⟩) := R.out.set 2 _
                have p2 : _ = some (Value.int .i64 (now + backN y.tries)) := r1.cell 2
                have p4 : _ = some (Value.int .i64 y.tries) := r1.cell 4
                obtain ⟨_, _, q2, _, q4, _⟩ := r1.f
                have HZ := Lib.hid (show bumpE now y = ⟨y.key, y.batch, (now + backN y.tries), y.kind, y.tries, y.order⟩ by simp only [bumpE]; rw [if_neg hc, if_neg hT])
                have ldz := ld_row r1
                have BX := Lib.hid (show Below wr.heap.size wr (W.setCell ⟨wr.heap.size, 2, none⟩ (.int .i64 (now + backN y.tries))) from (BW0.out.setCell (Nat.le_refl _) _))
                generalize (⟨y.key, y.batch, (now + backN y.tries), y.kind, y.tries, y.order⟩ : Ef) = Z at *
                go_wp2_with (at_builtin; go_must (refine wpList_append_sl LE_ok rfl _ _ rfl w.heap.size _ acc [Z] rfl ((HO.out.below BX.out).alloc _) _ 1 rfl (ef_one _ _ (by simp) Z) (hlen Z) (Nat.le_trans (Nat.le_trans hbw.size BX.out.size) (by simp)) ?_))
                rintro v2 w2 o2 g2
                have b2 := Lib.hid (((hbw.trans (BX.out.mono hbw.size)).alloc (Nat.le_trans hbw.size BX.out.size) (Obj.cells (efC Z) 27)).grown g2 (Nat.le_trans (Nat.le_trans hbw.size BX.out.size) (by simp)) HO.out.row)
                have O2 := Lib.hid o2
                clear o2 g2
                go_wp2_with fail
                go_roundw
                case rel => exact ⟨k + 1, acc ++ [Z], hlt, by go_num, O2, Lib.hid (by rw [HN.out, HZ.out]; simp), by simp; omega, b2⟩
                case measure => simp [intOf]; omega
        · have HL := Lib.hid (show sentOf l key now = acc by rw [← HS.out, List.drop_eq_nil_of_le (by omega)]; exact List.append_nil _)
          go_wp2_with fail
          go_ret2
          exact ⟨_, by rw [HE.out.2]; rfl, by rw [HE.out.1, HL.out]; exact HO.out, hbw⟩

end Go.Proofs.Ytciijkognhdddaa
