/- The document's bytes of an outbox. -/
import Derived.Test.YtciijkognhdddaaObPut
namespace Go.Proofs.Ytciijkognhdddaa
set_option maxRecDepth 100000
open Go.RowKit Go.ChangeShapes Go.WideShapes Go.ChangeAt
attribute [local go_sem ↓] ldEf stEf alEf bxEf eqEf bdEf bsEf
attribute [local go_sem] al_ef bx_ef st_new bd_ef bs_ef bs_ef0

/-- An effect's numbers in a block, the effect in a variable, the bytes so far. -/
structure NumI (w : World) (X : Nat) (e : Ef) (ns : List Nat) (acc : List Nat) (v : Value) (W : World) : Prop where
  put : PutI w X e acc v W
  num : Row W (X + 1) 2 (ns.map fun n : Nat => Value.int .i64 (n : Int)).toArray
theorem NumI.below {w W W' : World} {X : Nat} {e : Ef} {ns acc : List Nat} {v : Value} (h : NumI w X e ns acc v W) (bl : Below W.heap.size W W') : NumI w X e ns acc v W' := ⟨h.put.below bl, h.num.below bl⟩
theorem NumI.more {w W W' : World} {X : Nat} {e : Ef} {ns acc acc' : List Nat} {v v' : Value} (h : NumI w X e ns acc v W) (own : OwnB W' w.heap.size v' acc') (g : W.grownBy W' v.ownBlock) : NumI w X e ns acc' v' W' := ⟨h.put.put own g, h.num.own h.put.own (by decide) g⟩

set_option maxHeartbeats 4000000 in
theorem refBytes_any13 (oa : Option Addr) (oc : Nat) (l : List Ef) (w : World) (hO : SlP LE w oa oc l) (hr : rightE l = true) (hm : l.length ≤ 100) :
    Calls Try.prog 29 #[.slice oa l.length oc] w (OwnPost (boxL l) w) := by
  have HO := Lib.hid hO
  have hoc := hO.cap
  have HR := Lib.hid (fun e he => ((rightE_iff l).1 hr).1 e he)
  have hn2 : IntKind.u64.wrap (l.length : Int) = (l.length : Int) := by rw [IntKind.wrap_u64]; omega
  have C0 := Lib.hid (fun W => refNumber_any l.length W (by omega))
  have hy0l := numL_ten (show l.length < 18446744073709551616 by omega)
  have HF := Lib.hid (show boxL l = numL l.length ++ effsL l from rfl)
  clear hO hr
  generalize numL l.length = y0 at *
  generalize boxL l = F at *
  go_enter Try.func29, Try.ntmps29
  go_wp2_with fail
  refine (C0.out _).mono ?_
  rintro e w2 ⟨v2, rfl, o2, b2⟩
  have O3 := Lib.hid o2
  have B3 := Lib.hid b2
  clear o2 b2
  go_wp2_with fail
  go_loopw [3, 14] (fun s i wr => ∃ (k : Nat) (acc : List Nat), k ≤ l.length ∧ i = .int .i64 k ∧ Hid (OwnB wr w.heap.size s acc) ∧ Hid (acc ++ effsL (l.drop k) = F) ∧ acc.length ≤ 1010 + 92 * k ∧ Hid (Below w.heap.size w wr)) (fun _ i _ => l.length - (intOf i).toNat)
  case atStart => exact ⟨0, y0, Nat.zero_le _, rfl, O3, Lib.hid (by rw [HF.out]; rfl), by omega, B3⟩
  case round =>
    clear O3 B3 HF
    obtain ⟨k, acc, hk, rfl, HW, HS, hac, hbw⟩ := hrel
    by_cases hlt : k < l.length
    · obtain ⟨b, o, rfl, hb, ld, hrest⟩ := (HO.out.below hbw.out).ef k hlt
      have h1 := HR.out _ (List.getElem_mem hlt)
      have hel := effL_len h1
      have HN := Lib.hid (HS.out.symm.trans (by rw [effsL_drop hlt, ← List.append_assoc]))
      have P0 : Hid (PutI w wr.heap.size l[k] acc u3 (wr.alloc (.cells (efC l[k]) 27))) := Lib.hid ⟨own_alloc HW.out _, Row.new _ _ _, hbw.out.alloc hbw.out.size _⟩
      clear hrest HS HW hbw
      generalize l[k] = y at *
      obtain ⟨r1, r2, r3, r4, r5, r6⟩ := oneB_of h1
      obtain ⟨m1, e1⟩ : ∃ m : Nat, y.key = (m : Int) := ⟨y.key.toNat, by omega⟩
      obtain ⟨m2, e2⟩ : ∃ m : Nat, y.kind = (m : Int) := ⟨y.kind.toNat, by omega⟩
      obtain ⟨m3, e3⟩ : ∃ m : Nat, y.tries = (m : Int) := ⟨y.tries.toNat, by omega⟩
      obtain ⟨m4, e4⟩ : ∃ m : Nat, y.due = (m : Int) := ⟨y.due.toNat, by omega⟩
      obtain ⟨m5, e5⟩ : ∃ m : Nat, y.batch = (m : Int) := ⟨y.batch.toNat, by omega⟩
      have HNS := Lib.hid (show ∀ n ∈ [m1, m2, m3, m4, m5], n ≤ 1099511627776 by
        intro n hn
        simp only [List.mem_cons, List.not_mem_nil, or_false] at hn
        rcases hn with rfl | rfl | rfl | rfl | rfl <;> omega)
      have he2 : effL y = numsL [m1, m2, m3, m4, m5] ++ textL y.order := by
        have := effL_two y m1 m2 m3 m4 m5 (by omega) (by omega) (by omega) (by omega) (by omega)
        simpa [textsL] using this
      obtain ⟨c0, c1, c2, c3, c4, c5⟩ := P0.out.row.c
      rw [e1] at c0
      rw [e5] at c1
      rw [e4] at c2
      rw [e2] at c3
      rw [e3] at c4
      have N0 : Hid (NumI w wr.heap.size y [m1, m2, m3, m4, m5] acc u3 ((wr.alloc (.cells (efC y) 27)).alloc (.cells #[.int .i64 (m1 : Int), .int .i64 (m2 : Int), .int .i64 (m3 : Int), .int .i64 (m4 : Int), .int .i64 (m5 : Int)] 2))) := Lib.hid ⟨P0.out.below ((Below.refl _ _).alloc (Nat.le_refl _) _), by
        have := Row.new (wr.alloc (.cells (efC y) 27)) #[.int .i64 (m1 : Int), .int .i64 (m2 : Int), .int .i64 (m3 : Int), .int .i64 (m4 : Int), .int .i64 (m5 : Int)] 2
        rwa [show (wr.alloc (.cells (efC y) 27)).heap.size = wr.heap.size + 1 by simp] at this⟩
      have HT := Lib.hid (fun W => refText_any y.order W (by omega))
      have YT := Lib.hid (textL_bytes y.order)
      have hnl : [m1, m2, m3, m4, m5].length = 5 := rfl
      rw [he2, List.length_append] at hel
      rw [he2] at HN
      clear h1 r1 r2 r3 r4 r5 r6 e1 e2 e3 e4 e5 he2 P0
      generalize textL y.order = yt at *
      go_wp2_with fail
      clear c0 c1 c2 c3 c4 c5 ld
      generalize (wr.alloc (.cells (efC y) 27)).alloc (.cells #[.int .i64 (m1 : Int), .int .i64 (m2 : Int), .int .i64 (m3 : Int), .int .i64 (m4 : Int), .int .i64 (m5 : Int)] 2) = W1 at *
      generalize [m1, m2, m3, m4, m5] = ns at *
      generalize wr.heap.size = X at *
      go_loopw [3, 30] (fun s j wq => ∃ (i : Nat) (ac : List Nat), i ≤ 5 ∧ j = .int .i64 i ∧ Hid (NumI w X y ns ac s wq) ∧ Hid (ac ++ numsL (ns.drop i) = acc ++ numsL ns) ∧ ac.length ≤ acc.length + 10 * i) (fun _ j _ => 5 - (intOf j).toNat)
      case atStart => exact ⟨0, acc, Nat.zero_le _, rfl, N0, Lib.hid rfl, by omega⟩
      case round =>
        clear N0
        obtain ⟨i, ac, hi, rfl, NI, HQ, hacc⟩ := hrel
        cases hlt2 : decide ((i : Int) < 5) with
        | true =>
          have hit : i < ns.length := by simp at hlt2; omega
          have ct := NI.out.num.nth i hit
          have hx := HNS.out _ (List.getElem_mem hit)
          have HD := Lib.hid (numsL_drop hit)
          generalize ns[i] = x at *
          have ex : IntKind.u64.wrap (x : Int) = (x : Int) := by rw [IntKind.wrap_u64]; omega
          have C1 := Lib.hid (fun W => refNumber_any x W (by omega))
          have hyl := numL_ten (show x < 18446744073709551616 by omega)
          have YB := Lib.hid (numL_bytes x)
          have HM := Lib.hid (show (ac ++ numL x) ++ numsL (ns.drop (i + 1)) = acc ++ numsL ns by rw [← HQ.out, HD.out, List.append_assoc])
          have hi5 : i < 5 := by omega
          clear HD HQ hx
          generalize numL x = z at *
          go_wp2_with fail
          refine (C1.out _).mono ?_
          rintro e x1 ⟨q1', rfl, q1, b1⟩
          obtain ⟨a1, p1, e1, h1⟩ := q1.bytes YB.out
          subst e1
          have D1 := Lib.hid (NI.out.below b1)
          have H1 := Lib.hid h1
          have hs1 : ac.length + z.length ≤ 10000000 := by omega
          have hw1 := D1.out.put.low.size
          clear q1 b1 h1 NI ct
          go_wp2_with (at_builtin; go_must (refine wpList_append_bytes rfl _ _ rfl w.heap.size _ ac z rfl D1.out.put.own a1 p1 rfl H1.out hs1 hw1 ?_))
          rintro v3 w3 o3 g3
          have D3 := Lib.hid (D1.out.more o3 g3)
          clear o3 g3 D1 H1
          go_wp2_with fail
          go_roundw
          case rel => exact ⟨i + 1, ac ++ z, by omega, by go_num, D3, HM, by rw [List.length_append]; omega⟩
          case measure => simp [intOf]; omega
        | false =>
          have HE := Lib.hid (show ac = acc ++ numsL ns by
            have hlt' : ¬ i < 5 := by simp at hlt2; omega
            have := HQ.out
            rw [List.drop_eq_nil_of_le (by omega)] at this
            simpa [numsL] using this)
          obtain ⟨_, _, _, _, _, c5⟩ := NI.out.put.row.c
          have hacl : ac.length ≤ acc.length + 50 := by omega
          go_wp2_with fail
          refine (HT.out _).mono ?_
          rintro e x1 ⟨q1', rfl, q1, b1⟩
          obtain ⟨a1, p1, e1, h1⟩ := q1.bytes YT.out
          subst e1
          have D1 := Lib.hid (NI.out.below b1)
          have H1 := Lib.hid h1
          have hs1 : ac.length + yt.length ≤ 10000000 := by omega
          have hw1 := D1.out.put.low.size
          clear q1 b1 h1 NI c5
          go_wp2_with (at_builtin; go_must (refine wpList_append_bytes rfl _ _ rfl w.heap.size _ ac yt rfl D1.out.put.own a1 p1 rfl H1.out hs1 hw1 ?_))
          rintro v3 w3 o3 g3
          have D3 := Lib.hid (D1.out.more o3 g3)
          clear o3 g3 D1 H1
          have HG := Lib.hid (show (ac ++ yt) ++ effsL (l.drop (k + 1)) = F by rw [HE.out, HN.out]; simp only [List.append_assoc])
          have hlen := HE.out
          have hlen2 : ac.length = acc.length + (numsL ns).length := by rw [hlen, List.length_append]
          clear hlen
          go_wp2_with fail
          go_roundw
          case rel => exact ⟨k + 1, ac ++ yt, hlt, by go_num, Lib.hid D3.out.put.own, HG, by rw [List.length_append]; omega, Lib.hid D3.out.put.low⟩
          case measure => simp [intOf]; omega
    · have HE := Lib.hid (show F = acc by rw [← HS.out, List.drop_eq_nil_of_le (by omega)]; exact List.append_nil _)
      go_wp2_with fail
      go_ret
      exact ⟨_, rfl, by rw [HE.out]; exact HW.out, hbw.out⟩

end Go.Proofs.Ytciijkognhdddaa
