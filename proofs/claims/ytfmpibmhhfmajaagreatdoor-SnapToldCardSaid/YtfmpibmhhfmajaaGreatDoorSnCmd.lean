/- What Command of package snap answers, of a command that can be. -/
import Derived.Test.YtfmpibmhhfmajaaGreatDoorSnLines
import Derived.Test.YtfmpibmhhfmajaaGreatDoorSnKinds
import Derived.Test.YtfmpibmhhfmajaaGreatDoorSnLay
import Derived.Test.YtfmpibmhhfmajaaGreatDoorMgStates
import Derived.Deep.DeepCutAuto
import Derived.Deep.QuietTactic
import Derived.Test.YtfmpibmhhfmajaaGreatDoorSnRef4
namespace Go.Proofs.YtfmpibmhhfmajaaGreatDoor
set_option maxRecDepth 100000
open Go.RowKit Go.ChangeShapes Go.WideShapes Go.ChangeAt
attribute [local go_sem ↓] ldCm stCm alCm bxCm bdCm ldGr bxGr eqGr ldPt stPt alPt bdPt
attribute [local go_sem] al_cm bx_cm st_cmnew bd_cm bd_cmKind bx_gr ne_gr eq_grX al_pt st_ptnew bd_pt

/-- A command in its variable, what its kind has in another, the bytes so far. -/
structure CpI (w : World) (r : CmR) (g : Nat) (p : Pt) (acc : List Nat) (v : Value) (W : World) : Prop where
  one : Row W w.heap.size 26 (cmC r)
  pt : Row W g 61 (ptC p)
  st : CmP W r
  low : Below w.heap.size w W
  own : OwnB W (g + 1) v acc
  hg : w.heap.size < g
  few : g + 1 ≤ W.heap.size
theorem CpI.below {w W W' : World} {r : CmR} {g : Nat} {p : Pt} {acc : List Nat} {v : Value} (h : CpI w r g p acc v W) (b : Below W.heap.size W W') : CpI w r g p acc v W' := ⟨h.one.below b, h.pt.below b, h.st.below b, h.low.trans (b.mono h.low.size), h.own.below b, h.hg, Nat.le_trans h.few b.size⟩
theorem CpI.new {w W W' : World} {r : CmR} {g : Nat} {p : Pt} {acc acc' : List Nat} {v v' : Value} (h : CpI w r g p acc v W) (b : Below W.heap.size W W') (o : OwnB W' W.heap.size v' acc') : CpI w r g p acc' v' W' := ⟨h.one.below b, h.pt.below b, h.st.below b, h.low.trans (b.mono h.low.size), o.base h.few, h.hg, Nat.le_trans h.few b.size⟩
theorem CpI.put {w W W' : World} {r : CmR} {g : Nat} {p : Pt} {acc acc' : List Nat} {v v' : Value} (h : CpI w r g p acc v W) (own : OwnB W' (g + 1) v' acc') (gr : W.grownBy W' v.ownBlock) (was : CmP w r) : CpI w r g p acc' v' W' := by
  have hr := h.own.row
  have hg := h.hg
  have hl : Below w.heap.size w W' := h.low.grown gr h.low.size (fun k hk => by have := hr k hk; omega)
  exact ⟨(gr.block _ h.one.lt (fun e => by have := hr _ e.symm; omega)).trans h.one, (gr.block _ h.pt.lt (fun e => by have := hr _ e.symm; omega)).trans h.pt, was.below hl, hl, own, hg, Nat.le_trans h.few gr.size⟩
theorem CpI.begin {w W1 w1 : World} {r : CmR} {p : Pt} (hR : Row W1 w.heap.size 26 (cmC r)) (hP : CmP W1 r) (hB : Below w.heap.size w W1) (b1 : Below W1.heap.size W1 w1) : CpI w r w1.heap.size p [] (.slice none 0 0) (w1.alloc (.cells (ptC p) 61)) := by
  have b := (Below.refl w1.heap.size w1).alloc (Nat.le_refl _) (.cells (ptC p) 61)
  have b2 := hB.trans (b1.mono hB.size)
  have h1 := hR.lt
  have h2 := b1.size
  exact ⟨(hR.below b1).below b, Row.new _ _ _, (hP.below b1).below b, b2.trans (b.mono b2.size), own_nil _ _, by omega, by simp⟩
theorem CpI.more {w W : World} {r : CmR} {g : Nat} {p : Pt} {acc : List Nat} {v : Value} (h : CpI w r g p acc v W) (o : Obj) : CpI w r g p acc v (W.alloc o) := h.below ((Below.refl _ _).alloc (Nat.le_refl _) _)
theorem more_below {W W' : World} {o : Obj} (b : Below (W.alloc o).heap.size (W.alloc o) W') : Below W.heap.size W W' := ((Below.refl W.heap.size W).alloc (Nat.le_refl _) o).trans (b.mono (by simp))
theorem u64_small {n : Int} (h : 0 ≤ n) (h2 : n < 9223372036854775808) : ∃ k : Nat, n.toNat = k ∧ IntKind.u64.wrap n = (k : Int) ∧ k < 9223372036854775808 := ⟨n.toNat, rfl, by rw [IntKind.wrap_u64]; omega, by omega⟩
/-- A number, a text behind what is there. -/
theorem num_to {W : World} {a : Option Addr} {c : Nat} {L L2 : List Nat} {n : Nat} (h : BytesP W a c L) (hl : L.length ≤ 5000) (hn : n < 9223372036854775808) (e : L ++ numL n = L2) :
    Calls Tryz.prog 46 #[.slice a L.length c, .slice (some ⟨W.heap.size, 0, none⟩) 1 1] (W.alloc (Obj.cells #[Value.int IntKind.u64 (n : Int)] 74)) (OwnPost L2 (W.alloc (Obj.cells #[Value.int IntKind.u64 (n : Int)] 74))) := by
  have := number_any a (some ⟨W.heap.size, 0, none⟩) c 1 L [n] _ (h.below ((Below.refl _ W).alloc (Nat.le_refl _) (Obj.cells #[Value.int IntKind.u64 (n : Int)] 74))) (nums_one n (by omega) W) (by omega) (by simp)
  rw [show numsL [n] = numL n by simp [numsL], e] at this
  exact this
theorem num_first (W : World) (N : Nat) (hN : W.heap.size = N) {L2 : List Nat} {n : Nat} (hn : n < 9223372036854775808) (e : ([] : List Nat) ++ numL n = L2) :
    Calls Tryz.prog 46 #[.slice none 0 0, .slice (some ⟨N, 0, none⟩) 1 1] (W.alloc (Obj.cells #[Value.int IntKind.u64 (n : Int)] 74)) (OwnPost L2 (W.alloc (Obj.cells #[Value.int IntKind.u64 (n : Int)] 74))) := by
  subst hN
  have := num_to (W := W) (a := none) (c := 0) (L := []) (BytesP.nil W none 0) (by simp) hn e
  exact this
theorem text_to {W : World} {a : Option Addr} {c : Nat} {L L2 : List Nat} {s : ByteArray} (h : BytesP W a c L) (hl : L.length ≤ 5000) (hn : s.size ≤ 32) (e : L ++ textL s = L2) :
    Calls Tryz.prog 47 #[.slice a L.length c, .slice (some ⟨W.heap.size, 0, none⟩) 1 1] (W.alloc (Obj.cells #[Value.string s] 9)) (OwnPost L2 (W.alloc (Obj.cells #[Value.string s] 9))) := by
  have := text_any a (some ⟨W.heap.size, 0, none⟩) c 1 L [s] _ (h.below ((Below.refl _ W).alloc (Nat.le_refl _) (Obj.cells #[Value.string s] 9))) (strs_one s W) (by omega) (by simp) (by intro x hx; simp at hx; subst hx; omega)
  rw [show textsL [s] = textL s by simp [textsL], e] at this
  exact this
theorem texts_to {W : World} {a : Option Addr} {c : Nat} {L L2 : List Nat} {s t u : ByteArray} (h : BytesP W a c L) (hl : L.length ≤ 5000) (h1 : s.size ≤ 32) (h2 : t.size ≤ 32) (h3 : u.size ≤ 32) (e : L ++ (textL s ++ (textL t ++ textL u)) = L2) :
    Calls Tryz.prog 47 #[.slice a L.length c, .slice (some ⟨W.heap.size, 0, none⟩) 3 3] (W.alloc (Obj.cells #[Value.string s, Value.string t, Value.string u] 9)) (OwnPost L2 (W.alloc (Obj.cells #[Value.string s, Value.string t, Value.string u] 9))) := by
  have := text_any a (some ⟨W.heap.size, 0, none⟩) c 3 L [s, t, u] _ (h.below ((Below.refl _ W).alloc (Nat.le_refl _) (Obj.cells #[Value.string s, Value.string t, Value.string u] 9))) (strs_three s t u W) (by omega) (by simp) (by intro x hx; simp at hx; rcases hx with rfl | rfl | rfl <;> omega)
  rw [show textsL [s, t, u] = textL s ++ (textL t ++ textL u) by simp [textsL], e] at this
  exact this

set_option maxHeartbeats 8000000 in
theorem commandA (r : CmR) (w : World) (hkd : KdAt w) (h : CmP w r) (hr : rightC r.m = true) (hk : r.m.kind = 1) : Calls Tryz.prog 17 #[cmV r] w (OwnPost (commandL r.m) w) := by
  have HC := Lib.hid h
  have hp : ptOf r.m.kind = ⟨true, true, true, true, false, 0⟩ := by rw [hk]; rfl
  have hkk := rightC_kind hr
  have hfit := (rightC_of hr).2
  obtain ⟨kn, hkn, wkn, lkn⟩ := u64_small (n := r.m.kind) (by omega) (by omega)
  simp only [fitsC, hk, if_true, Bool.and_eq_true, tallyB, decide_eq_true_eq] at hfit
  obtain ⟨f1, f2, f3, f4⟩ := hfit
  obtain ⟨f5, f6, f7⟩ := groupB_of f3
  obtain ⟨⟨_, hln⟩, hls, _⟩ := (rightLB_iff _).1 f2
  have hi := right_32 f1
  have hg1 := right_32 f5
  have hg2 := right_32 f6
  have hg3 := right_32 f7
  obtain ⟨tn, htn, wtn, ltn⟩ := u64_small (n := r.m.total) (by omega) (by omega)
  have hxl : (numL r.m.ls.length ++ linesL r.m.ls).length ≤ 1000 := by
    have t1 := numL_ten (show r.m.ls.length < 18446744073709551616 by omega)
    have t2 := linesL_len _ hls
    rw [List.length_append]
    omega
  clear f1 f2 f3 f4 f5 f6 f7
  obtain ⟨LX, hLX⟩ : ∃ L, numL r.m.ls.length ++ linesL r.m.ls = L := ⟨_, rfl⟩
  rw [hLX] at hxl
  have CL : Hid (∀ W, CmP W r → Calls Tryz.prog 48 #[.slice r.a r.m.ls.length r.c] W (OwnPost LX W)) := Lib.hid (fun W hW => by rw [← hLX]; exact linesBytes_any r.a r.c r.m.ls W hW.lns hls hln)
  have YX : Hid (Bytes LX) := Lib.hid (by rw [← hLX]; exact bytes_app (numL_bytes _) (linesL_bytes _))
  clear hls hln
  have HF := Lib.hid (show commandL r.m = numL kn ++ (textL r.m.id ++ (LX ++ ((textL r.m.car ++ (textL r.m.zone ++ textL r.m.serv)) ++ numL tn))) by simp [commandL, restL, hk, ← hkn, ← htn, ← hLX])
  obtain ⟨L1, hL1⟩ : ∃ L, ([] : List Nat) ++ numL kn = L := ⟨_, rfl⟩
  have l1 : L1.length ≤ 10 := by rw [← hL1, List.nil_append]; exact numL_ten (by omega)
  have Y1 : Hid (Bytes L1) := Lib.hid (by rw [← hL1, List.nil_append]; exact numL_bytes _)
  have e1 := Lib.hid hL1
  obtain ⟨L2, hL2⟩ : ∃ L, L1 ++ textL r.m.id = L := ⟨_, rfl⟩
  have l2 : L2.length ≤ 52 := by have t1 := textL_32 hi; rw [← hL2]; simp only [List.length_append] at *; omega
  have Y2 : Hid (Bytes L2) := Lib.hid (by rw [← hL2]; exact bytes_app Y1.out (textL_bytes _))
  have e2 := Lib.hid hL2
  obtain ⟨L3, hL3⟩ : ∃ L, L2 ++ LX = L := ⟨_, rfl⟩
  have l3 : L3.length ≤ 1052 := by have t1 := hxl; rw [← hL3]; simp only [List.length_append] at *; omega
  have Y3 : Hid (Bytes L3) := Lib.hid (by rw [← hL3]; exact bytes_app Y2.out (YX.out))
  have e3 := Lib.hid hL3
  obtain ⟨L4, hL4⟩ : ∃ L, L3 ++ (textL r.m.car ++ (textL r.m.zone ++ textL r.m.serv)) = L := ⟨_, rfl⟩
  have l4 : L4.length ≤ 1178 := by have t1 := textL_32 hg1; have t2 := textL_32 hg2; have t3 := textL_32 hg3; rw [← hL4]; simp only [List.length_append] at *; omega
  have Y4 : Hid (Bytes L4) := Lib.hid (by rw [← hL4]; exact bytes_app Y3.out (bytes_app (textL_bytes _) (bytes_app (textL_bytes _) (textL_bytes _))))
  have e4 := Lib.hid hL4
  obtain ⟨L5, hL5⟩ : ∃ L, L4 ++ numL tn = L := ⟨_, rfl⟩
  have l5 : L5.length ≤ 1188 := by have t1 := numL_ten (show tn < 18446744073709551616 by omega); rw [← hL5]; simp only [List.length_append] at *; omega
  have Y5 : Hid (Bytes L5) := Lib.hid (by rw [← hL5]; exact bytes_app Y4.out (numL_bytes _))
  have e5 := Lib.hid hL5
  have HF : Hid (commandL r.m = L5) := Lib.hid (by rw [HF.out, ← hL5, ← hL4, ← hL3, ← hL2, ← hL1]; simp)
  clear hL1 hL2 hL3 hL4 hL5
  replace l1 : L1.length ≤ 5000 := by omega
  replace l2 : L2.length ≤ 5000 := by omega
  replace l3 : L3.length ≤ 5000 := by omega
  replace l4 : L4.length ≤ 5000 := by omega
  replace l5 : L5.length ≤ 5000 := by omega
  have b0 := (Below.refl w.heap.size w).alloc (Nat.le_refl _) (.cells (cmC r) 26)
  have C0 := Lib.hid (partsOf_any r.m.kind _ (hkd.below b0))
  obtain ⟨p, hpp⟩ : ∃ p, ptOf r.m.kind = p := ⟨_, rfl⟩
  unfold PartB at C0
  rw [hpp] at C0
  rw [hp] at hpp
  have e_id : p.id = true := by rw [← hpp]
  have e_ln : p.ln = true := by rw [← hpp]
  have e_gr : p.gr = true := by rw [← hpp]
  have e_tot : p.tot = true := by rw [← hpp]
  have e_yes : p.yes = false := by rw [← hpp]
  have e_most : p.most = 0 := by rw [← hpp]
  clear hpp
  have R0 := Lib.hid (Row.new w (cmC r) 26)
  have P0 := Lib.hid (h.below b0)
  have B0 := Lib.hid b0
  have c0 := R0.out.m.1.1
  have C1 := Lib.hid (fun w1 : World => num_first (w1.alloc (.cells (ptC p) 61)) (w1.heap.size + 1) (by simp) lkn e1.out)
  clear b0 hkd h hp hk hr hkn lkn
  (try clear htn ); (try clear hun); (try clear hyn); (try clear hLX)
  go_enter Tryz.func17, Tryz.ntmps17
  go_wp2_with fail
  generalize w.alloc (.cells (cmC r) 26) = W0 at *
  refine C0.out.mono ?_
  rintro e w1 ⟨rfl, b1⟩
  have K := Lib.hid (CpI.begin (p := p) R0.out P0.out B0.out b1)
  clear b1 R0 P0 B0 C0 c0 hkk
  obtain ⟨⟨c0, c1, c2, c3, c4⟩, c5, c6, c7, c8⟩ := K.out.one.m
  obtain ⟨p0, p1, p2, p3, p4, p5⟩ := K.out.pt.pt
  go_wp2_with fail
  clear c0 c1 c2 c3 c4 c5 c6 c7 c8 p0 p1 p2 p3 p4 p5
  refine (C1.out _).mono ?_
  rintro e x1 ⟨v1, rfl, q, b⟩
  have K := Lib.hid (CpI.new K.out (more_below b) (q.base (by simp)))
  clear q b C1
  generalize w1.heap.size = g at *
  obtain ⟨⟨c0, c1, c2, c3, c4⟩, c5, c6, c7, c8⟩ := K.out.one.m
  obtain ⟨p0, p1, p2, p3, p4, p5⟩ := K.out.pt.pt
  obtain ⟨a1, q1, rfl, hb2⟩ := K.out.own.bytes Y1.out
  have HB := Lib.hid hb2
  clear hb2
  have C2 := Lib.hid (fun W (h : BytesP W a1 q1 L1) => text_to h l1 hi e2.out)
  go_wp2_with fail
  clear c0 c1 c2 c3 c4 c5 c6 c7 c8 p0 p1 p2 p3 p4 p5
  refine (C2.out _ HB.out).mono ?_
  rintro e x2 ⟨v2, rfl, q, b⟩
  have K := Lib.hid (CpI.new K.out (more_below b) (q.base (by simp)))
  clear q b HB C2
  obtain ⟨⟨c0, c1, c2, c3, c4⟩, c5, c6, c7, c8⟩ := K.out.one.m
  obtain ⟨p0, p1, p2, p3, p4, p5⟩ := K.out.pt.pt
  obtain ⟨a2, q2, rfl, hb3⟩ := K.out.own.bytes Y2.out
  have HB := Lib.hid hb3
  clear hb3
  go_wp2_with fail
  clear c0 c1 c2 c3 c4 c5 c6 c7 c8 p0 p1 p2 p3 p4 p5
  refine (CL.out _ K.out.st).mono ?_
  rintro e x3 ⟨u3, rfl, q, b⟩
  obtain ⟨ax, cx, rfl, hx⟩ := q.bytes YX.out
  have K := Lib.hid (K.out.below b)
  have HX := Lib.hid hx
  clear q b hx HB
  go_wp2_with (at_builtin; go_must (refine wpList_append_bytes rfl _ _ rfl (g + 1) _ L2 LX rfl K.out.own ax cx rfl HX.out (by have := hxl; omega) K.out.few ?_))
  rintro v3 w3 o3 g3
  rw [e3.out] at o3
  have K := Lib.hid (K.out.put o3 g3 HC.out)
  clear o3 g3 HX
  obtain ⟨⟨c0, c1, c2, c3, c4⟩, c5, c6, c7, c8⟩ := K.out.one.m
  obtain ⟨p0, p1, p2, p3, p4, p5⟩ := K.out.pt.pt
  obtain ⟨a3, q3, rfl, hb4⟩ := K.out.own.bytes Y3.out
  have HB := Lib.hid hb4
  clear hb4
  have C4 := Lib.hid (fun W (h : BytesP W a3 q3 L3) => texts_to h l3 hg1 hg2 hg3 e4.out)
  go_wp2_with fail
  clear c0 c1 c2 c3 c4 c5 c6 c7 c8 p0 p1 p2 p3 p4 p5
  refine (C4.out _ HB.out).mono ?_
  rintro e x4 ⟨v4, rfl, q, b⟩
  have K := Lib.hid (CpI.new K.out (more_below b) (q.base (by simp)))
  clear q b HB C4
  obtain ⟨⟨c0, c1, c2, c3, c4⟩, c5, c6, c7, c8⟩ := K.out.one.m
  obtain ⟨p0, p1, p2, p3, p4, p5⟩ := K.out.pt.pt
  obtain ⟨a4, q4, rfl, hb5⟩ := K.out.own.bytes Y4.out
  have HB := Lib.hid hb5
  clear hb5
  have C5 := Lib.hid (fun W (h : BytesP W a4 q4 L4) => num_to h l4 ltn e5.out)
  go_wp2_with fail
  clear c0 c1 c2 c3 c4 c5 c6 c7 c8 p0 p1 p2 p3 p4 p5
  refine (C5.out _ HB.out).mono ?_
  rintro e x5 ⟨v5, rfl, q, b⟩
  have K := Lib.hid (CpI.new K.out (more_below b) (q.base (by simp)))
  clear q b HB C5
  obtain ⟨⟨c0, c1, c2, c3, c4⟩, c5, c6, c7, c8⟩ := K.out.one.m
  obtain ⟨p0, p1, p2, p3, p4, p5⟩ := K.out.pt.pt
  go_wp2_with fail
  go_ret
  exact ⟨_, rfl, by rw [HF.out]; exact K.out.own.base (by have := K.out.hg; omega), K.out.low⟩

set_option maxHeartbeats 8000000 in
theorem commandB (r : CmR) (w : World) (hkd : KdAt w) (h : CmP w r) (hr : rightC r.m = true) (hk : r.m.kind = 2 ∨ r.m.kind = 8) : Calls Tryz.prog 17 #[cmV r] w (OwnPost (commandL r.m) w) := by
  have HC := Lib.hid h
  have hp : ptOf r.m.kind = ⟨true, false, false, false, false, 0⟩ := by rcases hk with hk | hk <;> rw [hk] <;> rfl
  have hkk := rightC_kind hr
  have hfit := (rightC_of hr).2
  obtain ⟨kn, hkn, wkn, lkn⟩ := u64_small (n := r.m.kind) (by omega) (by omega)
  have hi : r.m.id.size ≤ 32 := by rcases hk with hk | hk <;> (simp [fitsC, hk] at hfit; exact right_32 hfit)
  clear hfit
  have HF := Lib.hid (show commandL r.m = numL kn ++ textL r.m.id by rcases hk with hk | hk <;> simp [commandL, restL, hk, ← hkn])
  obtain ⟨L1, hL1⟩ : ∃ L, ([] : List Nat) ++ numL kn = L := ⟨_, rfl⟩
  have l1 : L1.length ≤ 10 := by rw [← hL1, List.nil_append]; exact numL_ten (by omega)
  have Y1 : Hid (Bytes L1) := Lib.hid (by rw [← hL1, List.nil_append]; exact numL_bytes _)
  have e1 := Lib.hid hL1
  obtain ⟨L2, hL2⟩ : ∃ L, L1 ++ textL r.m.id = L := ⟨_, rfl⟩
  have l2 : L2.length ≤ 52 := by have t1 := textL_32 hi; rw [← hL2]; simp only [List.length_append] at *; omega
  have Y2 : Hid (Bytes L2) := Lib.hid (by rw [← hL2]; exact bytes_app Y1.out (textL_bytes _))
  have e2 := Lib.hid hL2
  have HF : Hid (commandL r.m = L2) := Lib.hid (by rw [HF.out, ← hL2, ← hL1]; simp)
  clear hL1 hL2
  replace l1 : L1.length ≤ 5000 := by omega
  replace l2 : L2.length ≤ 5000 := by omega
  have b0 := (Below.refl w.heap.size w).alloc (Nat.le_refl _) (.cells (cmC r) 26)
  have C0 := Lib.hid (partsOf_any r.m.kind _ (hkd.below b0))
  obtain ⟨p, hpp⟩ : ∃ p, ptOf r.m.kind = p := ⟨_, rfl⟩
  unfold PartB at C0
  rw [hpp] at C0
  rw [hp] at hpp
  have e_id : p.id = true := by rw [← hpp]
  have e_ln : p.ln = false := by rw [← hpp]
  have e_gr : p.gr = false := by rw [← hpp]
  have e_tot : p.tot = false := by rw [← hpp]
  have e_yes : p.yes = false := by rw [← hpp]
  have e_most : p.most = 0 := by rw [← hpp]
  clear hpp
  have R0 := Lib.hid (Row.new w (cmC r) 26)
  have P0 := Lib.hid (h.below b0)
  have B0 := Lib.hid b0
  have c0 := R0.out.m.1.1
  have C1 := Lib.hid (fun w1 : World => num_first (w1.alloc (.cells (ptC p) 61)) (w1.heap.size + 1) (by simp) lkn e1.out)
  clear b0 hkd h hp hk hr hkn lkn
  (try clear htn ); (try clear hun); (try clear hyn); (try clear hLX)
  go_enter Tryz.func17, Tryz.ntmps17
  go_wp2_with fail
  generalize w.alloc (.cells (cmC r) 26) = W0 at *
  refine C0.out.mono ?_
  rintro e w1 ⟨rfl, b1⟩
  have K := Lib.hid (CpI.begin (p := p) R0.out P0.out B0.out b1)
  clear b1 R0 P0 B0 C0 c0 hkk
  obtain ⟨⟨c0, c1, c2, c3, c4⟩, c5, c6, c7, c8⟩ := K.out.one.m
  obtain ⟨p0, p1, p2, p3, p4, p5⟩ := K.out.pt.pt
  go_wp2_with fail
  clear c0 c1 c2 c3 c4 c5 c6 c7 c8 p0 p1 p2 p3 p4 p5
  refine (C1.out _).mono ?_
  rintro e x1 ⟨v1, rfl, q, b⟩
  have K := Lib.hid (CpI.new K.out (more_below b) (q.base (by simp)))
  clear q b C1
  generalize w1.heap.size = g at *
  obtain ⟨⟨c0, c1, c2, c3, c4⟩, c5, c6, c7, c8⟩ := K.out.one.m
  obtain ⟨p0, p1, p2, p3, p4, p5⟩ := K.out.pt.pt
  obtain ⟨a1, q1, rfl, hb2⟩ := K.out.own.bytes Y1.out
  have HB := Lib.hid hb2
  clear hb2
  have C2 := Lib.hid (fun W (h : BytesP W a1 q1 L1) => text_to h l1 hi e2.out)
  go_wp2_with fail
  clear c0 c1 c2 c3 c4 c5 c6 c7 c8 p0 p1 p2 p3 p4 p5
  refine (C2.out _ HB.out).mono ?_
  rintro e x2 ⟨v2, rfl, q, b⟩
  have K := Lib.hid (CpI.new K.out (more_below b) (q.base (by simp)))
  clear q b HB C2
  obtain ⟨⟨c0, c1, c2, c3, c4⟩, c5, c6, c7, c8⟩ := K.out.one.m
  obtain ⟨p0, p1, p2, p3, p4, p5⟩ := K.out.pt.pt
  go_wp2_with fail
  go_ret
  exact ⟨_, rfl, by rw [HF.out]; exact K.out.own.base (by have := K.out.hg; omega), K.out.low⟩

set_option maxHeartbeats 8000000 in
theorem commandC (r : CmR) (w : World) (hkd : KdAt w) (h : CmP w r) (hr : rightC r.m = true) (hk : r.m.kind = 3) : Calls Tryz.prog 17 #[cmV r] w (OwnPost (commandL r.m) w) := by
  have HC := Lib.hid h
  have hp : ptOf r.m.kind = ⟨true, false, true, false, false, 0⟩ := by rw [hk]; rfl
  have hkk := rightC_kind hr
  have hfit := (rightC_of hr).2
  obtain ⟨kn, hkn, wkn, lkn⟩ := u64_small (n := r.m.kind) (by omega) (by omega)
  simp [fitsC, hk] at hfit
  obtain ⟨f1, f3⟩ := hfit
  obtain ⟨f5, f6, f7⟩ := groupB_of f3
  have hi := right_32 f1
  have hg1 := right_32 f5
  have hg2 := right_32 f6
  have hg3 := right_32 f7
  clear f1 f3 f5 f6 f7
  have HF := Lib.hid (show commandL r.m = numL kn ++ (textL r.m.id ++ (textL r.m.car ++ (textL r.m.zone ++ textL r.m.serv))) by simp [commandL, restL, hk, ← hkn])
  obtain ⟨L1, hL1⟩ : ∃ L, ([] : List Nat) ++ numL kn = L := ⟨_, rfl⟩
  have l1 : L1.length ≤ 10 := by rw [← hL1, List.nil_append]; exact numL_ten (by omega)
  have Y1 : Hid (Bytes L1) := Lib.hid (by rw [← hL1, List.nil_append]; exact numL_bytes _)
  have e1 := Lib.hid hL1
  obtain ⟨L2, hL2⟩ : ∃ L, L1 ++ textL r.m.id = L := ⟨_, rfl⟩
  have l2 : L2.length ≤ 52 := by have t1 := textL_32 hi; rw [← hL2]; simp only [List.length_append] at *; omega
  have Y2 : Hid (Bytes L2) := Lib.hid (by rw [← hL2]; exact bytes_app Y1.out (textL_bytes _))
  have e2 := Lib.hid hL2
  obtain ⟨L3, hL3⟩ : ∃ L, L2 ++ (textL r.m.car ++ (textL r.m.zone ++ textL r.m.serv)) = L := ⟨_, rfl⟩
  have l3 : L3.length ≤ 178 := by have t1 := textL_32 hg1; have t2 := textL_32 hg2; have t3 := textL_32 hg3; rw [← hL3]; simp only [List.length_append] at *; omega
  have Y3 : Hid (Bytes L3) := Lib.hid (by rw [← hL3]; exact bytes_app Y2.out (bytes_app (textL_bytes _) (bytes_app (textL_bytes _) (textL_bytes _))))
  have e3 := Lib.hid hL3
  have HF : Hid (commandL r.m = L3) := Lib.hid (by rw [HF.out, ← hL3, ← hL2, ← hL1]; simp)
  clear hL1 hL2 hL3
  replace l1 : L1.length ≤ 5000 := by omega
  replace l2 : L2.length ≤ 5000 := by omega
  replace l3 : L3.length ≤ 5000 := by omega
  have b0 := (Below.refl w.heap.size w).alloc (Nat.le_refl _) (.cells (cmC r) 26)
  have C0 := Lib.hid (partsOf_any r.m.kind _ (hkd.below b0))
  obtain ⟨p, hpp⟩ : ∃ p, ptOf r.m.kind = p := ⟨_, rfl⟩
  unfold PartB at C0
  rw [hpp] at C0
  rw [hp] at hpp
  have e_id : p.id = true := by rw [← hpp]
  have e_ln : p.ln = false := by rw [← hpp]
  have e_gr : p.gr = true := by rw [← hpp]
  have e_tot : p.tot = false := by rw [← hpp]
  have e_yes : p.yes = false := by rw [← hpp]
  have e_most : p.most = 0 := by rw [← hpp]
  clear hpp
  have R0 := Lib.hid (Row.new w (cmC r) 26)
  have P0 := Lib.hid (h.below b0)
  have B0 := Lib.hid b0
  have c0 := R0.out.m.1.1
  have C1 := Lib.hid (fun w1 : World => num_first (w1.alloc (.cells (ptC p) 61)) (w1.heap.size + 1) (by simp) lkn e1.out)
  clear b0 hkd h hp hk hr hkn lkn
  (try clear htn ); (try clear hun); (try clear hyn); (try clear hLX)
  go_enter Tryz.func17, Tryz.ntmps17
  go_wp2_with fail
  generalize w.alloc (.cells (cmC r) 26) = W0 at *
  refine C0.out.mono ?_
  rintro e w1 ⟨rfl, b1⟩
  have K := Lib.hid (CpI.begin (p := p) R0.out P0.out B0.out b1)
  clear b1 R0 P0 B0 C0 c0 hkk
  obtain ⟨⟨c0, c1, c2, c3, c4⟩, c5, c6, c7, c8⟩ := K.out.one.m
  obtain ⟨p0, p1, p2, p3, p4, p5⟩ := K.out.pt.pt
  go_wp2_with fail
  clear c0 c1 c2 c3 c4 c5 c6 c7 c8 p0 p1 p2 p3 p4 p5
  refine (C1.out _).mono ?_
  rintro e x1 ⟨v1, rfl, q, b⟩
  have K := Lib.hid (CpI.new K.out (more_below b) (q.base (by simp)))
  clear q b C1
  generalize w1.heap.size = g at *
  obtain ⟨⟨c0, c1, c2, c3, c4⟩, c5, c6, c7, c8⟩ := K.out.one.m
  obtain ⟨p0, p1, p2, p3, p4, p5⟩ := K.out.pt.pt
  obtain ⟨a1, q1, rfl, hb2⟩ := K.out.own.bytes Y1.out
  have HB := Lib.hid hb2
  clear hb2
  have C2 := Lib.hid (fun W (h : BytesP W a1 q1 L1) => text_to h l1 hi e2.out)
  go_wp2_with fail
  clear c0 c1 c2 c3 c4 c5 c6 c7 c8 p0 p1 p2 p3 p4 p5
  refine (C2.out _ HB.out).mono ?_
  rintro e x2 ⟨v2, rfl, q, b⟩
  have K := Lib.hid (CpI.new K.out (more_below b) (q.base (by simp)))
  clear q b HB C2
  obtain ⟨⟨c0, c1, c2, c3, c4⟩, c5, c6, c7, c8⟩ := K.out.one.m
  obtain ⟨p0, p1, p2, p3, p4, p5⟩ := K.out.pt.pt
  obtain ⟨a2, q2, rfl, hb3⟩ := K.out.own.bytes Y2.out
  have HB := Lib.hid hb3
  clear hb3
  have C3 := Lib.hid (fun W (h : BytesP W a2 q2 L2) => texts_to h l2 hg1 hg2 hg3 e3.out)
  go_wp2_with fail
  clear c0 c1 c2 c3 c4 c5 c6 c7 c8 p0 p1 p2 p3 p4 p5
  refine (C3.out _ HB.out).mono ?_
  rintro e x3 ⟨v3, rfl, q, b⟩
  have K := Lib.hid (CpI.new K.out (more_below b) (q.base (by simp)))
  clear q b HB C3
  obtain ⟨⟨c0, c1, c2, c3, c4⟩, c5, c6, c7, c8⟩ := K.out.one.m
  obtain ⟨p0, p1, p2, p3, p4, p5⟩ := K.out.pt.pt
  go_wp2_with fail
  go_ret
  exact ⟨_, rfl, by rw [HF.out]; exact K.out.own.base (by have := K.out.hg; omega), K.out.low⟩

set_option maxHeartbeats 8000000 in
theorem commandD (r : CmR) (w : World) (hkd : KdAt w) (h : CmP w r) (hr : rightC r.m = true) (hk : r.m.kind = 4) : Calls Tryz.prog 17 #[cmV r] w (OwnPost (commandL r.m) w) := by
  have HC := Lib.hid h
  have hp : ptOf r.m.kind = ⟨false, false, false, false, false, 96⟩ := by rw [hk]; rfl
  have hkk := rightC_kind hr
  have hfit := (rightC_of hr).2
  obtain ⟨kn, hkn, wkn, lkn⟩ := u64_small (n := r.m.kind) (by omega) (by omega)
  simp [fitsC, hk] at hfit
  obtain ⟨un, hun, wun, lun⟩ := u64_small (n := r.m.number) (by omega) (by omega)
  clear hfit
  have HF := Lib.hid (show commandL r.m = numL kn ++ numL un by simp [commandL, restL, hk, ← hkn, ← hun])
  obtain ⟨L1, hL1⟩ : ∃ L, ([] : List Nat) ++ numL kn = L := ⟨_, rfl⟩
  have l1 : L1.length ≤ 10 := by rw [← hL1, List.nil_append]; exact numL_ten (by omega)
  have Y1 : Hid (Bytes L1) := Lib.hid (by rw [← hL1, List.nil_append]; exact numL_bytes _)
  have e1 := Lib.hid hL1
  obtain ⟨L2, hL2⟩ : ∃ L, L1 ++ numL un = L := ⟨_, rfl⟩
  have l2 : L2.length ≤ 20 := by have t1 := numL_ten (show un < 18446744073709551616 by omega); rw [← hL2]; simp only [List.length_append] at *; omega
  have Y2 : Hid (Bytes L2) := Lib.hid (by rw [← hL2]; exact bytes_app Y1.out (numL_bytes _))
  have e2 := Lib.hid hL2
  have HF : Hid (commandL r.m = L2) := Lib.hid (by rw [HF.out, ← hL2, ← hL1]; simp)
  clear hL1 hL2
  replace l1 : L1.length ≤ 5000 := by omega
  replace l2 : L2.length ≤ 5000 := by omega
  have b0 := (Below.refl w.heap.size w).alloc (Nat.le_refl _) (.cells (cmC r) 26)
  have C0 := Lib.hid (partsOf_any r.m.kind _ (hkd.below b0))
  obtain ⟨p, hpp⟩ : ∃ p, ptOf r.m.kind = p := ⟨_, rfl⟩
  unfold PartB at C0
  rw [hpp] at C0
  rw [hp] at hpp
  have e_id : p.id = false := by rw [← hpp]
  have e_ln : p.ln = false := by rw [← hpp]
  have e_gr : p.gr = false := by rw [← hpp]
  have e_tot : p.tot = false := by rw [← hpp]
  have e_yes : p.yes = false := by rw [← hpp]
  have e_most : p.most = 96 := by rw [← hpp]
  clear hpp
  have R0 := Lib.hid (Row.new w (cmC r) 26)
  have P0 := Lib.hid (h.below b0)
  have B0 := Lib.hid b0
  have c0 := R0.out.m.1.1
  have C1 := Lib.hid (fun w1 : World => num_first (w1.alloc (.cells (ptC p) 61)) (w1.heap.size + 1) (by simp) lkn e1.out)
  clear b0 hkd h hp hk hr hkn lkn
  (try clear htn ); (try clear hun); (try clear hyn); (try clear hLX)
  go_enter Tryz.func17, Tryz.ntmps17
  go_wp2_with fail
  generalize w.alloc (.cells (cmC r) 26) = W0 at *
  refine C0.out.mono ?_
  rintro e w1 ⟨rfl, b1⟩
  have K := Lib.hid (CpI.begin (p := p) R0.out P0.out B0.out b1)
  clear b1 R0 P0 B0 C0 c0 hkk
  obtain ⟨⟨c0, c1, c2, c3, c4⟩, c5, c6, c7, c8⟩ := K.out.one.m
  obtain ⟨p0, p1, p2, p3, p4, p5⟩ := K.out.pt.pt
  go_wp2_with fail
  clear c0 c1 c2 c3 c4 c5 c6 c7 c8 p0 p1 p2 p3 p4 p5
  refine (C1.out _).mono ?_
  rintro e x1 ⟨v1, rfl, q, b⟩
  have K := Lib.hid (CpI.new K.out (more_below b) (q.base (by simp)))
  clear q b C1
  generalize w1.heap.size = g at *
  obtain ⟨⟨c0, c1, c2, c3, c4⟩, c5, c6, c7, c8⟩ := K.out.one.m
  obtain ⟨p0, p1, p2, p3, p4, p5⟩ := K.out.pt.pt
  obtain ⟨a1, q1, rfl, hb2⟩ := K.out.own.bytes Y1.out
  have HB := Lib.hid hb2
  clear hb2
  have C2 := Lib.hid (fun W (h : BytesP W a1 q1 L1) => num_to h l1 lun e2.out)
  go_wp2_with fail
  clear c0 c1 c2 c3 c4 c5 c6 c7 c8 p0 p1 p2 p3 p4 p5
  refine (C2.out _ HB.out).mono ?_
  rintro e x2 ⟨v2, rfl, q, b⟩
  have K := Lib.hid (CpI.new K.out (more_below b) (q.base (by simp)))
  clear q b HB C2
  obtain ⟨⟨c0, c1, c2, c3, c4⟩, c5, c6, c7, c8⟩ := K.out.one.m
  obtain ⟨p0, p1, p2, p3, p4, p5⟩ := K.out.pt.pt
  go_wp2_with fail
  go_ret
  exact ⟨_, rfl, by rw [HF.out]; exact K.out.own.base (by have := K.out.hg; omega), K.out.low⟩

set_option maxHeartbeats 8000000 in
theorem commandE (r : CmR) (w : World) (hkd : KdAt w) (h : CmP w r) (hr : rightC r.m = true) (hk : r.m.kind = 5) : Calls Tryz.prog 17 #[cmV r] w (OwnPost (commandL r.m) w) := by
  have HC := Lib.hid h
  have hp : ptOf r.m.kind = ⟨false, false, false, false, true, 1000000000000⟩ := by rw [hk]; rfl
  have hkk := rightC_kind hr
  have hfit := (rightC_of hr).2
  obtain ⟨kn, hkn, wkn, lkn⟩ := u64_small (n := r.m.kind) (by omega) (by omega)
  simp [fitsC, hk] at hfit
  have hfit := (aboveB_iff _).1 hfit
  obtain ⟨un, hun, wun, lun⟩ := u64_small (n := r.m.number) (by omega) (by omega)
  obtain ⟨yn, hyn⟩ : ∃ n, givenN r.m.yes = n := ⟨_, rfl⟩
  have lyn : yn < 9223372036854775808 := by have := givenN_le r.m.yes; omega
  have CY : Hid (∀ w, Calls Tryz.prog 49 #[.bool r.m.yes] w (NumSame yn w)) := Lib.hid (fun w => by rw [← hyn]; exact asNumber_any r.m.yes w)
  clear hfit
  have HF := Lib.hid (show commandL r.m = numL kn ++ (numL un ++ numL yn) by simp [commandL, restL, hk, ← hkn, ← hun, ← hyn])
  obtain ⟨L1, hL1⟩ : ∃ L, ([] : List Nat) ++ numL kn = L := ⟨_, rfl⟩
  have l1 : L1.length ≤ 10 := by rw [← hL1, List.nil_append]; exact numL_ten (by omega)
  have Y1 : Hid (Bytes L1) := Lib.hid (by rw [← hL1, List.nil_append]; exact numL_bytes _)
  have e1 := Lib.hid hL1
  obtain ⟨L2, hL2⟩ : ∃ L, L1 ++ numL un = L := ⟨_, rfl⟩
  have l2 : L2.length ≤ 20 := by have t1 := numL_ten (show un < 18446744073709551616 by omega); rw [← hL2]; simp only [List.length_append] at *; omega
  have Y2 : Hid (Bytes L2) := Lib.hid (by rw [← hL2]; exact bytes_app Y1.out (numL_bytes _))
  have e2 := Lib.hid hL2
  obtain ⟨L3, hL3⟩ : ∃ L, L2 ++ numL yn = L := ⟨_, rfl⟩
  have l3 : L3.length ≤ 30 := by have t1 := numL_ten (show yn < 18446744073709551616 by omega); rw [← hL3]; simp only [List.length_append] at *; omega
  have Y3 : Hid (Bytes L3) := Lib.hid (by rw [← hL3]; exact bytes_app Y2.out (numL_bytes _))
  have e3 := Lib.hid hL3
  have HF : Hid (commandL r.m = L3) := Lib.hid (by rw [HF.out, ← hL3, ← hL2, ← hL1]; simp)
  clear hL1 hL2 hL3
  replace l1 : L1.length ≤ 5000 := by omega
  replace l2 : L2.length ≤ 5000 := by omega
  replace l3 : L3.length ≤ 5000 := by omega
  have b0 := (Below.refl w.heap.size w).alloc (Nat.le_refl _) (.cells (cmC r) 26)
  have C0 := Lib.hid (partsOf_any r.m.kind _ (hkd.below b0))
  obtain ⟨p, hpp⟩ : ∃ p, ptOf r.m.kind = p := ⟨_, rfl⟩
  unfold PartB at C0
  rw [hpp] at C0
  rw [hp] at hpp
  have e_id : p.id = false := by rw [← hpp]
  have e_ln : p.ln = false := by rw [← hpp]
  have e_gr : p.gr = false := by rw [← hpp]
  have e_tot : p.tot = false := by rw [← hpp]
  have e_yes : p.yes = true := by rw [← hpp]
  have e_most : p.most = 1000000000000 := by rw [← hpp]
  clear hpp
  have R0 := Lib.hid (Row.new w (cmC r) 26)
  have P0 := Lib.hid (h.below b0)
  have B0 := Lib.hid b0
  have c0 := R0.out.m.1.1
  have C1 := Lib.hid (fun w1 : World => num_first (w1.alloc (.cells (ptC p) 61)) (w1.heap.size + 1) (by simp) lkn e1.out)
  clear b0 hkd h hp hk hr hkn lkn
  (try clear htn ); (try clear hun); (try clear hyn); (try clear hLX)
  go_enter Tryz.func17, Tryz.ntmps17
  go_wp2_with fail
  generalize w.alloc (.cells (cmC r) 26) = W0 at *
  refine C0.out.mono ?_
  rintro e w1 ⟨rfl, b1⟩
  have K := Lib.hid (CpI.begin (p := p) R0.out P0.out B0.out b1)
  clear b1 R0 P0 B0 C0 c0 hkk
  obtain ⟨⟨c0, c1, c2, c3, c4⟩, c5, c6, c7, c8⟩ := K.out.one.m
  obtain ⟨p0, p1, p2, p3, p4, p5⟩ := K.out.pt.pt
  go_wp2_with fail
  clear c0 c1 c2 c3 c4 c5 c6 c7 c8 p0 p1 p2 p3 p4 p5
  refine (C1.out _).mono ?_
  rintro e x1 ⟨v1, rfl, q, b⟩
  have K := Lib.hid (CpI.new K.out (more_below b) (q.base (by simp)))
  clear q b C1
  generalize w1.heap.size = g at *
  obtain ⟨⟨c0, c1, c2, c3, c4⟩, c5, c6, c7, c8⟩ := K.out.one.m
  obtain ⟨p0, p1, p2, p3, p4, p5⟩ := K.out.pt.pt
  obtain ⟨a1, q1, rfl, hb2⟩ := K.out.own.bytes Y1.out
  have HB := Lib.hid hb2
  clear hb2
  have C2 := Lib.hid (fun W (h : BytesP W a1 q1 L1) => num_to h l1 lun e2.out)
  go_wp2_with fail
  clear c0 c1 c2 c3 c4 c5 c6 c7 c8 p0 p1 p2 p3 p4 p5
  refine (C2.out _ HB.out).mono ?_
  rintro e x2 ⟨v2, rfl, q, b⟩
  have K := Lib.hid (CpI.new K.out (more_below b) (q.base (by simp)))
  clear q b HB C2
  obtain ⟨⟨c0, c1, c2, c3, c4⟩, c5, c6, c7, c8⟩ := K.out.one.m
  obtain ⟨p0, p1, p2, p3, p4, p5⟩ := K.out.pt.pt
  obtain ⟨a2, q2, rfl, hb3⟩ := K.out.own.bytes Y2.out
  have HB := Lib.hid hb3
  clear hb3
  have C3 := Lib.hid (fun W (h : BytesP W a2 q2 L2) => num_to h l2 lyn e3.out)
  go_wp2_with fail
  refine (CY.out _).mono ?_
  rintro e x3 ⟨rfl, rfl⟩
  go_wp2_with fail
  clear c0 c1 c2 c3 c4 c5 c6 c7 c8 p0 p1 p2 p3 p4 p5
  refine (C3.out _ HB.out).mono ?_
  rintro e x3 ⟨v3, rfl, q, b⟩
  have K := Lib.hid (CpI.new K.out (more_below b) (q.base (by simp)))
  clear q b HB C3
  obtain ⟨⟨c0, c1, c2, c3, c4⟩, c5, c6, c7, c8⟩ := K.out.one.m
  obtain ⟨p0, p1, p2, p3, p4, p5⟩ := K.out.pt.pt
  go_wp2_with fail
  go_ret
  exact ⟨_, rfl, by rw [HF.out]; exact K.out.own.base (by have := K.out.hg; omega), K.out.low⟩

set_option maxHeartbeats 8000000 in
theorem commandF (r : CmR) (w : World) (hkd : KdAt w) (h : CmP w r) (hr : rightC r.m = true) (hk : r.m.kind = 6 ∨ r.m.kind = 7) : Calls Tryz.prog 17 #[cmV r] w (OwnPost (commandL r.m) w) := by
  have HC := Lib.hid h
  have hp : ptOf r.m.kind = ⟨false, false, false, false, false, 0⟩ := by rcases hk with hk | hk <;> rw [hk] <;> rfl
  have hkk := rightC_kind hr
  have hfit := (rightC_of hr).2
  obtain ⟨kn, hkn, wkn, lkn⟩ := u64_small (n := r.m.kind) (by omega) (by omega)
  clear hfit
  have HF := Lib.hid (show commandL r.m = numL kn by rcases hk with hk | hk <;> simp [commandL, restL, hk, ← hkn])
  obtain ⟨L1, hL1⟩ : ∃ L, ([] : List Nat) ++ numL kn = L := ⟨_, rfl⟩
  have l1 : L1.length ≤ 10 := by rw [← hL1, List.nil_append]; exact numL_ten (by omega)
  have Y1 : Hid (Bytes L1) := Lib.hid (by rw [← hL1, List.nil_append]; exact numL_bytes _)
  have e1 := Lib.hid hL1
  have HF : Hid (commandL r.m = L1) := Lib.hid (by rw [HF.out, ← hL1]; simp)
  clear hL1
  replace l1 : L1.length ≤ 5000 := by omega
  have b0 := (Below.refl w.heap.size w).alloc (Nat.le_refl _) (.cells (cmC r) 26)
  have C0 := Lib.hid (partsOf_any r.m.kind _ (hkd.below b0))
  obtain ⟨p, hpp⟩ : ∃ p, ptOf r.m.kind = p := ⟨_, rfl⟩
  unfold PartB at C0
  rw [hpp] at C0
  rw [hp] at hpp
  have e_id : p.id = false := by rw [← hpp]
  have e_ln : p.ln = false := by rw [← hpp]
  have e_gr : p.gr = false := by rw [← hpp]
  have e_tot : p.tot = false := by rw [← hpp]
  have e_yes : p.yes = false := by rw [← hpp]
  have e_most : p.most = 0 := by rw [← hpp]
  clear hpp
  have R0 := Lib.hid (Row.new w (cmC r) 26)
  have P0 := Lib.hid (h.below b0)
  have B0 := Lib.hid b0
  have c0 := R0.out.m.1.1
  have C1 := Lib.hid (fun w1 : World => num_first (w1.alloc (.cells (ptC p) 61)) (w1.heap.size + 1) (by simp) lkn e1.out)
  clear b0 hkd h hp hk hr hkn lkn
  (try clear htn ); (try clear hun); (try clear hyn); (try clear hLX)
  go_enter Tryz.func17, Tryz.ntmps17
  go_wp2_with fail
  generalize w.alloc (.cells (cmC r) 26) = W0 at *
  refine C0.out.mono ?_
  rintro e w1 ⟨rfl, b1⟩
  have K := Lib.hid (CpI.begin (p := p) R0.out P0.out B0.out b1)
  clear b1 R0 P0 B0 C0 c0 hkk
  obtain ⟨⟨c0, c1, c2, c3, c4⟩, c5, c6, c7, c8⟩ := K.out.one.m
  obtain ⟨p0, p1, p2, p3, p4, p5⟩ := K.out.pt.pt
  go_wp2_with fail
  clear c0 c1 c2 c3 c4 c5 c6 c7 c8 p0 p1 p2 p3 p4 p5
  refine (C1.out _).mono ?_
  rintro e x1 ⟨v1, rfl, q, b⟩
  have K := Lib.hid (CpI.new K.out (more_below b) (q.base (by simp)))
  clear q b C1
  generalize w1.heap.size = g at *
  obtain ⟨⟨c0, c1, c2, c3, c4⟩, c5, c6, c7, c8⟩ := K.out.one.m
  obtain ⟨p0, p1, p2, p3, p4, p5⟩ := K.out.pt.pt
  go_wp2_with fail
  go_ret
  exact ⟨_, rfl, by rw [HF.out]; exact K.out.own.base (by have := K.out.hg; omega), K.out.low⟩

theorem command_of (r : CmR) (w : World) (hkd : KdAt w) (h : CmP w r) (hr : rightC r.m = true) : Calls Tryz.prog 17 #[cmV r] w (OwnPost (commandL r.m) w) := by
  have hkk := rightC_kind hr
  have : r.m.kind = 1 ∨ (r.m.kind = 2 ∨ r.m.kind = 8) ∨ r.m.kind = 3 ∨ r.m.kind = 4 ∨ r.m.kind = 5 ∨ (r.m.kind = 6 ∨ r.m.kind = 7) := by omega
  rcases this with hk | hk | hk | hk | hk | hk
  · exact commandA r w hkd h hr hk
  · exact commandB r w hkd h hr hk
  · exact commandC r w hkd h hr hk
  · exact commandD r w hkd h hr hk
  · exact commandE r w hkd h hr hk
  · exact commandF r w hkd h hr hk
end Go.Proofs.YtfmpibmhhfmajaaGreatDoor
