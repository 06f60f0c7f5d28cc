/- What settings and State of package snap answer, of a state that hangs together. -/
import Derived.Test.YtfmpibmhhfmajaaGreatDoorSnRow
import Derived.Test.YtfmpibmhhfmajaaGreatDoorSnCon
import Derived.Test.YtfmpibmhhfmajaaGreatDoorPOr
import Derived.Test.YtfmpibmhhfmajaaGreatDoorPBt
import Derived.Test.YtfmpibmhhfmajaaGreatDoorPOb
namespace Go.Proofs.YtfmpibmhhfmajaaGreatDoor
set_option maxRecDepth 100000
open Go.RowKit Go.ChangeShapes Go.WideShapes Go.ChangeAt
attribute [local go_sem ↓] ldOr stOr alOr bxOr bdOr ldBa stBa alBa bxBa bdBa ldSt stSt alSt bxSt bdSt
attribute [local go_sem] al_or bx_or st_ornew bd_or al_ba bx_ba st_banew bd_ba al_sta bx_sta st_stnew bd_sta

/-- The numbers ahead of the orders. -/
def setN (s : St) : List Nat := [s.waves.count.toNat, s.waves.wt.toNat, s.mans.count.toNat, s.mans.wt.toNat, s.limit.toNat, s.doors.length] ++ (natsI s.doors ++ [s.now.toNat, s.nb.toNat, s.nk.toNat])
/-- A state in its variable, the numbers so far. -/
structure SeI (w : World) (r : StR) (acc : List Nat) (v : Value) (W : World) : Prop where
  on : OnI w r W
  own : OwnU64 W (w.heap.size + 1) v acc
  few : w.heap.size + 1 ≤ W.heap.size
theorem SeI.below {w W W' : World} {r : StR} {acc : List Nat} {v : Value} (h : SeI w r acc v W) (b : Below W.heap.size W W') : SeI w r acc v W' := ⟨h.on.below b, h.own.below b, Nat.le_trans h.few b.size⟩
theorem SeI.put {w W W' : World} {r : StR} {acc acc' : List Nat} {v v' : Value} (h : SeI w r acc v W) (was : StP w r) (own : OwnU64 W' (w.heap.size + 1) v' acc') (g : W.grownBy W' v.ownBlock) : SeI w r acc' v' W' := by
  have hr := h.own.row
  have hl : Below w.heap.size w W' := h.on.low.grown g h.on.low.size (fun k hk => by have := hr k hk; omega)
  exact ⟨⟨(g.block _ h.on.one.lt (fun e => by have := hr _ e.symm; omega)).trans h.on.one, was.below hl, hl⟩, own, Nat.le_trans h.few g.size⟩
theorem u64_nat {n : Int} (h : 0 ≤ n) (h2 : n < 9223372036854775808) : ∃ k : Nat, n.toNat = k ∧ IntKind.u64.wrap n = (k : Int) ∧ k < 18446744073709551616 := ⟨n.toNat, rfl, by rw [IntKind.wrap_u64]; omega, by omega⟩
theorem nums_lit (W : World) (l : List Nat) (hl : l.length ≤ 1000) (h : ∀ n ∈ l, n < 18446744073709551616) : NumsP (W.alloc (.cells (l.map uv).toArray 74)) (some ⟨W.heap.size, 0, none⟩) l.length l := by
  refine ⟨Nat.le_refl _, by omega, h, fun _ => ⟨W.heap.size, 0, rfl, by simp, fun j y hj => ?_⟩⟩
  rw [Nat.zero_add, (Row.new W (l.map uv).toArray 74).cell j]
  simp [hj]
def NumsAns (l : List Nat) (w : World) (e : Ending) (w' : World) : Prop := ∃ a cap, e = .returned (.slice a l.length cap) ∧ NumsP w' a cap l ∧ Below w.heap.size w w'

set_option maxHeartbeats 8000000 in
theorem settings_any (r : StR) (w : World) (h : StP w r) (hp : HeadP r.st) : Calls Tryz.prog 64 #[stV r] w (NumsAns (setN r.st) w) := by
  have HW := Lib.hid h
  obtain ⟨k1, k2, k3, k4, k5, k6, k7, k8, k9, k10, _⟩ := hp
  obtain ⟨n1, e1, x1, l1⟩ := u64_nat (n := r.waves.count) k1.1 (by have : r.waves.count ≤ 64 := k1.2; omega)
  obtain ⟨n2, e2, x2, l2⟩ := u64_nat (n := r.waves.wt) k2.1 (by have : r.waves.wt ≤ 1000000000000 := k2.2; omega)
  obtain ⟨n3, e3, x3, l3⟩ := u64_nat (n := r.mans.count) k3.1 (by have : r.mans.count ≤ 64 := k3.2; omega)
  obtain ⟨n4, e4, x4, l4⟩ := u64_nat (n := r.mans.wt) k4.1 (by have : r.mans.wt ≤ 1000000000000 := k4.2; omega)
  obtain ⟨n5, e5, x5, l5⟩ := u64_nat (n := r.limit) k5.1 (by have : r.limit ≤ 100 := k5.2; omega)
  obtain ⟨n7, e7, x7, l7⟩ := u64_nat (n := r.now) k8.1 (by have : r.now ≤ 1099511627776 := k8.2; omega)
  obtain ⟨n8, e8, x8, l8⟩ := u64_nat (n := r.nb) k9.1 (by have : r.nb ≤ 1000000000000 := k9.2; omega)
  obtain ⟨n9, e9, x9, l9⟩ := u64_nat (n := r.nk) k10.1 (by have : r.nk ≤ 1000000000000 := k10.2; omega)
  have k7 : r.doors.length ≤ 96 := k7
  have x6 : IntKind.u64.wrap ((r.doors.length : Nat) : Int) = ((r.doors.length : Nat) : Int) := by rw [IntKind.wrap_u64]; omega
  have HDo := Lib.hid (show ∀ x ∈ r.doors, 0 ≤ x ∧ x ≤ 95 from k6)
  have HS := Lib.hid (show setN r.st = [n1, n2, n3, n4, n5, r.doors.length] ++ (natsI r.doors ++ [n7, n8, n9]) by
    rw [← e1, ← e2, ← e3, ← e4, ← e5, ← e7, ← e8, ← e9]; rfl)
  have HLt : Hid (∀ n ∈ setN r.st, n < 18446744073709551616) := Lib.hid (by
    rw [HS.out]
    intro n hn
    simp only [List.mem_append, List.mem_cons, List.not_mem_nil, or_false] at hn
    rcases hn with (rfl | rfl | rfl | rfl | rfl | rfl) | hn | rfl | rfl | rfl
    all_goals first | assumption | omega | skip
    obtain ⟨x, hx, rfl⟩ := List.mem_map.1 hn
    have := k6 x hx
    omega)
  have HLn : Hid ((setN r.st).length ≤ 1000) := Lib.hid (by rw [HS.out]; simp [natsI]; omega)
  clear k1 k2 k3 k4 k5 k6 k8 k9 k10 e1 e2 e3 e4 e5 e7 e8 e9 l1 l2 l3 l4 l5 l7 l8 l9
  generalize setN r.st = N at *
  have I := Lib.hid (OnI.begin w r h)
  obtain ⟨⟨c0, c1, c2, c3, c4, c5⟩, c6, c7, c8, c9, c10, c11⟩ := I.out.one.st
  clear h
  have I1 : Hid (SeI w r [n1, n2, n3, n4, n5, r.doors.length] (.slice (some ⟨w.heap.size + 1, 0, none⟩) 6 6) ((w.alloc (.cells (stC r) 37)).alloc (.cells #[.int .u64 (n1 : Int), .int .u64 (n2 : Int), .int .u64 (n3 : Int), .int .u64 (n4 : Int), .int .u64 (n5 : Int), .int .u64 ((r.doors.length : Nat) : Int)] 74))) := Lib.hid (by
    have o := OwnU64.lit (w.alloc (.cells (stC r) 37)) (w.heap.size + 1) (by simp) [n1, n2, n3, n4, n5, r.doors.length] (by simp)
    rw [show (w.alloc (.cells (stC r) 37)).heap.size = w.heap.size + 1 by simp] at o
    exact ⟨I.out.below ((Below.refl _ _).alloc (Nat.le_refl _) _), o, by simp⟩)
  clear I
  have d5 := I1.out.on.one.st.1.2.2.2.2.2
  have hdc := I1.out.on.st.doors.cap
  go_enter Tryz.func64, Tryz.ntmps64
  go_wp2_with fail
  clear c0 c1 c2 c3 c4 c5 c6 c7 c8 c9 c10 c11 d5
  generalize (w.alloc (.cells (stC r) 37)).alloc (.cells #[.int .u64 (n1 : Int), .int .u64 (n2 : Int), .int .u64 (n3 : Int), .int .u64 (n4 : Int), .int .u64 (n5 : Int), .int .u64 ((r.doors.length : Nat) : Int)] 74) = W1 at *
  have HY : Hid ([n1, n2, n3, n4, n5, r.doors.length].length = 6) := Lib.hid rfl
  generalize [n1, n2, n3, n4, n5, r.doors.length] = y0 at *
  go_loopw [3, 33] (fun v i wr => ∃ (k : Nat) (acc : List Nat), k ≤ r.doors.length ∧ i = .int .i64 k ∧ Hid (SeI w r acc v wr) ∧ Hid (acc ++ natsI (r.doors.drop k) = y0 ++ natsI r.doors) ∧ Hid (acc.length = 6 + k)) (fun _ i _ => r.doors.length - (intOf i).toNat)
  case atStart => exact ⟨0, y0, Nat.zero_le _, rfl, I1, Lib.hid rfl, Lib.hid (by rw [HY.out])⟩
  case round =>
    clear I1 HY
    obtain ⟨k, acc, hk, rfl, PR, HA, hac⟩ := hrel
    by_cases hlt : k < r.doors.length
    · have hl := PR.out.on.st.doors
      obtain ⟨b, of, eo, hb, r1⟩ := hl.at k hlt
      have hcap := hl.cap
      have hrg := HDo.out _ (List.getElem_mem hlt)
      have HD := Lib.hid (show natsI (r.doors.drop k) = r.doors[k].toNat :: natsI (r.doors.drop (k + 1)) by rw [List.drop_eq_getElem_cons hlt]; rfl)
      generalize r.doors[k] = x at *
      obtain ⟨nx, ex, xx, lx⟩ := u64_nat (n := x) hrg.1 (by omega)
      rw [ex] at HD
      have HN := Lib.hid (show (acc ++ [nx]) ++ natsI (r.doors.drop (k + 1)) = y0 ++ natsI r.doors by rw [← HA.out, HD.out, List.append_assoc]; rfl)
      have HL := Lib.hid (show (acc ++ [nx]).length = 6 + (k + 1) by rw [List.length_append, hac.out]; rfl)
      have hz : acc.length ≤ 200 := by have := hac.out; omega
      rw [eo]
      clear HD HA hl eo hrg ex hac
      have T5 := Lib.hid (nums_one nx lx wr)
      have A5 := Lib.hid (PR.out.below ((Below.refl _ wr).alloc (Nat.le_refl _) (Obj.cells #[Value.int IntKind.u64 (nx : Int)] 74)))
      clear PR lx
      go_wp2_with (at_builtin; go_must (refine wpList_append_u64 rfl _ _ rfl (w.heap.size + 1) _ acc [nx] rfl A5.out.own _ 1 rfl T5.out (by simp; omega) A5.out.few ?_))
      rintro v5 w5 o5 g5
      have P5 := Lib.hid (A5.out.put HW.out o5 g5)
      clear o5 g5 A5 T5 r1
      go_wp2_with fail
      go_roundw
      case rel => exact ⟨k + 1, acc ++ [nx], by omega, by go_num, P5, HN, HL⟩
      case measure => simp [intOf]; omega
    · have hkn : k = r.doors.length := by omega
      subst hkn
      have HE := Lib.hid (show acc = y0 ++ natsI r.doors by
        have q := HA.out
        rw [List.drop_eq_nil_of_le (Nat.le_refl _)] at q
        simpa [natsI] using q)
      have hz : acc.length ≤ 200 := by have := hac.out; omega
      obtain ⟨⟨c0, c1, c2, c3, c4, c5⟩, c6, c7, c8, c9, c10, c11⟩ := PR.out.on.one.st
      have HLA := Lib.hid (show N = acc ++ [n7, n8, n9] by rw [HS.out, HE.out, List.append_assoc])
      have hn3 : ∀ n ∈ [n7, n8, n9], n < 18446744073709551616 := fun n hn => HLt.out n (by rw [HLA.out]; exact List.mem_append_right _ hn)
      have T5 : Hid (NumsP (wr.alloc (.cells #[.int .u64 (n7 : Int), .int .u64 (n8 : Int), .int .u64 (n9 : Int)] 74)) (some ⟨wr.heap.size, 0, none⟩) 3 [n7, n8, n9]) := Lib.hid (nums_lit wr [n7, n8, n9] (by simp) hn3)
      have A5 := Lib.hid (PR.out.below ((Below.refl _ wr).alloc (Nat.le_refl _) (.cells #[.int .u64 (n7 : Int), .int .u64 (n8 : Int), .int .u64 (n9 : Int)] 74)))
      clear hn3 HA HE hac PR
      go_wp2_with (at_builtin; go_must (refine wpList_append_u64 rfl _ _ rfl (w.heap.size + 1) _ acc [n7, n8, n9] rfl A5.out.own _ 3 rfl T5.out (by simp; omega) A5.out.few ?_))
      rintro v5 w5 o5 g5
      rw [← HLA.out] at o5
      have P5 := Lib.hid (A5.out.put HW.out o5 g5)
      clear o5 g5 A5 T5 c0 c1 c2 c3 c4 c5 c6 c7 c8 c9 c10 c11
      obtain ⟨a9, c9, rfl, h9⟩ := P5.out.own.nums HLt.out (by have := HLn.out; omega)
      go_wp2_with fail
      go_ret
      exact ⟨a9, c9, rfl, h9, P5.out.on.low⟩

theorem oput_nil (a : Option Addr) (c : Nat) (o : Od) (W : World) (hO : OdP W a c o) (hr : rightO o = true) : Calls Tryz.prog 65 #[.slice none 0 0, odV a c o] W (OwnPost (orderL o) W) := by
  have := put_any none a 0 c [] o W (BytesP.nil _ _ _) hO hr (by simp)
  rw [List.nil_append] at this
  exact this
theorem bput_nil (a : Option Addr) (c : Nat) (b : Bt) (W : World) (hO : StrsP W a c b.mem) (hr : rightBt b = true) : Calls Tryz.prog 66 #[.slice none 0 0, btV a c b] W (OwnPost (batchL b) W) := by
  have := btPut_any none a 0 c [] b W (BytesP.nil _ _ _) hO hr (by simp)
  rw [List.nil_append] at this
  exact this
theorem eput_nil (a : Option Addr) (c : Nat) (l : List Ef) (W : World) (hO : SlP LE W a c l) (hr : rightE l = true) (hm : l.length ≤ 20000) : Calls Tryz.prog 67 #[.slice none 0 0, .slice a l.length c] W (OwnPost (boxL l) W) := by
  have := obPut_any none a 0 c [] l W (BytesP.nil _ _ _) hO hr (by simp) hm
  rw [List.nil_append] at this
  exact this
theorem num_at (W : World) (n : Nat) (hn : n < 9223372036854775808) {y : List Nat} (hy : numL n = y) :
    Calls Tryz.prog 46 #[.slice none 0 0, .slice (some ⟨W.heap.size, 0, none⟩) 1 1] (W.alloc (Obj.cells #[Value.int IntKind.u64 (n : Int)] 74)) (OwnPost y (W.alloc (Obj.cells #[Value.int IntKind.u64 (n : Int)] 74))) :=
  numN (some ⟨W.heap.size, 0, none⟩) 1 [n] _ (nums_one n (by omega) W) (by simp) y (by rw [← hy]; simp [numsL])
theorem effs_few {s : St} (h : rightS s = true) : s.effs.length ≤ 800 := by
  have hb := bats_few h
  have hm := (rightP_of h).head.many
  simp only [rightS, effsOk, Bool.and_eq_true, decide_eq_true_eq] at h
  obtain ⟨_, _, _, _, _, _, _, _, h7, _⟩ := h
  have h1 := List.countP_le_length (p := asksB) (l := s.ords)
  have h2 := List.countP_le_length (p := outB) (l := s.bats)
  unfold manyN at h7
  omega

set_option maxHeartbeats 16000000 in
theorem state_of : StateC := by
  intro r w h hF
  have HW := Lib.hid h
  have hr := hF.1
  have hlen := hF.2
  have hp := rightP_of hr
  have hef := effs_few hr
  have hbf := bats_few hr
  have hmany := hp.head.many
  have he : r.effs.length ≤ 20000 := by have : r.effs.length ≤ 800 := hef; omega
  have ho : r.ords.length ≤ 400 := by have q : r.st.ords.length = r.ords.length := by simp [StR.st, odsOf]
                                      omega
  have hb : r.bats.length ≤ 400 := by have q : r.st.bats.length = r.bats.length := by simp [StR.st, btsOf]
                                      have q2 : r.st.ords.length = r.ords.length := by simp [StR.st, odsOf]
                                      omega
  have HOr := Lib.hid (show ∀ x ∈ r.ords, rightO x.o = true from fun x hx => hp.ords x.o (List.mem_map_of_mem hx))
  have HBa := Lib.hid (show ∀ x ∈ r.bats, rightBt x.b = true from fun x hx => hp.bats x.b (List.mem_map_of_mem hx))
  have hHd : Hid (HeadP r.st) := Lib.hid hp.head
  obtain ⟨N, hN⟩ : ∃ N, setN r.st = N := ⟨_, rfl⟩
  have C0 := Lib.hid (fun W hW => settings_any r W hW hHd.out)
  rw [hN] at C0
  have hNl : N.length ≤ 200 := by
    rw [← hN]
    have := hp.head.dlen
    simp [setN, natsI]
    omega
  obtain ⟨y0, hy0⟩ : ∃ y, numsL N = y := ⟨_, rfl⟩
  have HNN : Hid (∀ n ∈ N, n < 18446744073709551616) := Lib.hid (by
    rw [← hN]
    obtain ⟨k1, k2, k3, k4, k5, k6, k7, k8, k9, k10, _⟩ := hp.head
    intro n hn
    simp only [setN, List.mem_append, List.mem_cons, List.not_mem_nil, or_false] at hn
    rcases hn with (rfl | rfl | rfl | rfl | rfl | rfl) | hn | rfl | rfl | rfl
    all_goals first | omega | skip
    obtain ⟨x, hx, rfl⟩ := List.mem_map.1 hn
    have := k6 x hx
    omega)
  have hl0 : (stateL r.st).length = y0.length + ((numL r.ords.length).length + ((ordersL (odsOf r.ords)).length + ((numL r.bats.length).length + ((batchesL (btsOf r.bats)).length + (boxL r.effs).length)))) := by
    rw [← hy0, ← hN]
    have e : stateL r.st = numsL (setN r.st) ++ (numL r.ords.length ++ (ordersL (odsOf r.ords) ++ (numL r.bats.length ++ (batchesL (btsOf r.bats) ++ boxL r.effs)))) := by
      simp [stateL, capsN, nextN, setN, numsL, StR.st, odsOf, btsOf]
    rw [e]
    simp only [List.length_append]
  have l0 : y0.length ≤ 1000000 := by omega
  have l0 : y0.length ≤ 1000 * 1000 := by omega
  have hbox : (boxL r.effs).length ≤ 1000000 := by omega
  have CN := Lib.hid (fun a c W h => numN a c N W h (by omega) y0 hy0)
  have Y0 : Hid (Bytes y0) := Lib.hid (by rw [← hy0]; exact numsL_bytes _)
  obtain ⟨y1, hy1⟩ : ∃ y1, numL r.ords.length = y1 := ⟨_, rfl⟩
  have l1 : y1.length ≤ 10 := by rw [← hy1]; exact numL_ten (by omega)
  have Y1 : Hid (Bytes y1) := Lib.hid (by rw [← hy1]; exact numL_bytes _)
  have C1 := Lib.hid (fun W => num_at W r.ords.length (by omega) hy1)
  obtain ⟨y2, hy2⟩ : ∃ y2, numL r.bats.length = y2 := ⟨_, rfl⟩
  have l2 : y2.length ≤ 10 := by rw [← hy2]; exact numL_ten (by omega)
  have Y2 : Hid (Bytes y2) := Lib.hid (by rw [← hy2]; exact numL_bytes _)
  have C2 := Lib.hid (fun W => num_at W r.bats.length (by omega) hy2)
  have x1 : IntKind.u64.wrap ((r.ords.length : Nat) : Int) = ((r.ords.length : Nat) : Int) := by rw [IntKind.wrap_u64]; omega
  have x2 : IntKind.u64.wrap ((r.bats.length : Nat) : Int) = ((r.bats.length : Nat) : Int) := by rw [IntKind.wrap_u64]; omega
  have Y3 := Lib.hid (boxL_bytes r.effs)
  have CE := Lib.hid (fun W hW => eput_nil r.ea r.ec r.effs W hW hp.effs he)
  have HF := Lib.hid (show stateL r.st = y0 ++ (y1 ++ (ordersL (odsOf r.ords) ++ (y2 ++ (batchesL (btsOf r.bats) ++ boxL r.effs)))) by
    rw [← hy0, ← hy1, ← hy2, ← hN]
    simp [stateL, capsN, nextN, setN, numsL, StR.st, odsOf, btsOf])
  have I := Lib.hid (OnI.begin w r h)
  have l3 := hbox
  clear h hr hp hy0 hy1 hy2 hN hl0 hlen hF hmany hef hbf hHd hbox he
  generalize boxL r.effs = y3 at *
  have la := ld_sta I.out.one
  go_enter Tryz.func21, Tryz.ntmps21
  go_wp2_with fail
  clear la
  generalize w.alloc (.cells (stC r) 37) = W0 at *
  refine (C0.out _ I.out.st).mono ?_
  rintro e x0 ⟨a0, c0, rfl, n0, b0⟩
  have I := Lib.hid (I.out.below b0)
  have N0 := Lib.hid n0
  clear n0 b0 C0
  go_wp2_with fail
  refine (CN.out _ _ _ N0.out).mono ?_
  rintro e x1 ⟨v1, rfl, q1, b1⟩
  have P : Hid (SwI w r y0 v1 x1) := Lib.hid ⟨I.out.below b1, q1.base (by have := I.out.one.lt; omega), by have := I.out.one.lt; have := b1.size; omega⟩
  clear q1 b1 I N0 CN
  obtain ⟨⟨c0, c1, c2, c3, c4, c5⟩, c6, c7, c8, c9, c10, c11⟩ := P.out.on.one.st
  have hoc := P.out.on.st.ords.sl.cap
  go_wp2_with fail
  refine (C1.out _).mono ?_
  rintro e x2 ⟨u2, rfl, q2, b2⟩
  obtain ⟨a2, p2, e2, h2⟩ := q2.bytes Y1.out
  subst e2
  have D := Lib.hid (P.out.laid b2)
  have H2 := Lib.hid h2
  clear q2 b2 h2 P
  clear c0 c1 c2 c3 c4 c5 c6 c7 c8 c9 c10 c11
  go_wp2_with (at_builtin; go_must (refine wpList_append_bytes rfl _ _ rfl (w.heap.size + 1) _ y0 y1 rfl D.out.own a2 p2 rfl H2.out (by omega) D.out.few ?_))
  rintro v2 w2 o2 g2
  have P := Lib.hid (D.out.put HW.out o2 g2)
  clear o2 g2 D H2
  obtain ⟨⟨c0, c1, c2, c3, c4, c5⟩, c6, c7, c8, c9, c10, c11⟩ := P.out.on.one.st
  go_wp2_with fail
  clear c0 c1 c2 c3 c4 c5 c6 c7 c8 c9 c10 c11
  have lA : (y0 ++ y1).length ≤ 1000100 := by rw [List.length_append]; omega
  obtain ⟨A1, hA1⟩ : ∃ A1, y0 ++ y1 = A1 := ⟨_, rfl⟩
  have HA1 := Lib.hid hA1
  rw [hA1] at P lA
  clear hA1 C1 Y1
  go_loopw [3, 22] (fun v i wr => ∃ (k : Nat) (ac : List Nat), k ≤ r.ords.length ∧ i = .int .i64 k ∧ Hid (SwI w r ac v wr) ∧ Hid (ac ++ ordersL (odsOf (r.ords.drop k)) = A1 ++ ordersL (odsOf r.ords)) ∧ ac.length ≤ 1000100 + 1000 * k) (fun _ i _ => r.ords.length - (intOf i).toNat)
  case atStart => exact ⟨0, A1, Nat.zero_le _, rfl, P, Lib.hid rfl, by omega⟩
  case round =>
    clear P
    obtain ⟨k, ac, hk, rfl, PR, HS, hac2⟩ := hrel
    by_cases hlt : k < r.ords.length
    · have hl := PR.out.on.st.ords
      obtain ⟨b, of, eo, hb, _, ld1, hod⟩ := hl.ld k hlt
      have hcap := hl.sl.cap
      have hrg := HOr.out _ (List.getElem_mem hlt)
      have HD := Lib.hid (ordersL_drop r.ords k hlt)
      generalize r.ords[k] = x at *
      have CX := Lib.hid (fun W hW => oput_nil x.a x.c x.o W hW hrg)
      have YX := Lib.hid (orderL_bytes x.o)
      have lx := orderL_len hrg
      have HN := Lib.hid (show (ac ++ orderL x.o) ++ ordersL (odsOf (r.ords.drop (k + 1))) = A1 ++ ordersL (odsOf r.ords) by rw [← HS.out, HD.out, List.append_assoc])
      have HOD := Lib.hid (hod.below ((Below.refl _ wr).alloc (Nat.le_refl _) (Obj.cells (orC x) 93)))
      have A5 := Lib.hid (PR.out.below ((Below.refl _ wr).alloc (Nat.le_refl _) (Obj.cells (orC x) 93)))
      have la := ld_or (Row.new wr (orC x) 93)
      rw [eo]
      clear HD HS hl eo hrg hod PR
      generalize orderL x.o = yx at *
      go_wp2_with fail
      clear ld1 la
      generalize wr.alloc (.cells (orC x) 93) = W5 at *
      refine (CX.out _ HOD.out).mono ?_
      rintro e x5 ⟨u55, rfl, q5, b5⟩
      obtain ⟨a5, p5, e5, h5⟩ := q5.bytes YX.out
      subst e5
      have D5 := Lib.hid (A5.out.below b5)
      have H5 := Lib.hid h5
      clear q5 b5 h5 A5 CX HOD
      go_wp2_with (at_builtin; go_must (refine wpList_append_bytes rfl _ _ rfl (w.heap.size + 1) _ ac yx rfl D5.out.own a5 p5 rfl H5.out (by omega) D5.out.few ?_))
      rintro v5 w5 o5 g5
      have P5 := Lib.hid (D5.out.put HW.out o5 g5)
      clear o5 g5 D5 H5
      go_wp2_with fail
      go_roundw
      case rel => exact ⟨k + 1, ac ++ yx, by omega, by go_num, P5, HN, by rw [List.length_append]; omega⟩
      case measure => simp [intOf]; omega
    · have hkn : k = r.ords.length := by omega
      subst hkn
      have HE1 := Lib.hid (show ac = A1 ++ ordersL (odsOf r.ords) by
        have q := HS.out
        rw [List.drop_eq_nil_of_le (Nat.le_refl _)] at q
        simpa [odsOf, ordersL] using q)
      have P := PR
      clear HS PR HOr
      obtain ⟨⟨c0, c1, c2, c3, c4, c5⟩, c6, c7, c8, c9, c10, c11⟩ := P.out.on.one.st
      go_wp2_with fail
      refine (C2.out _).mono ?_
      rintro e x2 ⟨u2, rfl, q2, b2⟩
      obtain ⟨a2, p2, e2, h2⟩ := q2.bytes Y2.out
      subst e2
      have D := Lib.hid (P.out.laid b2)
      have H2 := Lib.hid h2
      clear q2 b2 h2 P
      clear c0 c1 c2 c3 c4 c5 c6 c7 c8 c9 c10 c11
      go_wp2_with (at_builtin; go_must (refine wpList_append_bytes rfl _ _ rfl (w.heap.size + 1) _ (ac) y2 rfl D.out.own a2 p2 rfl H2.out (by omega) D.out.few ?_))
      rintro v2 w2 o2 g2
      have P := Lib.hid (D.out.put HW.out o2 g2)
      clear o2 g2 D H2
      obtain ⟨⟨c0, c1, c2, c3, c4, c5⟩, c6, c7, c8, c9, c10, c11⟩ := P.out.on.one.st
      go_wp2_with fail
      clear c0 c1 c2 c3 c4 c5 c6 c7 c8 c9 c10 c11
      have lA2 : (ac ++ y2).length ≤ 1400200 := by rw [List.length_append]; omega
      obtain ⟨A2, hA2⟩ : ∃ A2, ac ++ y2 = A2 := ⟨_, rfl⟩
      have HA2 := Lib.hid hA2
      rw [hA2] at P lA2
      clear hA2 C2 Y2
      generalize wr = wo2 at *
      go_loopw [3, 42] (fun v i wr => ∃ (k : Nat) (az : List Nat), k ≤ r.bats.length ∧ i = .int .i64 k ∧ Hid (SwI w r az v wr) ∧ Hid (az ++ batchesL (btsOf (r.bats.drop k)) = A2 ++ batchesL (btsOf r.bats)) ∧ az.length ≤ 1400200 + 3000 * k) (fun _ i _ => r.bats.length - (intOf i).toNat)
      case atStart => exact ⟨0, A2, Nat.zero_le _, rfl, P, Lib.hid rfl, by omega⟩
      case round =>
        clear P
        obtain ⟨k, az, hk, rfl, PR, HS, hac3⟩ := hrel
        by_cases hlt : k < r.bats.length
        · have hl := PR.out.on.st.bats
          obtain ⟨b, of, eo, hb, _, ld1, hod⟩ := hl.ld k hlt
          have hcap := hl.sl.cap
          have hrg := HBa.out _ (List.getElem_mem hlt)
          have HD := Lib.hid (batchesL_drop r.bats k hlt)
          generalize r.bats[k] = x at *
          have CX := Lib.hid (fun W hW => bput_nil x.a x.c x.b W hW hrg)
          have YX := Lib.hid (batchL_bytes x.b)
          have lx := batchL_len hrg
          have HN := Lib.hid (show (az ++ batchL x.b) ++ batchesL (btsOf (r.bats.drop (k + 1))) = A2 ++ batchesL (btsOf r.bats) by rw [← HS.out, HD.out, List.append_assoc])
          have HOD := Lib.hid ((hod.below ((Below.refl _ wr).alloc (Nat.le_refl _) (Obj.cells (baC x) 98))).mem)
          have A5 := Lib.hid (PR.out.below ((Below.refl _ wr).alloc (Nat.le_refl _) (Obj.cells (baC x) 98)))
          have la := ld_ba (Row.new wr (baC x) 98)
          rw [eo]
          clear HD HS hl eo hrg hod PR
          generalize batchL x.b = yx at *
          go_wp2_with fail
          clear ld1 la
          generalize wr.alloc (.cells (baC x) 98) = W5 at *
          refine (CX.out _ HOD.out).mono ?_
          rintro e x5 ⟨u55, rfl, q5, b5⟩
          obtain ⟨a5, p5, e5, h5⟩ := q5.bytes YX.out
          subst e5
          have D5 := Lib.hid (A5.out.below b5)
          have H5 := Lib.hid h5
          clear q5 b5 h5 A5 CX HOD
          go_wp2_with (at_builtin; go_must (refine wpList_append_bytes rfl _ _ rfl (w.heap.size + 1) _ az yx rfl D5.out.own a5 p5 rfl H5.out (by omega) D5.out.few ?_))
          rintro v5 w5 o5 g5
          have P5 := Lib.hid (D5.out.put HW.out o5 g5)
          clear o5 g5 D5 H5
          go_wp2_with fail
          go_roundw
          case rel => exact ⟨k + 1, az ++ yx, by omega, by go_num, P5, HN, by rw [List.length_append]; omega⟩
          case measure => simp [intOf]; omega
        · have hkn : k = r.bats.length := by omega
          subst hkn
          have HE2 := Lib.hid (show az = A2 ++ batchesL (btsOf r.bats) by
            have q := HS.out
            rw [List.drop_eq_nil_of_le (Nat.le_refl _)] at q
            simpa [btsOf, batchesL] using q)
          have P := PR
          clear HS PR HBa
          have hle := P.out.on.st.effs.sl.cap
          have hl3 : az.length + y3.length ≤ 10000000 := by omega
          obtain ⟨⟨c0, c1, c2, c3, c4, c5⟩, c6, c7, c8, c9, c10, c11⟩ := P.out.on.one.st
          go_wp2_with fail
          refine (CE.out _ P.out.on.st.effs.sl).mono ?_
          rintro e x2 ⟨u2, rfl, q2, b2⟩
          obtain ⟨a2, p2, e2, h2⟩ := q2.bytes Y3.out
          subst e2
          have D := Lib.hid (P.out.below b2)
          have H2 := Lib.hid h2
          clear q2 b2 h2 P
          clear c0 c1 c2 c3 c4 c5 c6 c7 c8 c9 c10 c11
          go_wp2_with (at_builtin; go_must (refine wpList_append_bytes rfl _ _ rfl (w.heap.size + 1) _ (az) y3 rfl D.out.own a2 p2 rfl H2.out (by exact hl3) D.out.few ?_))
          rintro v2 w2 o2 g2
          have P := Lib.hid (D.out.put HW.out o2 g2)
          clear o2 g2 D H2
          obtain ⟨⟨c0, c1, c2, c3, c4, c5⟩, c6, c7, c8, c9, c10, c11⟩ := P.out.on.one.st
          go_wp2_with fail
          go_ret
          refine ⟨_, rfl, ?_, P.out.on.low⟩
          have q := P.out.own.base (Nat.le_succ _)
          rw [HF.out]
          have e : y0 ++ (y1 ++ (ordersL (odsOf r.ords) ++ (y2 ++ (batchesL (btsOf r.bats) ++ y3)))) = az ++ y3 := by
            rw [HE2.out, ← HA2.out, HE1.out, ← HA1.out]
            simp only [List.append_assoc]
          rw [e]
          exact q
end Go.Proofs.YtfmpibmhhfmajaaGreatDoor
