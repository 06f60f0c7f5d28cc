/- ReelHolds: the law returns true for any number of cells and any list of acts: whatever is told, with power that ends anywhere and comes again with any part lost or torn, what was flushed is told, and a beginning of what was added since; or the new tale, where one was begun. It has no conditions. -/
import Derived.Test.YtipikkniookanaaRlAlive
import Derived.Test.YtipikkniookanaaRlTale3
import Derived.Test.YtipikkniookanaaRlHold4
import Derived.Test.YtipikkniookanaaArgsR
namespace Go.Proofs.Ytipikkniookanaa
open Go.ChangeShapes Go.WideShapes Go.ChangeAt Go.RowKit

attribute [local go_sem ↓] ld26 ld66 st26 st66 bx26 al26 al66 bd26 bd66 bs61 bs48 mk48 eq26 ap61 ap48 ap49 cp46 cp48 apSS
attribute [local go_sem] bx_agg al_cell al_wr bd_zero bd_one bd_two bd_nine

theorem str_nil : strB [] = ⟨#[]⟩ := by decide +kernel

set_option maxRecDepth 100000 in
set_option maxHeartbeats 32000000 in
theorem holds_walk (cells : Int) (a : Option Addr) (cap : Nat) (l : List Ac) (w : World) (h1 : ActsP w a cap l) : Calls Try.prog 5 #[.int .i64 cells, .slice a l.length cap] w (TrueB w) := by
  have H1 := Lib.hid h1
  have hll := h1.len
  clear h1
  cases t0 : decide (cells < 4) with
  | true =>
    go_enter Try.func5, Try.ntmps5
    go_wp2_with fail
    refine (ralive_any _).mono ?_
    rintro e w1 ⟨rfl, b1⟩
    have B1 := Lib.hid b1
    clear b1
    go_wp2_with fail
    go_ret
    exact ⟨rfl, B1.out⟩
  | false =>
  cases t1 : decide (cells > 60) with
  | true =>
    go_enter Try.func5, Try.ntmps5
    go_wp2_with fail
    refine (ralive_any _).mono ?_
    rintro e w1 ⟨rfl, b1⟩
    have B1 := Lib.hid b1
    clear b1
    go_wp2_with fail
    go_ret
    exact ⟨rfl, B1.out⟩
  | false =>
  cases t2 : decide ((l.length : Int) > 100) with
  | true =>
    go_enter Try.func5, Try.ntmps5
    go_wp2_with fail
    refine (ralive_any _).mono ?_
    rintro e w1 ⟨rfl, b1⟩
    have B1 := Lib.hid b1
    clear b1
    go_wp2_with fail
    go_ret
    exact ⟨rfl, B1.out⟩
  | false =>
  have hc4 : 4 ≤ cells := by simpa using t0
  have hc60 : cells ≤ 60 := by simpa using t1
  have hl100 : l.length ≤ 100 := by simp at t2; omega
  obtain ⟨n, rfl⟩ : ∃ n : Nat, cells = (n : Int) := ⟨cells.toNat, by omega⟩
  have hn4 : 4 ≤ n := by omega
  have hn60 : n ≤ 60 := by omega
  have N0 := Lib.hid (fun w1 (b1 : Below w.heap.size w w1) => Pair.newNo (w0 := w) (w := w1) (L := fun _ => False) (n : Int) b1 (fun _ h => h.elim))
  rw [show clampN (n : Int) 4096 = n by unfold clampN; omega] at N0
  have HD0 := Lib.hid (Hold.new (n := n) hn60 hn4)
  have TZ := Lib.hid (told_zero n)
  go_enter Try.func5, Try.ntmps5
  go_wp2_with fail
  refine (ralive_any _).mono ?_
  rintro e w1 ⟨rfl, b1⟩
  have B1 := Lib.hid b1
  clear b1
  go_wp2_with fail
  refine (N0.out _ B1.out).mono ?_
  rintro e w2 ⟨g, rfl, h2, _⟩
  have CO := Lib.hid h2.openP
  have H2 := Lib.hid h2
  rw [show (Pl.new n).last = List.replicate n zeroC from rfl, TZ.out] at CO
  clear h2 N0 B1 TZ
  go_wp2_with fail
  refine CO.out.mono ?_
  rintro e w3 ⟨b0, ta, tc, wa, wc, rfl, hn3, hv3, _, _, b3⟩
  have h3 : Pair w w3 (atRl b0 g ⟨Pl.new n, 1, false⟩) noB (fun _ => False) := H2.out.toReel stays_no b3 hn3 hv3
  have H3 := Lib.hid h3
  clear h3 b3 hn3 hv3 H2 CO
  have H4 := Lib.hid (H3.out.addTl (base := w.heap.size) (stays_rl _ _ _) (o := .cells #[.string ⟨#[]⟩, .slice none 0 0] 56) (show TlV _ _ [] _ by unfold TlV; rw [str_nil]; exact heap_alloc_new w3 _))
  clear H3
  go_wp2_with fail
  generalize w3.alloc (.cells #[.string ⟨#[]⟩, .slice none 0 0] 56) = w4 at *
  generalize w3.heap.size = tb at *
  go_loopw [6, 10, 11, 12, 48] (fun s6 s10 s11 s12 i wr => ∃ (k b : Nat) (r : Rl) (H : Nat → Hs) (nt nx : List Nat) (nw : List (List Nat)) (su : Nat) (bg : Bool), k ≤ l.length ∧ i = .int .i64 (k : Int) ∧ s6 = ptr b ∧ s10 = .int .i64 (su : Int) ∧ s11 = .string (strB nx) ∧ s12 = .bool bg ∧ Hid (Hold n r H k nt nw su nx bg) ∧ Hid (nw.length ≤ k + 60) ∧ Hid (Bytes nt) ∧ Hid (∀ x ∈ nw, Bytes x) ∧ Hid (Pair w wr (atRl b g r) (atTl w.heap.size tb nt nw) (fun _ => False)) ∧ Hid (Bytes nx)) (fun _ _ _ _ i _ => l.length - (intOf i).toNat)
  case atStart => exact ⟨0, b0, ⟨Pl.new n, 1, false⟩, _, [], [], [], 0, false, Nat.zero_le _, rfl, rfl, rfl, by rw [str_nil], rfl, HD0, Lib.hid (Nat.zero_le _), Lib.hid (fun b hb => by simp at hb), Lib.hid (fun x hx => by simp at hx), H4, Lib.hid (fun b hb => by simp at hb)⟩
  case round =>
    clear H4 HD0
    obtain ⟨k, b, r, H, nt, nx, nw, su, bg, hk, rfl, rfl, rfl, rfl, rfl, HH, HNL, HNT, HNW, HPR, HNX⟩ := hrel
    by_cases hlt : k < l.length
    · obtain ⟨b1, o1, rfl, q1, r1⟩ := (H1.out.below HPR.out.low).cell (by intro e; subst e; simp at hlt)
      obtain ⟨d0, d1, d2, d3⟩ := r1 k _ (List.getElem?_eq_getElem hlt)
      have p1 := H1.out.cap
      have hx := H1.out.each _ (List.getElem_mem hlt)
      have hxh := hx.high
      have HXB := Lib.hid hx.bytes
      generalize l[k] = ac at *
      obtain ⟨kind, at_, torn, ia, ic, il⟩ := ac
      simp only at d0 d1 d2 d3 hxh HXB
      have hil := HXB.out.len
      have AT0 := Lib.hid (show (wr.alloc (.cells #[.int .i64 kind, .int .i64 at_, .int .i64 torn, .slice ia il.length ic] 42)).heap[wr.heap.size]? = some (.cells (acA ⟨kind, at_, torn, ia, ic, il⟩) 42 (0, 0)) from heap_alloc_new wr _)
      have ba := (Below.refl wr.heap.size wr).alloc (Nat.le_refl _) (.cells #[.int .i64 kind, .int .i64 at_, .int .i64 torn, .slice ia il.length ic] 42)
      have PA0 := Lib.hid (HPR.out.below (stays_rl _ _ _) (stays_tl _ _ _ _) ba (M := fun k => k = wr.heap.size) (fun k hk => .inr ⟨by omega, by rw [hk]; simp⟩))
      have vw := ac_cells (x := ⟨kind, at_, torn, ia, ic, il⟩) AT0.out
      simp only at vw
      obtain ⟨v0, v1, v2, v3⟩ := vw
      clear r1 hx
      cases t5 : decide ((il.length : Int) > 400) with
      | true =>
        have LA := Lib.hid PA0.out.low
        clear ba
        go_wp2_with fail
        go_ret
        exact ⟨rfl, LA.out⟩
      | false =>
      have hi400 : il.length ≤ 400 := by simp at t5; omega
      have HW : Word il := ⟨by omega, HXB.out.byte⟩
      have HWD := Lib.hid HW
      have HS1 := Lib.hid HH.out.side
      have HLO := Lib.hid (show r.P.loose.length + 1366 ≤ 100000 by have := HH.out.inv.few; omega)
      clear ba HW
      generalize hWA : wr.alloc (.cells #[.int .i64 kind, .int .i64 at_, .int .i64 torn, .slice ia il.length ic] 42) = WA at *
      cases t6 : (kind == 0) with
      | true =>
        have hbeg := HH.out.begin (by omega) HWD.out
        have CB := Lib.hid (PA0.out.rbegin (stays_tl _ _ _ _) ia ic il (HXB.out.below PA0.out.low) HS1.out HLO.out)
        generalize r.begin il = rb at *
        obtain ⟨er, r2⟩ := rb
        simp only at hbeg CB
        rcases hbeg with ⟨rfl, H', hd⟩ | ⟨rfl, rfl⟩ | ⟨rfl, H', hd⟩
        · have HD := Lib.hid hd
          clear hd
          go_wp2_with fail
          refine CB.out.mono ?_
          rintro e w4 ⟨rfl, p4, k4⟩
          have P4 := Lib.hid p4
          have AC4 := Lib.hid ((k4 _ rfl).trans AT0.out)
          have vw := ac_cells (x := ⟨kind, at_, torn, ia, ic, il⟩) AC4.out
          simp only at vw
          obtain ⟨z0, z1, z2, z3⟩ := vw
          have RT := run_text (HXB.out.below P4.out.low)
          obtain ⟨va, vc, tv, _, _, _, _⟩ := P4.out.tale (by have := HNL.out; omega)
          obtain ⟨y0, y1, y2, y3, yu, yv⟩ := tv.whole il
          have P5 := Lib.hid ((P4.out.anew (base' := w.heap.size) (stays_rl _ _ _) yu yv).1.mono (M := fun _ => False) (fun _ e => e.elim))
          have HB := Lib.hid HWD.out.2
          clear p4 k4 CB v0 v1 v2 v3 d0 d1 d2 d3 tv yu yv P4
          go_wp2_with fail
          go_roundw
          case rel => exact ⟨k + 1, b, r2, H', il, nx, [], 0, false, by omega, by go_num, rfl, rfl, rfl, rfl, HD, Lib.hid (by simp), HB, Lib.hid (fun x hx => by simp at hx), P5, HNX⟩
          case measure => simp [intOf]; omega
        · have HD := Lib.hid (HH.out.more (Nat.le_succ k))
          have HNL2 := Lib.hid (show nw.length ≤ k + 1 + 60 by have := HNL.out; omega)
          go_wp2_with fail
          refine CB.out.mono ?_
          rintro e w4 ⟨rfl, p4, _⟩
          have P5 := Lib.hid (p4.mono (M := fun _ => False) (fun _ e => e.elim))
          clear p4 CB v0 v1 v2 v3 d0 d1 d2 d3
          go_wp2_with fail
          go_roundw
          case rel => exact ⟨k + 1, b, r2, H, nt, nx, nw, su, bg, by omega, by go_num, rfl, rfl, rfl, rfl, HD, HNL2, HNT, HNW, P5, HNX⟩
          case measure => simp [intOf]; omega
        · have HNL2 := Lib.hid (show nw.length ≤ k + 1 + 60 by have := HNL.out; omega)
          cases bg with
          | true =>
            have HD := Lib.hid (show Hold n r2 H' (k + 1) nt nw su nx true from hd)
            clear hd
            go_wp2_with fail
            refine CB.out.mono ?_
            rintro e w4 ⟨rfl, p4, _⟩
            have P5 := Lib.hid (p4.mono (M := fun _ => False) (fun _ e => e.elim))
            clear p4 CB v0 v1 v2 v3 d0 d1 d2 d3
            go_wp2_with fail
            go_roundw
            case rel => exact ⟨k + 1, b, r2, H', nt, nx, nw, su, true, by omega, by go_num, rfl, rfl, rfl, rfl, HD, HNL2, HNT, HNW, P5, HNX⟩
            case measure => simp [intOf]; omega
          | false =>
            have HD := Lib.hid (show Hold n r2 H' (k + 1) nt nw su il true from hd)
            clear hd
            go_wp2_with fail
            refine CB.out.mono ?_
            rintro e w4 ⟨rfl, p4, k4⟩
            have P4 := Lib.hid p4
            have AC4 := Lib.hid ((k4 _ rfl).trans AT0.out)
            have vw := ac_cells (x := ⟨kind, at_, torn, ia, ic, il⟩) AC4.out
            simp only at vw
            obtain ⟨z0, z1, z2, z3⟩ := vw
            have RT := run_text (HXB.out.below P4.out.low)
            have P5 := Lib.hid (p4.mono (M := fun _ => False) (fun _ e => e.elim))
            clear p4 k4 P4 CB v0 v1 v2 v3 d0 d1 d2 d3
            go_wp2_with fail
            go_roundw
            case rel => exact ⟨k + 1, b, r2, H', nt, il, nw, su, true, by omega, by go_num, rfl, rfl, rfl, rfl, HD, HNL2, HNT, HNW, P5, Lib.hid HWD.out.2⟩
            case measure => simp [intOf]; omega
      | false =>
      cases t7 : (kind == 1) with
      | true =>
        have hadd := HH.out.add (by omega) HWD.out
        have CA := Lib.hid (PA0.out.radd (stays_tl _ _ _ _) ia ic il (HXB.out.below PA0.out.low) HLO.out)
        generalize r.add il = ra at *
        obtain ⟨er, r2⟩ := ra
        simp only at hadd CA
        rcases hadd with ⟨he, rfl⟩ | ⟨he, H', hd⟩
        · have HD := Lib.hid (HH.out.more (Nat.le_succ k))
          have HNL2 := Lib.hid (show nw.length ≤ k + 1 + 60 by have := HNL.out; omega)
          rcases he with rfl | rfl
          all_goals
            go_wp2_with fail
            refine CA.out.mono ?_
            rintro e w4 ⟨rfl, p4, _⟩
            have P5 := Lib.hid (p4.mono (M := fun _ => False) (fun _ e => e.elim))
            clear p4 CA v0 v1 v2 v3 d0 d1 d2 d3
            go_wp2_with fail
            go_roundw
            case rel => exact ⟨k + 1, b, r2, H, nt, nx, nw, su, bg, by omega, by go_num, rfl, rfl, rfl, rfl, HD, HNL2, HNT, HNW, P5, HNX⟩
            case measure => simp [intOf]; omega
        · have HD := Lib.hid (hd.more (Nat.le_succ k))
          have HNL2 := Lib.hid (show (nw ++ [il]).length ≤ k + 1 + 60 by have := HNL.out; rw [List.length_append]; simp; omega)
          have HNW2 := Lib.hid (show ∀ x ∈ nw ++ [il], Bytes x from fun x hx => by
            rcases List.mem_append.1 hx with hx | hx
            · exact HNW.out x hx
            · simp at hx; subst hx; exact HWD.out.2)
          clear hd
          rcases he with rfl | rfl
          all_goals
            go_wp2_with fail
            refine CA.out.mono ?_
            rintro e w4 ⟨rfl, p4, k4⟩
            have AC4 := (k4 _ rfl).trans AT0.out
            have hnl : nw.length < 100000 := by have := HNL.out; omega
            obtain ⟨va, vc, tv, hss, _, htl, _⟩ := p4.tale (by omega)
            have bE := (Below.refl w4.heap.size w4).alloc (Nat.le_refl _) (.cells #[] 9)
            have bS := (Below.refl w4.heap.size w4).alloc (Nat.le_refl _) (.cells #[.string (strB il)] 9)
            have bES := bE.alloc bE.size (.cells #[.string (strB il)] 9)
            have bSE := bS.alloc bS.size (.cells #[] 9)
            have TLH := Lib.hid (fun W (b : Below w4.heap.size w4 W) => TlV.cells (show TlV W tb nt _ from (b.block _ htl).trans tv))
            have ALT := (Array.getElem?_eq_some_iff.1 AC4).1
            have ACH := Lib.hid (fun W (b : Below w4.heap.size w4 W) => ac_cells (x := ⟨kind, at_, torn, ia, ic, il⟩) ((b.block _ ALT).trans AC4))
            have RTH := Lib.hid (fun W (b : Below w4.heap.size w4 W) => run_text (HXB.out.below (p4.low.trans (b.mono p4.low.size))))
            obtain ⟨⟨a1, c1, w5, a2, c2, w6, ha1, b5, ha2, ho2, b6⟩, ⟨a3, c3, w7, a4, c4, w8, ha3, ha4, ho4, b8⟩, ⟨a5, c5, w9, a6, c6, w10, ha5, ha6, ho6, b10⟩⟩ := copy_push_drew w4 va vc nw hss hnl il 38
            have b4 := (Below.refl w4.heap.size w4).drew
            have x0 := (TLH.out _ b4).2.1
            have x1 := (TLH.out _ bE.drew).2.1
            have x2 := (TLH.out _ bS.drew).2.1
            have x3 := (TLH.out _ bES.drew).2.1
            have x4 := (TLH.out _ bSE.drew).2.1
            have z0 := (ACH.out _ b4).2.2.2
            have z1 := (ACH.out _ bE.drew).2.2.2
            have z5 := (ACH.out _ (b4.trans b5)).2.2.2
            have q0 := RTH.out _ b4
            have q1 := RTH.out _ bE.drew
            have q5 := RTH.out _ (b4.trans b5)
            obtain ⟨_, y6, _, y6f⟩ := TLH.out _ (b4.trans b6)
            obtain ⟨_, y8, _, y8f⟩ := TLH.out _ (b4.trans b8)
            obtain ⟨_, y10, _, y10f⟩ := TLH.out _ (b4.trans b10)
            have P6 := Lib.hid ((p4.renewed (stays_rl _ _ _) (Nat.le_refl _) (b4.trans b6) ho2).1.mono (M := fun _ => False) (fun _ e => e.elim))
            have P8 := Lib.hid ((p4.renewed (stays_rl _ _ _) (Nat.le_refl _) (b4.trans b8) ho4).1.mono (M := fun _ => False) (fun _ e => e.elim))
            have P10 := Lib.hid ((p4.renewed (stays_rl _ _ _) (Nat.le_refl _) (b4.trans b10) ho6).1.mono (M := fun _ => False) (fun _ e => e.elim))
            simp only at z0 z1 z5
            clear p4 k4 AC4 ALT tv hss htl bE bS bES bSE b4 b5 b6 b8 b10 ho2 ho4 ho6 TLH ACH RTH CA v0 v1 v2 v3 d0 d1 d2 d3
            go_wp2_with fail
            go_region
            all_goals
              go_wp2_with fail
              go_roundw
              case rel =>
                first
                  | exact ⟨k + 1, b, r2, H', nt, nx, nw ++ [il], su, bg, by omega, by go_num, rfl, rfl, rfl, rfl, HD, HNL2, HNT, HNW2, P6, HNX⟩
                  | exact ⟨k + 1, b, r2, H', nt, nx, nw ++ [il], su, bg, by omega, by go_num, rfl, rfl, rfl, rfl, HD, HNL2, HNT, HNW2, P8, HNX⟩
                  | exact ⟨k + 1, b, r2, H', nt, nx, nw ++ [il], su, bg, by omega, by go_num, rfl, rfl, rfl, rfl, HD, HNL2, HNT, HNW2, P10, HNX⟩
              case measure => simp [intOf]; omega
      | false =>
      cases t8 : (kind == 2) with
      | true =>
        have HNL2 := Lib.hid (show nw.length ≤ k + 1 + 60 by have := HNL.out; omega)
        have hfl := HH.out.flush
        have CF := Lib.hid (PA0.out.rflush (stays_tl _ _ _ _))
        generalize r.flush = rf at *
        obtain ⟨er, r2⟩ := rf
        simp only at hfl CF
        rcases hfl with ⟨rfl, hd⟩ | ⟨he, hd⟩
        · have HD := Lib.hid (hd.more (Nat.le_succ k))
          clear hd
          go_wp2_with fail
          refine CF.out.mono ?_
          rintro e w4 ⟨rfl, p4, k4⟩
          obtain ⟨va, vc, tv, _, _, _, _⟩ := p4.tale (by have := HNL.out; omega)
          obtain ⟨_, y1, _, _⟩ := tv.cells
          have P5 := Lib.hid (p4.mono (M := fun _ => False) (fun _ e => e.elim))
          clear p4 k4 tv CF v0 v1 v2 v3 d0 d1 d2 d3
          go_wp2_with fail
          go_roundw
          case rel => exact ⟨k + 1, b, r2, H, nt, nx, nw, nw.length, bg, by omega, by go_num, rfl, rfl, rfl, rfl, HD, HNL2, HNT, HNW, P5, HNX⟩
          case measure => simp [intOf]; omega
        · have HD := Lib.hid (hd.more (Nat.le_succ k))
          have he0 : (er == 0) = false := by simpa using he
          clear hd he
          go_wp2_with fail
          refine CF.out.mono ?_
          rintro e w4 ⟨rfl, p4, _⟩
          have P5 := Lib.hid (p4.mono (M := fun _ => False) (fun _ e => e.elim))
          clear p4 CF v0 v1 v2 v3 d0 d1 d2 d3
          go_wp2_with fail
          go_roundw
          case rel => exact ⟨k + 1, b, r2, H, nt, nx, nw, su, bg, by omega, by go_num, rfl, rfl, rfl, rfl, HD, HNL2, HNT, HNW, P5, HNX⟩
          case measure => simp [intOf]; omega
      | false =>
      cases t9 : (kind == 4) with
      | true =>
        have HNL2 := Lib.hid (show nw.length ≤ k + 1 + 60 by have := HNL.out; omega)
        have HD := Lib.hid ((HH.out.limit hxh).more (Nat.le_succ k))
        have CP := Lib.hid (PA0.out.rlimit (stays_tl _ _ _ _) at_ hxh)
        generalize r.P.limit at_ = P2 at *
        go_wp2_with fail
        refine CP.out.mono ?_
        rintro e w4 ⟨rfl, p4, _⟩
        have P5 := Lib.hid (p4.mono (M := fun _ => False) (fun _ e => e.elim))
        clear p4 CP v0 v1 v2 v3 d0 d1 d2 d3
        go_wp2_with fail
        go_roundw
        case rel => exact ⟨k + 1, b, _, H, nt, nx, nw, su, bg, by omega, by go_num, rfl, rfl, rfl, rfl, HD, HNL2, HNT, HNW, P5, HNX⟩
        case measure => simp [intOf]; omega
      | false =>
        have HOFF := Lib.hid (show ∀ b o, ia = some ⟨b, o, none⟩ → il ≠ [] → b < w.heap.size from fun b o e hne => by
          obtain ⟨b', o', e', hb', _⟩ := HXB.out.cell hne
          rw [e'] at e
          injection e with e
          injection e with e1
          subst e1
          exact hb')
        obtain ⟨sd, rd, bo, ht⟩ : ∃ sd rd bo, toldL (r.P.fail il torn at_).last = (sd, rd, bo) := ⟨_, _, _, rfl⟩
        have hgf := PA0.out.rgood.fail il torn at_
        have htl := told_le hgf.cl
        rw [ht] at htl
        simp only at htl
        obtain ⟨hf, hd⟩ := HH.out.fail il torn at_ (Nat.le_trans (HH.out.inv.fail_top il torn at_) HH.out.top) ht
        have hlen : (r.P.fail il torn at_).last.length = n := by rw [hgf.size]; exact (HH.out.inv.failed il torn at_).len
        have htlen : bo.tail.length ≤ k + 1 + 60 := by rw [List.length_tail]; have := htl.1; omega
        have htw : ∀ x ∈ bo.tail, Bytes x := fun x hx => (htl.2 x (List.mem_of_mem_tail hx)).2
        have hhd : Bytes (bo.headD []) := by
          cases bo with
          | nil => intro x hx; simp at hx
          | cons y ys => exact (htl.2 y (by simp)).2
        have CP := Lib.hid (PA0.out.rfail (stays_tl _ _ _ _) ia ic il (HXB.out.below PA0.out.low) (fun hne b o e => .inl (HOFF.out b o e hne)) torn at_)
        have CO := Lib.hid (fun W (h : Pair w W (atRl b g ⟨r.P.fail il torn at_, r.side, r.ready⟩) (atTl w.heap.size tb nt nw) (fun k => k = wr.heap.size)) => show Calls Try.prog 10 #[ptr g] W (fun e w' => ∃ b ta tc wa wc, e = .returned (.tuple #[ptr b, .slice ta (bo.headD []).length tc, .slice wa bo.tail.length wc]) ∧ W.heap.size ≤ b ∧ RlV w' b g sd false ∧ BytesP w' ta tc (bo.headD []) ∧ LLP w' wa wc bo.tail ∧ Below W.heap.size W w' ∧ ∀ V, w'.heap.size ≤ V.heap.size → (∀ k, W.heap.size ≤ k → k < w'.heap.size → V.heap[k]? = w'.heap[k]?) → BytesP V ta tc (bo.headD []) ∧ LLP V wa wc bo.tail) by
          have h1 : Calls Try.prog 10 #[ptr g] W (OpenRMore g (toldL (r.P.fail il torn at_).last) W) := h.openM
          rw [ht] at h1
          exact h1)
        have HF := Lib.hid hf
        have HD := Lib.hid (hd.more (Nat.le_succ k))
        have HTLEN := Lib.hid htlen
        have HTW := Lib.hid htw
        have HHD := Lib.hid hhd
        clear hf hd htlen htw hhd htl hgf hlen ht
        generalize bo.headD [] = hd at *
        generalize bo.tail = tl at *
        generalize r.P.fail il torn at_ = P2 at *
        go_wp2_with fail
        refine CP.out.mono ?_
        rintro e w4 ⟨rfl, p4, k4⟩
        have P4 := Lib.hid p4
        have C4 := Lib.hid (CO.out _ p4)
        clear p4 k4 CP CO v0 v1 v2 v3 d0 d1 d2 d3
        go_wp2_with fail
        refine C4.out.mono ?_
        rintro e w5 ⟨b5, xa, xc, ya, yc, rfl, hn5, hv5, hB5, hL5, b45, hkp⟩
        have P5 := Lib.hid (P4.out.turn (stays_tl _ _ _ _) b45 hn5 hv5)
        obtain ⟨va, vc, tv, hss, _, htl5, _⟩ := P5.out.tale (by have := HNL.out; omega)
        have htl4 := (P4.out.tale (by have := HNL.out; omega)).choose_spec.choose_spec.2.2.2.1
        have HT4 := Lib.hid htl4
        obtain ⟨x0, x1, _, _⟩ := tv.cells
        have CB := Lib.hid (begins_any xa xc hd ya yc tl nt va vc nw su w5 hB5 hL5 HNT.out hss HNW.out)
        have CN := Lib.hid (fun W (bW : Below w5.heap.size w5 W) => begins_any xa xc hd ya yc tl nx none 0 [] 0 W (hB5.below bW) (hL5.below bW) HNX.out ⟨by simp, by simp, fun h => absurd rfl h⟩ (fun x hx => by simp at hx))
        have TVH := Lib.hid (fun W (bW : Below w5.heap.size w5 W) => show TlV W tb nt (.slice va nw.length vc) from (bW.block _ htl5).trans tv)
        have BH := Lib.hid (fun W (bW : Below w5.heap.size w5 W) => hB5.below bW)
        have HKP := Lib.hid hkp
        have B45 := Lib.hid b45
        have hyc := hL5.cap
        have htlm := hL5.len
        have HO1 := Lib.hid (show begB hd tl nt nw su = true ∨ (bg = true ∧ begB hd tl nx [] 0 = true) by
          rcases HF.out with ⟨e1, e2, e3⟩ | ⟨e1, e2, e3⟩
          · exact .inl (begB_true e1 e2 e3)
          · exact .inr ⟨e1, begB_true e2 (Nat.zero_le _) (by rw [e3]; exact List.prefix_refl _)⟩)
        generalize begB hd tl nt nw su = ob at *
        generalize begB hd tl nx [] 0 = fb at *
        clear hn5 hv5 hB5 hL5 b45 hkp tv hss htl4 htl5 C4 HF P4
        cases bg with
        | false =>
          have ho : ob = true := HO1.out.elim id (fun h => by cases h.1)
          subst ho
          go_wp2_with fail
          refine CB.out.mono ?_
          rintro e w7 ⟨rfl, b57⟩
          have B57 := Lib.hid b57
          clear b57
          have HLOW7 := Lib.hid (P5.out.low.trans (B57.out.mono P5.out.low.size))
          have P7 := Lib.hid (P5.out.more (stays_rl _ _ _) (stays_tl _ _ _ _) B57.out)
          have tv7 := TVH.out _ B57.out
          obtain ⟨y0, y1, y2, y3, yu, yv⟩ := tv7.whole hd
          have RT := run_text (BH.out _ B57.out)
          have P8 := Lib.hid (P7.out.anew (base' := w7.heap.size) (stays_rl _ _ _) yu yv).1
          have K8 := Lib.hid (show Keep (fun k => k = tb ∨ w7.heap.size ≤ k) w7 ((w7.setCell ⟨tb, 0, none⟩ (.string (strB hd))).setCell ⟨tb, 1, none⟩ (.slice none 0 0)) from (Keep.refl _ w7).upd yu (fun _ => .inl rfl))
          have KP := Lib.hid (fun W (hK : Keep (fun k => k = tb ∨ w7.heap.size ≤ k) w7 W) => HKP.out W (Nat.le_trans B57.out.size hK.size) (fun k h1 h2 => by
            have h3 := HT4.out
            have h4 := Nat.lt_of_lt_of_le h2 B57.out.size
            exact (hK.block k h4 (fun e => e.elim (fun e => by omega) (fun e => by omega))).trans (B57.out.block k h2)))
          clear tv7 yu yv P7 P5 TVH BH HKP B45 HT4 CB CN HO1
          go_wp2_with fail
          generalize (w7.setCell ⟨tb, 0, none⟩ (.string (strB hd))).setCell ⟨tb, 1, none⟩ (.slice none 0 0) = w8 at *
          generalize hwo : wr = wo at *
          go_loopw [96] (fun i wr => ∃ (m : Nat), i = .int .i64 (m : Int) ∧ m ≤ tl.length ∧ Hid (Pair w wr (atRl b5 g ⟨P2, sd, false⟩) (atTl w7.heap.size tb hd (tl.take m)) (fun k => k = wo.heap.size)) ∧ Hid (Keep (fun k => k = tb ∨ w7.heap.size ≤ k) w7 wr)) (fun i _ => tl.length - (intOf i).toNat)
          case atStart => exact ⟨0, rfl, Nat.zero_le _, by rw [List.take_zero]; exact P8, K8⟩
          case round =>
            clear P8 K8 y0 y1 y2 y3 RT
            obtain ⟨m, rfl, hm, HP, HK⟩ := hrel
            by_cases hmt : m < tl.length
            · have hL := (KP.out _ HK.out).2
              obtain ⟨bl, ol, rfl, hbl, hcl⟩ := hL.cell (by intro e; rw [e] at hmt; simp at hmt)
              obtain ⟨ae, ce, g1, gB⟩ := hcl m _ (List.getElem?_eq_getElem hmt)
              have htk : tl.take (m + 1) = tl.take m ++ [tl[m]] := by rw [List.take_add_one, List.getElem?_eq_getElem hmt]; rfl
              generalize tl[m] = x at *
              have hml : (tl.take m).length = m := by rw [List.length_take]; omega
              have htl2 := HTLEN.out
              obtain ⟨vm, cm, tm, _, _, htm, _⟩ := HP.out.tale (by omega)
              rw [hml] at tm
              obtain ⟨am, c3, wm, hap, tvm, pm, _, km⟩ := HP.out.pushed (stays_rl _ _ _) HK.out.size x (by omega) (a := vm) (cap := cm) (show TlV wr tb hd (.slice vm (tl.take m).length cm) by rw [hml]; exact tm) 38
              rw [hml] at hap tvm pm km
              obtain ⟨_, u1, _, u3⟩ := tvm.cells
              obtain ⟨_, x1', _, _⟩ := tm.cells
              have RY := run_text gB
              have PM := Lib.hid (show Pair w (wm.setCell ⟨tb, 1, none⟩ (.slice am (m + 1) c3)) (atRl b5 g ⟨P2, sd, false⟩) (atTl w7.heap.size tb hd (tl.take (m + 1))) (fun k => k = wo.heap.size) by rw [htk]; exact pm)
              have KM := Lib.hid (show Keep (fun k => k = tb ∨ w7.heap.size ≤ k) w7 (wm.setCell ⟨tb, 1, none⟩ (.slice am (m + 1) c3)) from HK.out.trans km (fun i _ e => e))
              clear hL hcl gB htk tm tvm pm km HP HK hml
              go_wp2_with fail
              go_roundw
              case rel => exact ⟨m + 1, by go_num, by omega, PM, KM⟩
              case measure => simp [intOf]; omega
            · have hme : m = tl.length := by omega
              have HP9 := Lib.hid (show Pair w wr (atRl b5 g ⟨P2, sd, false⟩) (atTl w.heap.size tb hd tl) (fun _ => False) by
                have := HP.out
                rw [hme, List.take_length] at this
                exact (this.lower (Nat.le_trans (HLOW7.out.size) (Nat.le_refl _))).mono (fun _ e => e.elim))
              clear HP HK
              go_wp2_with fail
              go_roundw
              case rel => exact ⟨k + 1, b5, ⟨P2, sd, false⟩, H, hd, nx, tl, tl.length, false, by omega, by go_num, rfl, rfl, rfl, rfl, HD, HTLEN, HHD, HTW, HP9, HNX⟩
              case measure => simp [intOf]; omega
        | true =>
          cases ob with
          | true =>
            go_wp2_with fail
            refine CB.out.mono ?_
            rintro e w6 ⟨rfl, b56⟩
            have C6 := Lib.hid (CN.out _ b56)
            have B56 := Lib.hid b56
            clear b56
            go_wp2_with fail
            refine C6.out.mono ?_
            rintro e w7 ⟨rfl, b67⟩
            have B57 := Lib.hid (B56.out.trans (b67.mono B56.out.size))
            clear b67 B56 C6
            have HLOW7 := Lib.hid (P5.out.low.trans (B57.out.mono P5.out.low.size))
            have P7 := Lib.hid (P5.out.more (stays_rl _ _ _) (stays_tl _ _ _ _) B57.out)
            have tv7 := TVH.out _ B57.out
            obtain ⟨y0, y1, y2, y3, yu, yv⟩ := tv7.whole hd
            have RT := run_text (BH.out _ B57.out)
            have P8 := Lib.hid (P7.out.anew (base' := w7.heap.size) (stays_rl _ _ _) yu yv).1
            have K8 := Lib.hid (show Keep (fun k => k = tb ∨ w7.heap.size ≤ k) w7 ((w7.setCell ⟨tb, 0, none⟩ (.string (strB hd))).setCell ⟨tb, 1, none⟩ (.slice none 0 0)) from (Keep.refl _ w7).upd yu (fun _ => .inl rfl))
            have KP := Lib.hid (fun W (hK : Keep (fun k => k = tb ∨ w7.heap.size ≤ k) w7 W) => HKP.out W (Nat.le_trans B57.out.size hK.size) (fun k h1 h2 => by
              have h3 := HT4.out
              have h4 := Nat.lt_of_lt_of_le h2 B57.out.size
              exact (hK.block k h4 (fun e => e.elim (fun e => by omega) (fun e => by omega))).trans (B57.out.block k h2)))
            clear tv7 yu yv P7 P5 TVH BH HKP B45 HT4 CB CN HO1
            go_wp2_with fail
            generalize (w7.setCell ⟨tb, 0, none⟩ (.string (strB hd))).setCell ⟨tb, 1, none⟩ (.slice none 0 0) = w8 at *
            generalize hwo : wr = wo at *
            go_loopw [96] (fun i wr => ∃ (m : Nat), i = .int .i64 (m : Int) ∧ m ≤ tl.length ∧ Hid (Pair w wr (atRl b5 g ⟨P2, sd, false⟩) (atTl w7.heap.size tb hd (tl.take m)) (fun k => k = wo.heap.size)) ∧ Hid (Keep (fun k => k = tb ∨ w7.heap.size ≤ k) w7 wr)) (fun i _ => tl.length - (intOf i).toNat)
            case atStart => exact ⟨0, rfl, Nat.zero_le _, by rw [List.take_zero]; exact P8, K8⟩
            case round =>
              clear P8 K8 y0 y1 y2 y3 RT
              obtain ⟨m, rfl, hm, HP, HK⟩ := hrel
              by_cases hmt : m < tl.length
              · have hL := (KP.out _ HK.out).2
                obtain ⟨bl, ol, rfl, hbl, hcl⟩ := hL.cell (by intro e; rw [e] at hmt; simp at hmt)
                obtain ⟨ae, ce, g1, gB⟩ := hcl m _ (List.getElem?_eq_getElem hmt)
                have htk : tl.take (m + 1) = tl.take m ++ [tl[m]] := by rw [List.take_add_one, List.getElem?_eq_getElem hmt]; rfl
                generalize tl[m] = x at *
                have hml : (tl.take m).length = m := by rw [List.length_take]; omega
                have htl2 := HTLEN.out
                obtain ⟨vm, cm, tm, _, _, htm, _⟩ := HP.out.tale (by omega)
                rw [hml] at tm
                obtain ⟨am, c3, wm, hap, tvm, pm, _, km⟩ := HP.out.pushed (stays_rl _ _ _) HK.out.size x (by omega) (a := vm) (cap := cm) (show TlV wr tb hd (.slice vm (tl.take m).length cm) by rw [hml]; exact tm) 38
                rw [hml] at hap tvm pm km
                obtain ⟨_, u1, _, u3⟩ := tvm.cells
                obtain ⟨_, x1', _, _⟩ := tm.cells
                have RY := run_text gB
                have PM := Lib.hid (show Pair w (wm.setCell ⟨tb, 1, none⟩ (.slice am (m + 1) c3)) (atRl b5 g ⟨P2, sd, false⟩) (atTl w7.heap.size tb hd (tl.take (m + 1))) (fun k => k = wo.heap.size) by rw [htk]; exact pm)
                have KM := Lib.hid (show Keep (fun k => k = tb ∨ w7.heap.size ≤ k) w7 (wm.setCell ⟨tb, 1, none⟩ (.slice am (m + 1) c3)) from HK.out.trans km (fun i _ e => e))
                clear hL hcl gB htk tm tvm pm km HP HK hml
                go_wp2_with fail
                go_roundw
                case rel => exact ⟨m + 1, by go_num, by omega, PM, KM⟩
                case measure => simp [intOf]; omega
              · have hme : m = tl.length := by omega
                have HP9 := Lib.hid (show Pair w wr (atRl b5 g ⟨P2, sd, false⟩) (atTl w.heap.size tb hd tl) (fun _ => False) by
                  have := HP.out
                  rw [hme, List.take_length] at this
                  exact (this.lower (Nat.le_trans (HLOW7.out.size) (Nat.le_refl _))).mono (fun _ e => e.elim))
                clear HP HK
                go_wp2_with fail
                go_roundw
                case rel => exact ⟨k + 1, b5, ⟨P2, sd, false⟩, H, hd, nx, tl, tl.length, false, by omega, by go_num, rfl, rfl, rfl, rfl, HD, HTLEN, HHD, HTW, HP9, HNX⟩
                case measure => simp [intOf]; omega
          | false =>
            have hfb : fb = true := HO1.out.elim (fun h => by cases h) (fun h => h.2)
            subst hfb
            go_wp2_with fail
            refine CB.out.mono ?_
            rintro e w6 ⟨rfl, b56⟩
            have C6 := Lib.hid (CN.out _ b56)
            have B56 := Lib.hid b56
            clear b56
            go_wp2_with fail
            refine C6.out.mono ?_
            rintro e w7 ⟨rfl, b67⟩
            have B57 := Lib.hid (B56.out.trans (b67.mono B56.out.size))
            clear b67 B56 C6
            have HLOW7 := Lib.hid (P5.out.low.trans (B57.out.mono P5.out.low.size))
            have P7 := Lib.hid (P5.out.more (stays_rl _ _ _) (stays_tl _ _ _ _) B57.out)
            have tv7 := TVH.out _ B57.out
            obtain ⟨y0, y1, y2, y3, yu, yv⟩ := tv7.whole hd
            have RT := run_text (BH.out _ B57.out)
            have P8 := Lib.hid (P7.out.anew (base' := w7.heap.size) (stays_rl _ _ _) yu yv).1
            have K8 := Lib.hid (show Keep (fun k => k = tb ∨ w7.heap.size ≤ k) w7 ((w7.setCell ⟨tb, 0, none⟩ (.string (strB hd))).setCell ⟨tb, 1, none⟩ (.slice none 0 0)) from (Keep.refl _ w7).upd yu (fun _ => .inl rfl))
            have KP := Lib.hid (fun W (hK : Keep (fun k => k = tb ∨ w7.heap.size ≤ k) w7 W) => HKP.out W (Nat.le_trans B57.out.size hK.size) (fun k h1 h2 => by
              have h3 := HT4.out
              have h4 := Nat.lt_of_lt_of_le h2 B57.out.size
              exact (hK.block k h4 (fun e => e.elim (fun e => by omega) (fun e => by omega))).trans (B57.out.block k h2)))
            clear tv7 yu yv P7 P5 TVH BH HKP B45 HT4 CB CN HO1
            go_wp2_with fail
            generalize (w7.setCell ⟨tb, 0, none⟩ (.string (strB hd))).setCell ⟨tb, 1, none⟩ (.slice none 0 0) = w8 at *
            generalize hwo : wr = wo at *
            go_loopw [96] (fun i wr => ∃ (m : Nat), i = .int .i64 (m : Int) ∧ m ≤ tl.length ∧ Hid (Pair w wr (atRl b5 g ⟨P2, sd, false⟩) (atTl w7.heap.size tb hd (tl.take m)) (fun k => k = wo.heap.size)) ∧ Hid (Keep (fun k => k = tb ∨ w7.heap.size ≤ k) w7 wr)) (fun i _ => tl.length - (intOf i).toNat)
            case atStart => exact ⟨0, rfl, Nat.zero_le _, by rw [List.take_zero]; exact P8, K8⟩
            case round =>
              clear P8 K8 y0 y1 y2 y3 RT
              obtain ⟨m, rfl, hm, HP, HK⟩ := hrel
              by_cases hmt : m < tl.length
              · have hL := (KP.out _ HK.out).2
                obtain ⟨bl, ol, rfl, hbl, hcl⟩ := hL.cell (by intro e; rw [e] at hmt; simp at hmt)
                obtain ⟨ae, ce, g1, gB⟩ := hcl m _ (List.getElem?_eq_getElem hmt)
                have htk : tl.take (m + 1) = tl.take m ++ [tl[m]] := by rw [List.take_add_one, List.getElem?_eq_getElem hmt]; rfl
                generalize tl[m] = x at *
                have hml : (tl.take m).length = m := by rw [List.length_take]; omega
                have htl2 := HTLEN.out
                obtain ⟨vm, cm, tm, _, _, htm, _⟩ := HP.out.tale (by omega)
                rw [hml] at tm
                obtain ⟨am, c3, wm, hap, tvm, pm, _, km⟩ := HP.out.pushed (stays_rl _ _ _) HK.out.size x (by omega) (a := vm) (cap := cm) (show TlV wr tb hd (.slice vm (tl.take m).length cm) by rw [hml]; exact tm) 38
                rw [hml] at hap tvm pm km
                obtain ⟨_, u1, _, u3⟩ := tvm.cells
                obtain ⟨_, x1', _, _⟩ := tm.cells
                have RY := run_text gB
                have PM := Lib.hid (show Pair w (wm.setCell ⟨tb, 1, none⟩ (.slice am (m + 1) c3)) (atRl b5 g ⟨P2, sd, false⟩) (atTl w7.heap.size tb hd (tl.take (m + 1))) (fun k => k = wo.heap.size) by rw [htk]; exact pm)
                have KM := Lib.hid (show Keep (fun k => k = tb ∨ w7.heap.size ≤ k) w7 (wm.setCell ⟨tb, 1, none⟩ (.slice am (m + 1) c3)) from HK.out.trans km (fun i _ e => e))
                clear hL hcl gB htk tm tvm pm km HP HK hml
                go_wp2_with fail
                go_roundw
                case rel => exact ⟨m + 1, by go_num, by omega, PM, KM⟩
                case measure => simp [intOf]; omega
              · have hme : m = tl.length := by omega
                have HP9 := Lib.hid (show Pair w wr (atRl b5 g ⟨P2, sd, false⟩) (atTl w.heap.size tb hd tl) (fun _ => False) by
                  have := HP.out
                  rw [hme, List.take_length] at this
                  exact (this.lower (Nat.le_trans (HLOW7.out.size) (Nat.le_refl _))).mono (fun _ e => e.elim))
                clear HP HK
                go_wp2_with fail
                go_roundw
                case rel => exact ⟨k + 1, b5, ⟨P2, sd, false⟩, H, hd, nx, tl, tl.length, false, by omega, by go_num, rfl, rfl, rfl, rfl, HD, HTLEN, HHD, HTW, HP9, HNX⟩
                case measure => simp [intOf]; omega
    · go_wp2_with fail
      go_ret
      exact ⟨rfl, HPR.out.low⟩


set_option maxRecDepth 100000 in
theorem reelHolds_lifted (os : Os) (started : os.Started) (H : Type) (enc : TypeId × Value → H) :
    ReturnsInHanded {} Try.checked os 5 .any (Rows.reelHoldsSpec.pre6 enc Try.prog Try.f5 Rows.reelHoldsRow.domain false) (Rows.reelHoldsSpec.post enc Try.prog Try.f5 false true false false) := by
  refine returnsInHanded_of_change (C := Try.checked) own started (by kernel_rfl) Try.func5
    (ChangeSpec.witness6 (enc := enc) (C := Try.checked) false ⟨#[], #[.int .i64 0, .slice none 0 0], []⟩ 8 (by kernel_rfl) (by kernel_rfl) (by kernel_rfl) (by kernel_rfl)) ?_
  intro W base args ds gs before hval0 hW _ _
  have hval : ∀ (j : Nat) t v, Try.f5.params[j]? = some t → args[j]? = some v → Value.okWide Try.prog W .any base t v := hval0
  have hW' := hW
  obtain ⟨p, q, hA0, hV, rfl, _, _⟩ := hW
  have hA : DataW.TrodAll enc Try.prog W 0 (fun _ => true) true Try.f5.params.toList args.toList ds p := hA0
  rw [Try.params5] at hA hval
  obtain ⟨v0, vs0, d0, ds0, p0, q_0, hargs, rfl, rfl, h0, r0⟩ := trodAll_cons hA
  obtain ⟨v1, vs1, d1, ds1, p1, q_1, rfl, rfl, rfl, h1, r1⟩ := trodAll_cons r0
  obtain ⟨rfl, rfl, rfl⟩ := trodAll_nil r1
  obtain rfl : args = #[v0, v1] := by cases args; simp_all
  obtain ⟨rfl, rfl⟩ := trodVars_none hV
  clear hA0 hval0
  simp only [List.append_nil] at hW'
  obtain ⟨a0, rfl, rfl, rfl, w0⟩ := open_int Try.underlying3 (hval 0 3 v0 rfl rfl) h0
  obtain ⟨q1, cap1, l1, rfl, hS1, hm1⟩ := acts_of_trod (hval 1 34 v1 rfl rfl) h1
  have hlt1 : ∀ x ∈ p1, x.block < W.heap.size := fun x hx => by simpa using hW'.lt x (by simpa using (by simp [hx]))
  refine (holds_walk a0 q1 cap1 l1 W hS1).mono fun e W' ⟨he, hb⟩ => ?_
  subst he
  have hT : DataW.TrodAll enc Try.prog W' 0 (fun b => decide (b < W.heap.size)) true _ _ _ _ := (trodAll_cons_mk (shut_int Try.underlying3 w0) (trodAll_cons_mk (Below.trod laidOut (by kernel_rfl) (of_decide_eq_true (by kernel_rfl)) h1 hb hlt1) trodAll_mk0))
  simp only [List.append_nil] at hT
  exact ⟨_, rfl, _, _, _, [], p1, [], hW', trodAll_mk1 (shut_bool Try.underlying4 _), hT, rfl, hb.frame _, fun h => by cases h⟩

theorem reelHolds_holds : Rows.ReelHoldsSaid :=
  OpenClaim.holds_of_wide 5 Try.f5 rfl rfl rfl rfl rfl rfl rfl ⟨rfl, rfl, rfl, rfl, rfl⟩ rfl rfl rfl rfl rfl (by kernel_rfl) Try.func5 (by kernel_rfl)
    (of_decide_eq_true (by kernel_rfl)) (by unfold Func.isWrapper; first | (rw [if_pos (by decide +kernel)]; kernel_rfl) | (rw [if_neg (by decide +kernel)]; exact ⟨rfl, rfl⟩))
    (fun os started H enc _ => reelHolds_lifted os started H enc)
#print axioms reelHolds_holds


end Go.Proofs.Ytipikkniookanaa
