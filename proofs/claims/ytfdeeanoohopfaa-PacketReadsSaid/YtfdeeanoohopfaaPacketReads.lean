/- PacketReads: the law returns true for any bytes and any steps: a Reader tells each number and each text as the document does, and is BAD from the first one on that it cannot read. It has no conditions. -/
import Derived.Test.YtfdeeanoohopfaaArgs
import Derived.Test.YtfdeeanoohopfaaRText
import Derived.Test.YtfdeeanoohopfaaTake
namespace Go.Proofs.Ytfdeeanoohopfaa
open Go.ChangeShapes Go.WideShapes Go.ChangeAt Go.RowKit

/-- How far the Reader is, and what the law holds against it. -/
def Held (l : List Nat) (g : Nat) (bad : Bool) (rst : List Nat) (w : World) : Prop := (bad = false ∧ ∃ pos, RdP w g l pos false ∧ rst = l.drop pos) ∨ (bad = true ∧ RdP w g [] 0 true)

theorem held_good {l : List Nat} {g : Nat} {w : World} {pos : Nat} (h : RdP w g l pos false) : Held l g false (l.drop pos) w := .inl ⟨rfl, pos, h, rfl⟩
theorem held_bad {l rst : List Nat} {g : Nat} {w : World} (h : RdP w g [] 0 true) : Held l g true rst w := .inr ⟨rfl, h⟩

/-- What numAt tells of the rest. -/
theorem rest_cases (most : Nat) (rst : List Nat) (hb : Bytes rst) :
    (((numAt most 0 0 rst).2.2 ≠ 0 ∧ usedOf (numAt most 0 0 rst) ≤ 0)) ∨ ∃ v s, numAt most 0 0 rst = (v, s, 0) ∧ 0 < s ∧ s ≤ rst.length ∧ v ≤ most := by
  rcases numAt_errs most rst 0 0 with h | h | ⟨v, s, h, h1, h2⟩
  · rw [h]; exact .inl ⟨by simp, by simp [usedOf]⟩
  · rw [h]; exact .inl ⟨by simp, by simp [usedOf]⟩
  · obtain ⟨_, _, _, _, _, hv, _⟩ := numAt_alone most rst 0 0 v s hb (Nat.zero_le _) h
    exact .inr ⟨v, s, h, h1, by omega, hv⟩

theorem take_ok {v s : Nat} {f : FuncId} {args : Array Value} {w : World} (h : Calls Try.prog f args w (TakePost (v, s, 0) w)) : Calls Try.prog f args w (fun e w' => e = .returned (.tuple #[.int .u64 (v : Int), .int .i64 (s : Int)]) ∧ w = w') := h
theorem take_any {r : Nat × Nat × Nat} {f : FuncId} {args : Array Value} {w : World} (h : Calls Try.prog f args w (TakePost r w)) : ∃ (v : Nat) (u : Int), v = r.1 ∧ u = usedOf r ∧ Calls Try.prog f args w (fun e w' => e = .returned (.tuple #[.int .u64 (v : Int), .int .i64 u]) ∧ w = w') := ⟨_, _, rfl, rfl, h⟩

/-- Any answer that leaves the Reader BAD. -/
def BadPost (g : Nat) (v : Value) (w : World) (e : Ending) (w' : World) : Prop := e = .returned v ∧ RdP w' g [] 0 true ∧ Below g w w'

set_option maxRecDepth 100000 in
set_option maxHeartbeats 16000000 in
theorem reads_walk (a a1 : Option Addr) (cap cap1 : Nat) (l : List Nat) (st : List St) (w : World) (h : BytesP w a cap l) (h1 : StepsP w a1 cap1 st) :
    Calls Try.prog 6 #[.slice a l.length cap, .slice a1 st.length cap1] w (TrueB w) := by
  have H := Lib.hid h
  have H1 := Lib.hid h1
  clear h h1
  cases t1 : decide (500 < (l.length : Int)) with
  | true =>
    go_enter Try.func6, Try.ntmps6
    go_wp2_with fail
    refine (alive_any _).mono ?_
    rintro e w1 ⟨rfl, b1⟩
    go_wp2_with fail
    go_ret
    exact ⟨rfl, b1⟩
  | false =>
  cases t2 : decide (60 < (st.length : Int)) with
  | true =>
    go_enter Try.func6, Try.ntmps6
    go_wp2_with fail
    refine (alive_any _).mono ?_
    rintro e w1 ⟨rfl, b1⟩
    go_wp2_with fail
    go_ret
    exact ⟨rfl, b1⟩
  | false =>
    have n1 : l.length ≤ 500 := by simp at t1; omega
    have n2 : st.length ≤ 60 := by simp at t2; omega
    go_enter Try.func6, Try.ntmps6
    go_wp2_with fail
    refine (alive_any _).mono ?_
    rintro e w1 ⟨rfl, b1⟩
    have C := Lib.hid (new_any a cap l w1 (H.out.below b1) (by omega))
    go_wp2_with fail
    refine C.out.mono ?_
    rintro e w2 ⟨g, rfl, r2, b2, hg2⟩
    have B2 := b1.trans (b2.mono b1.size)
    have hg := Lib.hid (Nat.le_trans b1.size hg2)
    have HD0 := Lib.hid (show Held l g false l w2 from held_good r2)
    clear b1 b2 hg2 r2 C
    go_wp2_with fail
    go_loopw [6, 7, 29] (fun s6 s7 i wr => ∃ (k : Nat) (bad : Bool) (ar : Option Addr) (cr : Nat) (rst : List Nat), k ≤ st.length ∧ i = .int .i64 k ∧ s7 = .bool bad ∧ s6 = .slice ar rst.length cr ∧ rst.length ≤ 500 ∧ Hid (BytesP w ar cr rst) ∧ Hid (Held l g bad rst wr) ∧ Below w.heap.size w wr) (fun _ _ i _ => st.length - (intOf i).toNat)
    case atStart => exact ⟨0, false, a, cap, l, Nat.zero_le _, rfl, rfl, rfl, n1, H, HD0, B2⟩
    case round =>
      clear HD0 B2
      obtain ⟨k, bad, ar, cr, rst, hk, rfl, rfl, rfl, hrl, HR, HH, hbw⟩ := hrel
      by_cases hlt : k < st.length
      · obtain ⟨b1, o1, rfl, q1, r1⟩ := (H1.out.below hbw).cell (by intro e; subst e; simp at hlt)
        obtain ⟨c1, c2⟩ := r1 k _ (List.getElem?_eq_getElem hlt)
        have p1 := H1.out.cap
        have hx := H1.out.each _ (List.getElem_mem hlt)
        generalize st[k] = x at *
        obtain ⟨kind, most⟩ := x
        simp only at c1 c2 hx
        have bx := (Below.refl wr.heap.size wr).alloc (Nat.le_refl _) (.cells #[.int .i64 kind, .int .u64 (most : Int)] 47)
        have BX := Lib.hid (hbw.trans (bx.mono hbw.size))
        have KR := Lib.hid (HR.out.below BX.out)
        have T1 := Lib.hid (refTake_any ar cr rst most _ KR.out hx)
        have hcr := HR.out.cap
        clear r1
        cases hkd : (kind == 0) with
        | true =>
          rcases HH.out with ⟨rfl, pos, hR, hp⟩ | ⟨rfl, hR⟩
          · have R1 := Lib.hid (hR.below bx)
            have hpl := hR.le
            rcases rest_cases most rst HR.out.byte with ⟨he, hu⟩ | ⟨v, s, he, hs0, hsl, hv⟩
            · have N := Lib.hid (rdNumber_err _ g l pos most R1.out hx (by rw [← hp]; exact he))
              obtain ⟨v, u, _, hu2, T2⟩ := take_any T1.out
              rw [← hu2] at hu
              have T := Lib.hid T2
              have hu' : decide (u ≤ 0) = true := by simp; omega
              clear hp hu hu2 he T1 T2 hR bx HH R1
              go_wp2_with fail
              refine T.out.mono ?_
              rintro e w' ⟨rfl, rfl⟩
              go_wp2_with fail
              refine N.out.mono ?_
              rintro e w3 ⟨rfl, r3, b3⟩
              have R3 := Lib.hid r3
              have B3 := Lib.hid (BX.out.trans (b3.mono hg.out))
              have CB := Lib.hid (bad_any w3 g _ _ _ r3)
              clear r3 b3
              go_wp2_with fail
              refine CB.out.mono ?_
              rintro e w' ⟨rfl, rfl⟩
              go_wp2_with fail
              go_roundw
              case rel => exact ⟨k + 1, true, ar, cr, rst, by omega, by go_num, rfl, rfl, hrl, HR, Lib.hid (held_bad R3.out), B3.out⟩
              case measure => simp [intOf]; omega
            · have hpos : pos + s ≤ l.length := by
                have := congrArg List.length hp
                rw [List.length_drop] at this
                omega
              have N := Lib.hid (rdNumber_ok _ g l pos most v s R1.out hx (by rw [← hp]; exact he) hpos)
              have HP := Lib.hid (show rst.drop s = l.drop (pos + s) by rw [hp, List.drop_drop])
              rw [he] at T1
              have T := Lib.hid (take_ok T1.out)
              obtain ⟨a5, c5, s5, k5⟩ := slice_from (a := ar) hcr s (s : Int) rfl hsl
              have K5 := Lib.hid (k5 w HR.out)
              have hdl : (rst.drop s).length ≤ 500 := by rw [List.length_drop]; omega
              have hs' : decide ((s : Int) ≤ 0) = false := by simp; omega
              clear hp he T1 hR bx HH R1 k5
              generalize rst.drop s = rd at *
              go_wp2_with fail
              refine T.out.mono ?_
              rintro e w' ⟨rfl, rfl⟩
              go_wp2_with fail
              refine N.out.mono ?_
              rintro e w3 ⟨rfl, r3, b3⟩
              have R3 := Lib.hid r3
              have B3 := Lib.hid (BX.out.trans (b3.mono hg.out))
              have CB := Lib.hid (bad_any w3 g _ _ _ r3)
              clear r3 b3
              go_wp2_with fail
              refine CB.out.mono ?_
              rintro e w' ⟨rfl, rfl⟩
              go_wp2_with fail
              go_roundw
              case rel => exact ⟨k + 1, false, a5, c5, rd, by omega, by go_num, rfl, rfl, hdl, K5, Lib.hid (.inl ⟨rfl, pos + s, R3.out, HP.out⟩), B3.out⟩
              case measure => simp [intOf]; omega
          · have R1 := Lib.hid (hR.below bx)
            have N := Lib.hid ((rdNumber_bad _ g [] 0 (most : Int) R1.out).mono (R' := BadPost g (.int .u64 0) (wr.alloc (.cells #[.int .i64 kind, .int .u64 (most : Int)] 47))) (fun e w' ⟨h1, h2⟩ => ⟨h1, h2 ▸ R1.out, h2 ▸ Below.refl _ _⟩))
            obtain ⟨v, u, _, _, T2⟩ := take_any T1.out
            have T := Lib.hid T2
            clear T1 T2 hR bx HH R1
            go_wp2_with fail
            refine T.out.mono ?_
            rintro e w' ⟨rfl, rfl⟩
            go_wp2_with fail
            refine N.out.mono ?_
            rintro e w3 ⟨rfl, r3, b3⟩
            have R3 := Lib.hid r3
            have B3 := Lib.hid (BX.out.trans (b3.mono hg.out))
            have CB := Lib.hid (bad_any w3 g _ _ _ r3)
            clear r3 b3
            go_wp2_with fail
            refine CB.out.mono ?_
            rintro e w' ⟨rfl, rfl⟩
            go_wp2_with fail
            go_roundw
            case rel => exact ⟨k + 1, true, ar, cr, rst, by omega, by go_num, rfl, rfl, hrl, HR, Lib.hid (held_bad R3.out), B3.out⟩
            case measure => simp [intOf]; omega
        | false =>
          obtain ⟨m, hmw, hm1, hm2⟩ : ∃ m : Int, IntKind.i64.wrap (most : Int) = m ∧ -9223372036854775808 ≤ m ∧ m ≤ 9223372036854775807 := ⟨_, rfl, by rw [IntKind.wrap_i64]; omega, by rw [IntKind.wrap_i64]; omega⟩
          obtain ⟨v1, u1, _, _, T11⟩ := take_any T1.out
          have TA := Lib.hid T11
          clear T1 T11
          by_cases hm0 : m < 0
          · have T2 : Calls Try.prog 20 #[.slice ar rst.length cr, .int .u64 0] _ _ := refTake_any ar cr rst 0 _ KR.out (by decide)
            obtain ⟨v2, u2, _, _, T21⟩ := take_any T2
            have TB := Lib.hid T21
            have hmx : (if m < 0 then (0 : Int) else m) = 0 := by rw [if_pos hm0]
            have hm0' : decide (m < 0) = true := by simp; omega
            obtain ⟨l', pos', hR⟩ : ∃ l' pos', RdP wr g l' pos' bad := by
              rcases HH.out with ⟨rfl, pos, hR, _⟩ | ⟨rfl, hR⟩
              · exact ⟨_, _, hR⟩
              · exact ⟨_, _, hR⟩
            have N := Lib.hid (rdText_neg _ g l' pos' bad m (hR.below bx) hm0)
            clear T2 T21 hR bx HH hm0
            cases bad <;>
            · skip
              go_wp2_with fail
              refine TA.out.mono ?_
              rintro e w' ⟨rfl, rfl⟩
              go_wp2_with fail
              refine TB.out.mono ?_
              rintro e w' ⟨rfl, rfl⟩
              go_wp2_with fail
              refine N.out.mono ?_
              rintro e w3 ⟨rfl, r3, b3⟩
              have R3 := Lib.hid r3
              have B3 := Lib.hid (BX.out.trans (b3.mono hg.out))
              have CB := Lib.hid (bad_any w3 g _ _ _ r3)
              clear r3 b3
              go_wp2_with fail
              refine CB.out.mono ?_
              rintro e w' ⟨rfl, rfl⟩
              go_wp2_with fail
              go_roundw
              case rel => exact ⟨k + 1, true, ar, cr, rst, by omega, by go_num, rfl, rfl, hrl, HR, Lib.hid (held_bad R3.out), B3.out⟩
              case measure => simp [intOf]; omega
          · obtain ⟨M, hM⟩ : ∃ M : Nat, m = (M : Int) := ⟨m.toNat, by omega⟩
            subst hM
            have hMl : M ≤ 9223372036854775807 := by omega
            have T2 := Lib.hid (refTake_any ar cr rst M _ KR.out (by omega))
            have hmx : (if (M : Int) < 0 then (0 : Int) else (M : Int)) = (M : Int) := by rw [if_neg hm0]
            have hm0' : decide ((M : Int) < 0) = false := by simp
            have hwM : IntKind.u64.wrap (M : Int) = (M : Int) := by rw [IntKind.wrap_u64]; omega
            rcases HH.out with ⟨rfl, pos, hR, hp⟩ | ⟨rfl, hR⟩
            · have R1 := Lib.hid (hR.below bx)
              have hpl := hR.le
              rcases rest_cases M rst HR.out.byte with ⟨he, hu⟩ | ⟨v, s, he, hs0, hsl, hv⟩
              · have N := Lib.hid (rdText_err _ g l pos M R1.out hMl (by rw [← hp]; exact he))
                obtain ⟨v2, u2, _, hu2, T21⟩ := take_any T2.out
                rw [← hu2] at hu
                have TB := Lib.hid T21
                have hu' : decide (u2 ≤ 0) = true := by simp; omega
                clear hp hu hu2 he T2 T21 hR bx HH R1 hm0
                go_wp2_with fail
                refine TA.out.mono ?_
                rintro e w' ⟨rfl, rfl⟩
                go_wp2_with fail
                refine TB.out.mono ?_
                rintro e w' ⟨rfl, rfl⟩
                go_wp2_with fail
                refine N.out.mono ?_
                rintro e w3 ⟨rfl, r3, b3⟩
                have R3 := Lib.hid r3
                have B3 := Lib.hid (BX.out.trans (b3.mono hg.out))
                have CB := Lib.hid (bad_any w3 g _ _ _ r3)
                clear r3 b3
                go_wp2_with fail
                refine CB.out.mono ?_
                rintro e w' ⟨rfl, rfl⟩
                go_wp2_with fail
                go_roundw
                case rel => exact ⟨k + 1, true, ar, cr, rst, by omega, by go_num, rfl, rfl, hrl, HR, Lib.hid (held_bad R3.out), B3.out⟩
                case measure => simp [intOf]; omega
              · have hrlen : rst.length = l.length - pos := by
                  have := congrArg List.length hp
                  rw [List.length_drop] at this
                  exact this
                have hpos : pos + s ≤ l.length := by omega
                rw [he] at T2
                have TB := Lib.hid (take_ok T2.out)
                have hs' : decide ((s : Int) ≤ 0) = false := by simp; omega
                obtain ⟨r, hr, hrm, HRM⟩ : ∃ r : Nat, (rst.length : Int) - (s : Int) = (r : Int) ∧ r ≤ 500 ∧ Hid (r = l.length - (pos + s)) := ⟨rst.length - s, by omega, by omega, by show _ = _; omega⟩
                have hwr : IntKind.u64.wrap (r : Int) = (r : Int) := by rw [IntKind.wrap_u64]; omega
                by_cases hf : r < v
                · have N := Lib.hid (rdText_few _ g l pos M v s R1.out hMl (by rw [← hp]; exact he) hpos (by rw [← HRM.out]; exact hf))
                  clear hp he T2 hR bx HH R1 hm0 hrlen
                  go_wp2_with fail
                  refine TA.out.mono ?_
                  rintro e w' ⟨rfl, rfl⟩
                  go_wp2_with fail
                  refine TB.out.mono ?_
                  rintro e w' ⟨rfl, rfl⟩
                  go_wp2_with fail
                  refine N.out.mono ?_
                  rintro e w3 ⟨rfl, r3, b3⟩
                  have R3 := Lib.hid r3
                  have B3 := Lib.hid (BX.out.trans (b3.mono hg.out))
                  have CB := Lib.hid (bad_any w3 g _ _ _ r3)
                  clear r3 b3
                  go_wp2_with fail
                  refine CB.out.mono ?_
                  rintro e w' ⟨rfl, rfl⟩
                  go_wp2_with fail
                  go_roundw
                  case rel => exact ⟨k + 1, true, ar, cr, rst, by omega, by go_num, rfl, rfl, hrl, HR, Lib.hid (held_bad R3.out), B3.out⟩
                  case measure => simp [intOf]; omega
                · have N := Lib.hid (rdText_ok _ g l pos M v s R1.out hMl (by rw [← hp]; exact he) hpos (by rw [← HRM.out]; exact hf))
                  have hwv : IntKind.i64.wrap (v : Int) = (v : Int) := by rw [IntKind.wrap_i64]; omega
                  obtain ⟨z, hz, HZ⟩ : ∃ z : Nat, (s : Int) + (v : Int) = (z : Int) ∧ Hid (z = s + v) := ⟨s + v, by omega, rfl⟩
                  have hzl : z ≤ rst.length := by have := HZ.out; omega
                  have hsz : s ≤ z := by have := HZ.out; omega
                  obtain ⟨a5, c5, s5, k5⟩ := slice_part (a := ar) hcr s z (s : Int) (z : Int) rfl rfl hsz hzl
                  obtain ⟨a6, c6, s6, k6⟩ := slice_from (a := ar) hcr z (z : Int) rfl hzl
                  have K6 := Lib.hid (k6 w HR.out)
                  have tx := run_text (k5 _ KR.out)
                  have HP := Lib.hid (show rst.drop z = l.drop (pos + s + v) by rw [hp, List.drop_drop, HZ.out]; congr 1; omega)
                  have HQ := Lib.hid (show (l.drop (pos + s)).take v = (rst.drop s).take (z - s) by rw [hp, List.drop_drop, HZ.out]; congr 1; omega)
                  rw [HQ.out] at N
                  have hdl : (rst.drop z).length ≤ 500 := by rw [List.length_drop]; omega
                  clear hp he T2 hR bx HH R1 hm0 hrlen k5 k6 HQ
                  generalize (rst.drop s).take (z - s) = body at *
                  generalize rst.drop z = rd at *
                  go_wp2_with fail
                  refine TA.out.mono ?_
                  rintro e w' ⟨rfl, rfl⟩
                  go_wp2_with fail
                  refine TB.out.mono ?_
                  rintro e w' ⟨rfl, rfl⟩
                  go_wp2_with fail
                  refine N.out.mono ?_
                  rintro e w3 ⟨rfl, r3, b3⟩
                  have R3 := Lib.hid r3
                  have B3 := Lib.hid (BX.out.trans (b3.mono hg.out))
                  have CB := Lib.hid (bad_any w3 g _ _ _ r3)
                  clear r3 b3
                  go_wp2_with fail
                  refine CB.out.mono ?_
                  rintro e w' ⟨rfl, rfl⟩
                  go_wp2_with fail
                  go_roundw
                  case rel => exact ⟨k + 1, false, a6, c6, rd, by omega, by go_num, rfl, rfl, hdl, K6, Lib.hid (.inl ⟨rfl, pos + s + v, R3.out, HP.out⟩), B3.out⟩
                  case measure => simp [intOf]; omega
            · have N := Lib.hid (rdText_bad _ g (M : Int) (hR.below bx) (by omega))
              obtain ⟨v2, u2, _, _, T21⟩ := take_any T2.out
              have TB := Lib.hid T21
              clear T2 T21 hR bx HH hm0
              go_wp2_with fail
              refine TA.out.mono ?_
              rintro e w' ⟨rfl, rfl⟩
              go_wp2_with fail
              refine TB.out.mono ?_
              rintro e w' ⟨rfl, rfl⟩
              go_wp2_with fail
              refine N.out.mono ?_
              rintro e w3 ⟨rfl, r3, b3⟩
              have R3 := Lib.hid r3
              have B3 := Lib.hid (BX.out.trans (b3.mono hg.out))
              have CB := Lib.hid (bad_any w3 g _ _ _ r3)
              clear r3 b3
              go_wp2_with fail
              refine CB.out.mono ?_
              rintro e w' ⟨rfl, rfl⟩
              go_wp2_with fail
              go_roundw
              case rel => exact ⟨k + 1, true, ar, cr, rst, by omega, by go_num, rfl, rfl, hrl, HR, Lib.hid (held_bad R3.out), B3.out⟩
              case measure => simp [intOf]; omega
      · rcases HH.out with ⟨rfl, pos, hR, hp⟩ | ⟨rfl, hR⟩
        · have hrlen : rst.length = l.length - pos := by
            have := congrArg List.length hp
            rw [List.length_drop] at this
            exact this
          have hpl := hR.le
          have CD := Lib.hid (done_any wr g l pos false hR)
          have HBW := Lib.hid hbw
          cases hz : ((rst.length : Int) == 0) with
          | true =>
            rw [show (!false && decide (pos = l.length)) = true by simp at hz; subst hz; simp at hrlen; simp; omega] at CD
            clear hp hR HH hrlen hpl
            go_wp2_with fail
            refine CD.out.mono ?_
            rintro e w3 ⟨rfl, b3⟩
            have B3 := HBW.out.trans (b3.mono HBW.out.size)
            go_wp2_with fail
            go_ret
            exact ⟨rfl, B3⟩
          | false =>
            rw [show (!false && decide (pos = l.length)) = false by
              have h0 : rst.length ≠ 0 := by intro e; rw [e] at hz; simp at hz
              simp
              omega] at CD
            clear hp hR HH hrlen hpl
            go_wp2_with fail
            refine CD.out.mono ?_
            rintro e w3 ⟨rfl, b3⟩
            have B3 := HBW.out.trans (b3.mono HBW.out.size)
            go_wp2_with fail
            go_ret
            exact ⟨rfl, B3⟩
        · have CD := Lib.hid (done_any wr g [] 0 true hR)
          rw [show (!true && decide (0 = ([] : List Nat).length)) = false by simp] at CD
          have HBW := Lib.hid hbw
          clear hR HH
          go_wp2_with fail
          refine CD.out.mono ?_
          rintro e w3 ⟨rfl, b3⟩
          have B3 := HBW.out.trans (b3.mono HBW.out.size)
          go_wp2_with fail
          go_ret
          exact ⟨rfl, B3⟩



set_option maxRecDepth 100000 in
theorem packetReads_lifted (os : Os) (started : os.Started) (H : Type) (enc : TypeId × Value → H) :
    ReturnsInHanded {} Try.checked os 6 .any (Rows.packetReadsSpec.pre6 enc Try.prog Try.f6 Rows.packetReadsRow.domain false) (Rows.packetReadsSpec.post enc Try.prog Try.f6 false true false false) := by
  refine returnsInHanded_of_change (C := Try.checked) own started (by kernel_rfl) Try.func6
    (ChangeSpec.witness6 (enc := enc) (C := Try.checked) false ⟨#[], #[.slice none 0 0, .slice none 0 0], []⟩ 8 (by kernel_rfl) (by kernel_rfl) (by kernel_rfl) (by kernel_rfl)) ?_
  intro W base args ds gs before hval0 hW _ _
  have hval : ∀ (j : Nat) t v, Try.f6.params[j]? = some t → args[j]? = some v → Value.okWide Try.prog W .any base t v := hval0
  have hW' := hW
  obtain ⟨p, q, hA0, hV, rfl, _, _⟩ := hW
  have hA : DataW.TrodAll enc Try.prog W 0 (fun _ => true) true Try.f6.params.toList args.toList ds p := hA0
  rw [Try.params6] at hA hval
  obtain ⟨v0, vs0, d0, ds0, p0, q_0, hargs, rfl, rfl, h0, r0⟩ := trodAll_cons hA
  obtain ⟨v1, vs1, d1, ds1, p1, q_1, rfl, rfl, rfl, h1, r1⟩ := trodAll_cons r0
  obtain ⟨rfl, rfl, rfl⟩ := trodAll_nil r1
  obtain rfl : args = #[v0, v1] := by cases args; simp_all
  obtain ⟨rfl, rfl⟩ := trodVars_none hV
  clear hA0 hval0
  simp only [List.append_nil] at hW'
  obtain ⟨q0, cap0, l0, rfl, hS0, hm0⟩ := bytes_of_trod (hval 0 22 v0 rfl rfl) h0
  have hlt0 : ∀ x ∈ p0, x.block < W.heap.size := fun x hx => by simpa using hW'.lt x (by simpa using (by simp [hx]))
  obtain ⟨q1, cap1, l1, rfl, hS1, hm1⟩ := steps_of_trod (hval 1 45 v1 rfl rfl) h1
  have hlt1 : ∀ x ∈ p1, x.block < W.heap.size := fun x hx => by simpa using hW'.lt x (by simpa using (by simp [hx]))
  refine (reads_walk q0 q1 cap0 cap1 l0 l1 W hS0 hS1).mono fun e W' ⟨he, hb⟩ => ?_
  subst he
  have hT : DataW.TrodAll enc Try.prog W' 0 (fun b => decide (b < W.heap.size)) true _ _ _ _ := (trodAll_cons_mk (Below.trod laidOut (by kernel_rfl) (of_decide_eq_true (by kernel_rfl)) h0 hb hlt0) (trodAll_cons_mk (Below.trod laidOut (by kernel_rfl) (of_decide_eq_true (by kernel_rfl)) h1 hb hlt1) trodAll_mk0))
  simp only [List.append_nil] at hT
  exact ⟨_, rfl, _, _, _, [], p0 ++ (p1), [], hW', trodAll_mk1 (shut_bool Try.underlying4 _), hT, rfl, hb.frame _, fun h => by cases h⟩

theorem packetReads_holds : Rows.PacketReadsSaid :=
  OpenClaim.holds_of_wide 6 Try.f6 rfl rfl rfl rfl rfl rfl rfl ⟨rfl, rfl, rfl, rfl, rfl⟩ rfl rfl rfl rfl rfl (by kernel_rfl) Try.func6 (by kernel_rfl)
    (of_decide_eq_true (by kernel_rfl)) (by unfold Func.isWrapper; first | (rw [if_pos (by decide +kernel)]; kernel_rfl) | (rw [if_neg (by decide +kernel)]; exact ⟨rfl, rfl⟩))
    (fun os started H enc _ => packetReads_lifted os started H enc)
#print axioms packetReads_holds


end Go.Proofs.Ytfdeeanoohopfaa
