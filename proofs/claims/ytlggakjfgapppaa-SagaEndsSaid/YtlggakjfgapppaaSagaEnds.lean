/- SagaEnds: the law returns true for any saga, any answers and any number: it comes to an end. It has no conditions. -/
import Derived.Test.YtlggakjfgapppaaSgStep
import Derived.Test.YtlggakjfgapppaaSgAlive
import Derived.Test.YtlggakjfgapppaaSgProg
import Derived.Test.YtlggakjfgapppaaSgArgs
namespace Go.Proofs.Ytlggakjfgapppaa
open Go.ChangeShapes Go.WideShapes Go.ChangeAt Go.RowKit

set_option maxRecDepth 100000
attribute [local go_sem ↓] ldSg stSg alSg bxSg eqSg bdSg
attribute [local go_sem] al_sg bx_sg bd_sg bd_sg0 st_sgnew

set_option maxHeartbeats 8000000 in
theorem ends_walk (HS : StepC) (s0 : Sg) (a : Option Addr) (cap : Nat) (l : List Bool) (limit : Int) (w : World) (h : BoolsP w a cap l) : Calls Try.prog 6 #[sgV s0, .slice a l.length cap, .int .i64 limit] w (Tell true w) := by
  have CV := Lib.hid (fun W => alive_of HS W)
  have HS := Lib.hid HS
  have H := Lib.hid h
  have hca := h.cap
  have hlm := h.len
  have R0 := Lib.hid (Row.new w (sgC s0) 25)
  have B0 := Lib.hid ((Below.refl w.heap.size w).alloc (Nat.le_refl _) (.cells (sgC s0) 25))
  clear h
  go_enter Try.func6, Try.ntmps6
  go_wp2_with fail
  generalize w.alloc (.cells (sgC s0) 25) = W0 at *
  refine (CV.out _).mono ?_
  rintro x W1 ⟨rfl, b1⟩
  have R1 := Lib.hid (R0.out.below b1)
  have B1 := Lib.hid (B0.out.trans (b1.mono B0.out.size))
  obtain ⟨⟨c0, _, c2⟩, _⟩ := R1.out.s
  clear b1 R0 B0 CV
  by_cases g1 : s0.phase < 1
  · go_wp2_with fail
    go_ret
    exact ⟨rfl, B1.out⟩
  · have q1 := g1
    by_cases g2 : 12 < s0.phase
    · go_wp2_with fail
      go_ret
      exact ⟨rfl, B1.out⟩
    · have q2 := g2
      by_cases g3 : s0.ref ≠ 0
      · have q3 : (s0.ref != 0) = true := by simpa using g3
        go_wp2_with fail
        go_ret
        exact ⟨rfl, B1.out⟩
      · have q3 : (s0.ref != 0) = false := by simpa using g3
        by_cases g4 : limit < 1
        · go_wp2_with fail
          go_ret
          exact ⟨rfl, B1.out⟩
        · have q4 := g4
          by_cases g5 : 50 < limit
          · go_wp2_with fail
            go_ret
            exact ⟨rfl, B1.out⟩
          · have q5 := g5
            by_cases g6 : 300 < l.length
            · have q6 : (300 : Int) < (l.length : Int) := by omega
              go_wp2_with fail
              go_ret
              exact ⟨rfl, B1.out⟩
            · have q6 : ¬ (300 : Int) < (l.length : Int) := by omega
              obtain ⟨p0, g0, r0⟩ := s0
              simp only at g1 g2 g3 g4 g5 q1 q2 q3 c0 c2
              obtain rfl : r0 = 0 := by simpa using g3
              go_wp2_with fail
              clear c0 c2 q1 q2 q3 q4 q5 q6 g3
              go_loopw [7, 8] (fun s7 s8 wr => ∃ (k : Nat) (n : Int) (s : Sg), k ≤ 300 ∧ s8 = .int .i64 k ∧ s7 = .int .i64 n ∧ 0 ≤ n ∧ n ≤ k ∧ Hid (1 ≤ s.phase ∧ s.phase ≤ 12) ∧ Hid (0 ≤ s.ref ∧ s.ref ≤ 1000000) ∧ Hid (overB s.phase = false ∨ k ≠ 0 → countB s n limit) ∧ Hid (k ≤ l.length ∨ k + remN s.phase ≤ l.length + 7) ∧ Hid (Row wr w.heap.size 25 (sgC s)) ∧ Hid (Below w.heap.size w wr)) (fun _ s8 _ => 300 - (intOf s8).toNat)
              case atStart => exact ⟨0, 0, ⟨p0, g0, 0⟩, by omega, rfl, rfl, by omega, by omega, Lib.hid (by simp only; omega), Lib.hid (by simp), Lib.hid (fun h => by
                  rcases h with h | h
                  · refine ⟨fun _ => ⟨rfl, rfl⟩, fun _ => rfl, fun h12 => ?_⟩
                    simp only at h12 h
                    subst h12
                    exact absurd h (by decide)
                  · exact absurd rfl h), Lib.hid (.inl (Nat.zero_le _)), R1, B1⟩
              case round =>
                clear R1 B1
                obtain ⟨k, n, s, hk, rfl, rfl, hn0, hnk, HP, HR, HC, HK, R, B⟩ := hrel
                by_cases hlt : k < 300
                · have hlti : (k : Int) < 300 := by omega
                  obtain ⟨p, g, r⟩ := s
                  simp only at HP HR HC HK
                  by_cases ho : overB p = true
                  · have hk7 : (k : Int) ≤ 12 + 2 * limit + l.length := by
                      have h1 := HK.out
                      have h2 := rem_in p
                      omega
                    have hp3 : p = 8 ∨ p = 11 ∨ p = 12 := by simpa [overB] using ho
                    have hst : p = 12 → k ≠ 0 → limit ≤ n := fun e hk0 => (HC.out (.inr hk0)).2.2 e
                    rcases hp3 with rfl | rfl | rfl
                    · have c0 : _ = some (Value.int .i64 8) := R.out.cell 0
                      go_wp2_with fail
                      go_ret
                      exact ⟨by simp, B.out⟩
                    · have c0 : _ = some (Value.int .i64 11) := R.out.cell 0
                      go_wp2_with fail
                      go_ret
                      exact ⟨by simp, B.out⟩
                    · have c0 : _ = some (Value.int .i64 12) := R.out.cell 0
                      by_cases hln : limit ≤ n
                      · go_wp2_with fail
                        go_ret
                        exact ⟨by simp, B.out⟩
                      · obtain rfl : k = 0 := by
                          by_cases hk0 : k = 0
                          · exact hk0
                          · exact absurd (hst rfl hk0) hln
                        go_wp2_with fail
                        go_ret
                        exact ⟨by simp, B.out⟩
                  · replace ho : overB p = false := by simpa using ho
                    have hp9 : p = 1 ∨ p = 2 ∨ p = 3 ∨ p = 4 ∨ p = 5 ∨ p = 6 ∨ p = 7 ∨ p = 9 ∨ p = 10 := by
                      have := HP.out
                      simp only [overB, Bool.or_eq_false_iff, beq_eq_false_iff_ne] at ho
                      omega
                    have HC0 := HC.out (.inl ho)
                    have hrp : 1 ≤ remN p := rem_pos HP.out ho
                    have G := Lib.hid (fun e (hg : goesB p e) => goes_step (s := ⟨p, g, r⟩) (event := e) (limit := limit) (n := n) HP.out ho hg (by omega) HC0 (by omega))
                    clear HC HC0 ho
                    rcases hp9 with rfl | rfl | rfl | rfl | rfl | rfl | rfl | rfl | rfl
                    · have c0 : _ = some (Value.int .i64 1) := R.out.cell 0
                      have ld := ld_sg (s := ⟨1, g, r⟩) R.out
                      by_cases hin : k < l.length
                      · obtain ⟨b, o, rfl, hb, cx⟩ := (H.out.below B.out).at k hin
                        have hini : (k : Int) < (l.length : Int) := by omega
                        generalize l[k] = x at *
                        cases x
                        · have C1 := Lib.hid (HS.out ⟨1, g, r⟩ 1 limit wr HR.out)
                          obtain ⟨f0, f1, f2, f3⟩ := G.out 1 (by simp [goesB])
                          have f4 := step_ref (event := 1) (limit := limit) (s := ⟨1, g, r⟩) HR.out
                          unfold StepP at C1
                          rw [f0] at C1
                          generalize (stepS ⟨1, g, r⟩ 1 limit).1 = z at *
                          generalize (stepS ⟨1, g, r⟩ 1 limit).2.1 = m at *
                          have F := Lib.hid (And.intro f1 (And.intro f2 (And.intro f3 f4)))
                          clear f0 f1 f2 f3 f4
                          go_wp2_with fail
                          refine C1.out.mono ?_
                          rintro e w2 ⟨rfl, b2⟩
                          have RV := Lib.hid ((R.out.below b2).more (.cells (sgC z) 25))
                          have RN := Lib.hid (Row.new w2 (sgC z) 25)
                          have B3 := Lib.hid ((B.out.trans (b2.mono B.out.size)).alloc (Nat.le_trans B.out.size b2.size) (.cells (sgC z) 25))
                          clear ld C1 b2 R B
                          have l2 := ld_sg RN.out
                          have st := st_sg RV.out z
                          go_wp2_with fail
                          go_roundw
                          case rel => exact ⟨k + 1, n, z, by omega, by go_num, by first | rfl | go_num, by omega, by omega, Lib.hid F.out.1, Lib.hid F.out.2.2.2, Lib.hid (fun _ => by have h := F.out.2.2.1; simpa [countN, undoB] using h), Lib.hid (by have h1 := F.out.2.1 (by decide); have h2 := HK.out; have h3 := rem_in z.phase; have h4 := rem_in 1; omega), Lib.hid (sg_set RV.out z), Lib.hid (Below.row B3.out (Nat.le_refl _) _)⟩
                          case measure => simp [intOf]; omega
                        · have C1 := Lib.hid (HS.out ⟨1, g, r⟩ 2 limit wr HR.out)
                          obtain ⟨f0, f1, f2, f3⟩ := G.out 2 (by simp [goesB])
                          have f4 := step_ref (event := 2) (limit := limit) (s := ⟨1, g, r⟩) HR.out
                          unfold StepP at C1
                          rw [f0] at C1
                          generalize (stepS ⟨1, g, r⟩ 2 limit).1 = z at *
                          generalize (stepS ⟨1, g, r⟩ 2 limit).2.1 = m at *
                          have F := Lib.hid (And.intro f1 (And.intro f2 (And.intro f3 f4)))
                          clear f0 f1 f2 f3 f4
                          go_wp2_with fail
                          refine C1.out.mono ?_
                          rintro e w2 ⟨rfl, b2⟩
                          have RV := Lib.hid ((R.out.below b2).more (.cells (sgC z) 25))
                          have RN := Lib.hid (Row.new w2 (sgC z) 25)
                          have B3 := Lib.hid ((B.out.trans (b2.mono B.out.size)).alloc (Nat.le_trans B.out.size b2.size) (.cells (sgC z) 25))
                          clear ld C1 b2 R B
                          have l2 := ld_sg RN.out
                          have st := st_sg RV.out z
                          go_wp2_with fail
                          go_roundw
                          case rel => exact ⟨k + 1, n, z, by omega, by go_num, by first | rfl | go_num, by omega, by omega, Lib.hid F.out.1, Lib.hid F.out.2.2.2, Lib.hid (fun _ => by have h := F.out.2.2.1; simpa [countN, undoB] using h), Lib.hid (by have h2 := HK.out; have h3 := rem_in z.phase; have h4 := rem_in 1; omega), Lib.hid (sg_set RV.out z), Lib.hid (Below.row B3.out (Nat.le_refl _) _)⟩
                          case measure => simp [intOf]; omega
                      · have hini : ¬ (k : Int) < (l.length : Int) := by omega
                        have C1 := Lib.hid (HS.out ⟨1, g, r⟩ 1 limit wr HR.out)
                        obtain ⟨f0, f1, f2, f3⟩ := G.out 1 (by simp [goesB])
                        have f4 := step_ref (event := 1) (limit := limit) (s := ⟨1, g, r⟩) HR.out
                        unfold StepP at C1
                        rw [f0] at C1
                        generalize (stepS ⟨1, g, r⟩ 1 limit).1 = z at *
                        generalize (stepS ⟨1, g, r⟩ 1 limit).2.1 = m at *
                        have F := Lib.hid (And.intro f1 (And.intro f2 (And.intro f3 f4)))
                        clear f0 f1 f2 f3 f4
                        go_wp2_with fail
                        refine C1.out.mono ?_
                        rintro e w2 ⟨rfl, b2⟩
                        have RV := Lib.hid ((R.out.below b2).more (.cells (sgC z) 25))
                        have RN := Lib.hid (Row.new w2 (sgC z) 25)
                        have B3 := Lib.hid ((B.out.trans (b2.mono B.out.size)).alloc (Nat.le_trans B.out.size b2.size) (.cells (sgC z) 25))
                        clear ld C1 b2 R B
                        have l2 := ld_sg RN.out
                        have st := st_sg RV.out z
                        go_wp2_with fail
                        go_roundw
                        case rel => exact ⟨k + 1, n, z, by omega, by go_num, by first | rfl | go_num, by omega, by omega, Lib.hid F.out.1, Lib.hid F.out.2.2.2, Lib.hid (fun _ => by have h := F.out.2.2.1; simpa [countN, undoB] using h), Lib.hid (by have h1 := F.out.2.1 (by decide); have h2 := HK.out; have h3 := rem_in z.phase; have h4 := rem_in 1; omega), Lib.hid (sg_set RV.out z), Lib.hid (Below.row B3.out (Nat.le_refl _) _)⟩
                        case measure => simp [intOf]; omega
                    · have c0 : _ = some (Value.int .i64 2) := R.out.cell 0
                      have ld := ld_sg (s := ⟨2, g, r⟩) R.out
                      by_cases hin : k < l.length
                      · obtain ⟨b, o, rfl, hb, cx⟩ := (H.out.below B.out).at k hin
                        have hini : (k : Int) < (l.length : Int) := by omega
                        generalize l[k] = x at *
                        cases x
                        · have C1 := Lib.hid (HS.out ⟨2, g, r⟩ 1 limit wr HR.out)
                          obtain ⟨f0, f1, f2, f3⟩ := G.out 1 (by simp [goesB])
                          have f4 := step_ref (event := 1) (limit := limit) (s := ⟨2, g, r⟩) HR.out
                          unfold StepP at C1
                          rw [f0] at C1
                          generalize (stepS ⟨2, g, r⟩ 1 limit).1 = z at *
                          generalize (stepS ⟨2, g, r⟩ 1 limit).2.1 = m at *
                          have F := Lib.hid (And.intro f1 (And.intro f2 (And.intro f3 f4)))
                          clear f0 f1 f2 f3 f4
                          go_wp2_with fail
                          refine C1.out.mono ?_
                          rintro e w2 ⟨rfl, b2⟩
                          have RV := Lib.hid ((R.out.below b2).more (.cells (sgC z) 25))
                          have RN := Lib.hid (Row.new w2 (sgC z) 25)
                          have B3 := Lib.hid ((B.out.trans (b2.mono B.out.size)).alloc (Nat.le_trans B.out.size b2.size) (.cells (sgC z) 25))
                          clear ld C1 b2 R B
                          have l2 := ld_sg RN.out
                          have st := st_sg RV.out z
                          go_wp2_with fail
                          go_roundw
                          case rel => exact ⟨k + 1, n, z, by omega, by go_num, by first | rfl | go_num, by omega, by omega, Lib.hid F.out.1, Lib.hid F.out.2.2.2, Lib.hid (fun _ => by have h := F.out.2.2.1; simpa [countN, undoB] using h), Lib.hid (by have h1 := F.out.2.1 (by decide); have h2 := HK.out; have h3 := rem_in z.phase; have h4 := rem_in 2; omega), Lib.hid (sg_set RV.out z), Lib.hid (Below.row B3.out (Nat.le_refl _) _)⟩
                          case measure => simp [intOf]; omega
                        · have C1 := Lib.hid (HS.out ⟨2, g, r⟩ 2 limit wr HR.out)
                          obtain ⟨f0, f1, f2, f3⟩ := G.out 2 (by simp [goesB])
                          have f4 := step_ref (event := 2) (limit := limit) (s := ⟨2, g, r⟩) HR.out
                          unfold StepP at C1
                          rw [f0] at C1
                          generalize (stepS ⟨2, g, r⟩ 2 limit).1 = z at *
                          generalize (stepS ⟨2, g, r⟩ 2 limit).2.1 = m at *
                          have F := Lib.hid (And.intro f1 (And.intro f2 (And.intro f3 f4)))
                          clear f0 f1 f2 f3 f4
                          go_wp2_with fail
                          refine C1.out.mono ?_
                          rintro e w2 ⟨rfl, b2⟩
                          have RV := Lib.hid ((R.out.below b2).more (.cells (sgC z) 25))
                          have RN := Lib.hid (Row.new w2 (sgC z) 25)
                          have B3 := Lib.hid ((B.out.trans (b2.mono B.out.size)).alloc (Nat.le_trans B.out.size b2.size) (.cells (sgC z) 25))
                          clear ld C1 b2 R B
                          have l2 := ld_sg RN.out
                          have st := st_sg RV.out z
                          go_wp2_with fail
                          go_roundw
                          case rel => exact ⟨k + 1, n, z, by omega, by go_num, by first | rfl | go_num, by omega, by omega, Lib.hid F.out.1, Lib.hid F.out.2.2.2, Lib.hid (fun _ => by have h := F.out.2.2.1; simpa [countN, undoB] using h), Lib.hid (by have h2 := HK.out; have h3 := rem_in z.phase; have h4 := rem_in 2; omega), Lib.hid (sg_set RV.out z), Lib.hid (Below.row B3.out (Nat.le_refl _) _)⟩
                          case measure => simp [intOf]; omega
                      · have hini : ¬ (k : Int) < (l.length : Int) := by omega
                        have C1 := Lib.hid (HS.out ⟨2, g, r⟩ 1 limit wr HR.out)
                        obtain ⟨f0, f1, f2, f3⟩ := G.out 1 (by simp [goesB])
                        have f4 := step_ref (event := 1) (limit := limit) (s := ⟨2, g, r⟩) HR.out
                        unfold StepP at C1
                        rw [f0] at C1
                        generalize (stepS ⟨2, g, r⟩ 1 limit).1 = z at *
                        generalize (stepS ⟨2, g, r⟩ 1 limit).2.1 = m at *
                        have F := Lib.hid (And.intro f1 (And.intro f2 (And.intro f3 f4)))
                        clear f0 f1 f2 f3 f4
                        go_wp2_with fail
                        refine C1.out.mono ?_
                        rintro e w2 ⟨rfl, b2⟩
                        have RV := Lib.hid ((R.out.below b2).more (.cells (sgC z) 25))
                        have RN := Lib.hid (Row.new w2 (sgC z) 25)
                        have B3 := Lib.hid ((B.out.trans (b2.mono B.out.size)).alloc (Nat.le_trans B.out.size b2.size) (.cells (sgC z) 25))
                        clear ld C1 b2 R B
                        have l2 := ld_sg RN.out
                        have st := st_sg RV.out z
                        go_wp2_with fail
                        go_roundw
                        case rel => exact ⟨k + 1, n, z, by omega, by go_num, by first | rfl | go_num, by omega, by omega, Lib.hid F.out.1, Lib.hid F.out.2.2.2, Lib.hid (fun _ => by have h := F.out.2.2.1; simpa [countN, undoB] using h), Lib.hid (by have h1 := F.out.2.1 (by decide); have h2 := HK.out; have h3 := rem_in z.phase; have h4 := rem_in 2; omega), Lib.hid (sg_set RV.out z), Lib.hid (Below.row B3.out (Nat.le_refl _) _)⟩
                        case measure => simp [intOf]; omega
                    · have c0 : _ = some (Value.int .i64 3) := R.out.cell 0
                      have ld := ld_sg (s := ⟨3, g, r⟩) R.out
                      have C1 := Lib.hid (HS.out ⟨3, g, r⟩ 4 limit wr HR.out)
                      obtain ⟨f0, f1, f2, f3⟩ := G.out 4 (by simp [goesB])
                      have f4 := step_ref (event := 4) (limit := limit) (s := ⟨3, g, r⟩) HR.out
                      unfold StepP at C1
                      rw [f0] at C1
                      generalize (stepS ⟨3, g, r⟩ 4 limit).1 = z at *
                      generalize (stepS ⟨3, g, r⟩ 4 limit).2.1 = m at *
                      have F := Lib.hid (And.intro f1 (And.intro f2 (And.intro f3 f4)))
                      clear f0 f1 f2 f3 f4
                      go_wp2_with fail
                      refine C1.out.mono ?_
                      rintro e w2 ⟨rfl, b2⟩
                      have RV := Lib.hid ((R.out.below b2).more (.cells (sgC z) 25))
                      have RN := Lib.hid (Row.new w2 (sgC z) 25)
                      have B3 := Lib.hid ((B.out.trans (b2.mono B.out.size)).alloc (Nat.le_trans B.out.size b2.size) (.cells (sgC z) 25))
                      clear ld C1 b2 R B
                      have l2 := ld_sg RN.out
                      have st := st_sg RV.out z
                      go_wp2_with fail
                      go_roundw
                      case rel => exact ⟨k + 1, n, z, by omega, by go_num, by first | rfl | go_num, by omega, by omega, Lib.hid F.out.1, Lib.hid F.out.2.2.2, Lib.hid (fun _ => by have h := F.out.2.2.1; simpa [countN, undoB] using h), Lib.hid (by have h1 := F.out.2.1 (by decide); have h2 := HK.out; have h3 := rem_in z.phase; have h4 := rem_in 3; omega), Lib.hid (sg_set RV.out z), Lib.hid (Below.row B3.out (Nat.le_refl _) _)⟩
                      case measure => simp [intOf]; omega
                    · have c0 : _ = some (Value.int .i64 4) := R.out.cell 0
                      have ld := ld_sg (s := ⟨4, g, r⟩) R.out
                      by_cases hin : k < l.length
                      · obtain ⟨b, o, rfl, hb, cx⟩ := (H.out.below B.out).at k hin
                        have hini : (k : Int) < (l.length : Int) := by omega
                        generalize l[k] = x at *
                        cases x
                        · have C1 := Lib.hid (HS.out ⟨4, g, r⟩ 1 limit wr HR.out)
                          obtain ⟨f0, f1, f2, f3⟩ := G.out 1 (by simp [goesB])
                          have f4 := step_ref (event := 1) (limit := limit) (s := ⟨4, g, r⟩) HR.out
                          unfold StepP at C1
                          rw [f0] at C1
                          generalize (stepS ⟨4, g, r⟩ 1 limit).1 = z at *
                          generalize (stepS ⟨4, g, r⟩ 1 limit).2.1 = m at *
                          have F := Lib.hid (And.intro f1 (And.intro f2 (And.intro f3 f4)))
                          clear f0 f1 f2 f3 f4
                          go_wp2_with fail
                          refine C1.out.mono ?_
                          rintro e w2 ⟨rfl, b2⟩
                          have RV := Lib.hid ((R.out.below b2).more (.cells (sgC z) 25))
                          have RN := Lib.hid (Row.new w2 (sgC z) 25)
                          have B3 := Lib.hid ((B.out.trans (b2.mono B.out.size)).alloc (Nat.le_trans B.out.size b2.size) (.cells (sgC z) 25))
                          clear ld C1 b2 R B
                          have l2 := ld_sg RN.out
                          have st := st_sg RV.out z
                          go_wp2_with fail
                          go_roundw
                          case rel => exact ⟨k + 1, n, z, by omega, by go_num, by first | rfl | go_num, by omega, by omega, Lib.hid F.out.1, Lib.hid F.out.2.2.2, Lib.hid (fun _ => by have h := F.out.2.2.1; simpa [countN, undoB] using h), Lib.hid (by have h1 := F.out.2.1 (by decide); have h2 := HK.out; have h3 := rem_in z.phase; have h4 := rem_in 4; omega), Lib.hid (sg_set RV.out z), Lib.hid (Below.row B3.out (Nat.le_refl _) _)⟩
                          case measure => simp [intOf]; omega
                        · have C1 := Lib.hid (HS.out ⟨4, g, r⟩ 2 limit wr HR.out)
                          obtain ⟨f0, f1, f2, f3⟩ := G.out 2 (by simp [goesB])
                          have f4 := step_ref (event := 2) (limit := limit) (s := ⟨4, g, r⟩) HR.out
                          unfold StepP at C1
                          rw [f0] at C1
                          generalize (stepS ⟨4, g, r⟩ 2 limit).1 = z at *
                          generalize (stepS ⟨4, g, r⟩ 2 limit).2.1 = m at *
                          have F := Lib.hid (And.intro f1 (And.intro f2 (And.intro f3 f4)))
                          clear f0 f1 f2 f3 f4
                          go_wp2_with fail
                          refine C1.out.mono ?_
                          rintro e w2 ⟨rfl, b2⟩
                          have RV := Lib.hid ((R.out.below b2).more (.cells (sgC z) 25))
                          have RN := Lib.hid (Row.new w2 (sgC z) 25)
                          have B3 := Lib.hid ((B.out.trans (b2.mono B.out.size)).alloc (Nat.le_trans B.out.size b2.size) (.cells (sgC z) 25))
                          clear ld C1 b2 R B
                          have l2 := ld_sg RN.out
                          have st := st_sg RV.out z
                          go_wp2_with fail
                          go_roundw
                          case rel => exact ⟨k + 1, n, z, by omega, by go_num, by first | rfl | go_num, by omega, by omega, Lib.hid F.out.1, Lib.hid F.out.2.2.2, Lib.hid (fun _ => by have h := F.out.2.2.1; simpa [countN, undoB] using h), Lib.hid (by have h2 := HK.out; have h3 := rem_in z.phase; have h4 := rem_in 4; omega), Lib.hid (sg_set RV.out z), Lib.hid (Below.row B3.out (Nat.le_refl _) _)⟩
                          case measure => simp [intOf]; omega
                      · have hini : ¬ (k : Int) < (l.length : Int) := by omega
                        have C1 := Lib.hid (HS.out ⟨4, g, r⟩ 1 limit wr HR.out)
                        obtain ⟨f0, f1, f2, f3⟩ := G.out 1 (by simp [goesB])
                        have f4 := step_ref (event := 1) (limit := limit) (s := ⟨4, g, r⟩) HR.out
                        unfold StepP at C1
                        rw [f0] at C1
                        generalize (stepS ⟨4, g, r⟩ 1 limit).1 = z at *
                        generalize (stepS ⟨4, g, r⟩ 1 limit).2.1 = m at *
                        have F := Lib.hid (And.intro f1 (And.intro f2 (And.intro f3 f4)))
                        clear f0 f1 f2 f3 f4
                        go_wp2_with fail
                        refine C1.out.mono ?_
                        rintro e w2 ⟨rfl, b2⟩
                        have RV := Lib.hid ((R.out.below b2).more (.cells (sgC z) 25))
                        have RN := Lib.hid (Row.new w2 (sgC z) 25)
                        have B3 := Lib.hid ((B.out.trans (b2.mono B.out.size)).alloc (Nat.le_trans B.out.size b2.size) (.cells (sgC z) 25))
                        clear ld C1 b2 R B
                        have l2 := ld_sg RN.out
                        have st := st_sg RV.out z
                        go_wp2_with fail
                        go_roundw
                        case rel => exact ⟨k + 1, n, z, by omega, by go_num, by first | rfl | go_num, by omega, by omega, Lib.hid F.out.1, Lib.hid F.out.2.2.2, Lib.hid (fun _ => by have h := F.out.2.2.1; simpa [countN, undoB] using h), Lib.hid (by have h1 := F.out.2.1 (by decide); have h2 := HK.out; have h3 := rem_in z.phase; have h4 := rem_in 4; omega), Lib.hid (sg_set RV.out z), Lib.hid (Below.row B3.out (Nat.le_refl _) _)⟩
                        case measure => simp [intOf]; omega
                    · have c0 : _ = some (Value.int .i64 5) := R.out.cell 0
                      have ld := ld_sg (s := ⟨5, g, r⟩) R.out
                      have C1 := Lib.hid (HS.out ⟨5, g, r⟩ 4 limit wr HR.out)
                      obtain ⟨f0, f1, f2, f3⟩ := G.out 4 (by simp [goesB])
                      have f4 := step_ref (event := 4) (limit := limit) (s := ⟨5, g, r⟩) HR.out
                      unfold StepP at C1
                      rw [f0] at C1
                      generalize (stepS ⟨5, g, r⟩ 4 limit).1 = z at *
                      generalize (stepS ⟨5, g, r⟩ 4 limit).2.1 = m at *
                      have F := Lib.hid (And.intro f1 (And.intro f2 (And.intro f3 f4)))
                      clear f0 f1 f2 f3 f4
                      go_wp2_with fail
                      refine C1.out.mono ?_
                      rintro e w2 ⟨rfl, b2⟩
                      have RV := Lib.hid ((R.out.below b2).more (.cells (sgC z) 25))
                      have RN := Lib.hid (Row.new w2 (sgC z) 25)
                      have B3 := Lib.hid ((B.out.trans (b2.mono B.out.size)).alloc (Nat.le_trans B.out.size b2.size) (.cells (sgC z) 25))
                      clear ld C1 b2 R B
                      have l2 := ld_sg RN.out
                      have st := st_sg RV.out z
                      go_wp2_with fail
                      go_roundw
                      case rel => exact ⟨k + 1, n, z, by omega, by go_num, by first | rfl | go_num, by omega, by omega, Lib.hid F.out.1, Lib.hid F.out.2.2.2, Lib.hid (fun _ => by have h := F.out.2.2.1; simpa [countN, undoB] using h), Lib.hid (by have h1 := F.out.2.1 (by decide); have h2 := HK.out; have h3 := rem_in z.phase; have h4 := rem_in 5; omega), Lib.hid (sg_set RV.out z), Lib.hid (Below.row B3.out (Nat.le_refl _) _)⟩
                      case measure => simp [intOf]; omega
                    · have c0 : _ = some (Value.int .i64 6) := R.out.cell 0
                      have ld := ld_sg (s := ⟨6, g, r⟩) R.out
                      by_cases hin : k < l.length
                      · obtain ⟨b, o, rfl, hb, cx⟩ := (H.out.below B.out).at k hin
                        have hini : (k : Int) < (l.length : Int) := by omega
                        generalize l[k] = x at *
                        cases x
                        · have C1 := Lib.hid (HS.out ⟨6, g, r⟩ 1 limit wr HR.out)
                          obtain ⟨f0, f1, f2, f3⟩ := G.out 1 (by simp [goesB])
                          have f4 := step_ref (event := 1) (limit := limit) (s := ⟨6, g, r⟩) HR.out
                          unfold StepP at C1
                          rw [f0] at C1
                          generalize (stepS ⟨6, g, r⟩ 1 limit).1 = z at *
                          generalize (stepS ⟨6, g, r⟩ 1 limit).2.1 = m at *
                          have F := Lib.hid (And.intro f1 (And.intro f2 (And.intro f3 f4)))
                          clear f0 f1 f2 f3 f4
                          go_wp2_with fail
                          refine C1.out.mono ?_
                          rintro e w2 ⟨rfl, b2⟩
                          have RV := Lib.hid ((R.out.below b2).more (.cells (sgC z) 25))
                          have RN := Lib.hid (Row.new w2 (sgC z) 25)
                          have B3 := Lib.hid ((B.out.trans (b2.mono B.out.size)).alloc (Nat.le_trans B.out.size b2.size) (.cells (sgC z) 25))
                          clear ld C1 b2 R B
                          have l2 := ld_sg RN.out
                          have st := st_sg RV.out z
                          go_wp2_with fail
                          go_roundw
                          case rel => exact ⟨k + 1, n, z, by omega, by go_num, by first | rfl | go_num, by omega, by omega, Lib.hid F.out.1, Lib.hid F.out.2.2.2, Lib.hid (fun _ => by have h := F.out.2.2.1; simpa [countN, undoB] using h), Lib.hid (by have h1 := F.out.2.1 (by decide); have h2 := HK.out; have h3 := rem_in z.phase; have h4 := rem_in 6; omega), Lib.hid (sg_set RV.out z), Lib.hid (Below.row B3.out (Nat.le_refl _) _)⟩
                          case measure => simp [intOf]; omega
                        · have C1 := Lib.hid (HS.out ⟨6, g, r⟩ 2 limit wr HR.out)
                          obtain ⟨f0, f1, f2, f3⟩ := G.out 2 (by simp [goesB])
                          have f4 := step_ref (event := 2) (limit := limit) (s := ⟨6, g, r⟩) HR.out
                          unfold StepP at C1
                          rw [f0] at C1
                          generalize (stepS ⟨6, g, r⟩ 2 limit).1 = z at *
                          generalize (stepS ⟨6, g, r⟩ 2 limit).2.1 = m at *
                          have F := Lib.hid (And.intro f1 (And.intro f2 (And.intro f3 f4)))
                          clear f0 f1 f2 f3 f4
                          go_wp2_with fail
                          refine C1.out.mono ?_
                          rintro e w2 ⟨rfl, b2⟩
                          have RV := Lib.hid ((R.out.below b2).more (.cells (sgC z) 25))
                          have RN := Lib.hid (Row.new w2 (sgC z) 25)
                          have B3 := Lib.hid ((B.out.trans (b2.mono B.out.size)).alloc (Nat.le_trans B.out.size b2.size) (.cells (sgC z) 25))
                          clear ld C1 b2 R B
                          have l2 := ld_sg RN.out
                          have st := st_sg RV.out z
                          go_wp2_with fail
                          go_roundw
                          case rel => exact ⟨k + 1, n, z, by omega, by go_num, by first | rfl | go_num, by omega, by omega, Lib.hid F.out.1, Lib.hid F.out.2.2.2, Lib.hid (fun _ => by have h := F.out.2.2.1; simpa [countN, undoB] using h), Lib.hid (by have h2 := HK.out; have h3 := rem_in z.phase; have h4 := rem_in 6; omega), Lib.hid (sg_set RV.out z), Lib.hid (Below.row B3.out (Nat.le_refl _) _)⟩
                          case measure => simp [intOf]; omega
                      · have hini : ¬ (k : Int) < (l.length : Int) := by omega
                        have C1 := Lib.hid (HS.out ⟨6, g, r⟩ 1 limit wr HR.out)
                        obtain ⟨f0, f1, f2, f3⟩ := G.out 1 (by simp [goesB])
                        have f4 := step_ref (event := 1) (limit := limit) (s := ⟨6, g, r⟩) HR.out
                        unfold StepP at C1
                        rw [f0] at C1
                        generalize (stepS ⟨6, g, r⟩ 1 limit).1 = z at *
                        generalize (stepS ⟨6, g, r⟩ 1 limit).2.1 = m at *
                        have F := Lib.hid (And.intro f1 (And.intro f2 (And.intro f3 f4)))
                        clear f0 f1 f2 f3 f4
                        go_wp2_with fail
                        refine C1.out.mono ?_
                        rintro e w2 ⟨rfl, b2⟩
                        have RV := Lib.hid ((R.out.below b2).more (.cells (sgC z) 25))
                        have RN := Lib.hid (Row.new w2 (sgC z) 25)
                        have B3 := Lib.hid ((B.out.trans (b2.mono B.out.size)).alloc (Nat.le_trans B.out.size b2.size) (.cells (sgC z) 25))
                        clear ld C1 b2 R B
                        have l2 := ld_sg RN.out
                        have st := st_sg RV.out z
                        go_wp2_with fail
                        go_roundw
                        case rel => exact ⟨k + 1, n, z, by omega, by go_num, by first | rfl | go_num, by omega, by omega, Lib.hid F.out.1, Lib.hid F.out.2.2.2, Lib.hid (fun _ => by have h := F.out.2.2.1; simpa [countN, undoB] using h), Lib.hid (by have h1 := F.out.2.1 (by decide); have h2 := HK.out; have h3 := rem_in z.phase; have h4 := rem_in 6; omega), Lib.hid (sg_set RV.out z), Lib.hid (Below.row B3.out (Nat.le_refl _) _)⟩
                        case measure => simp [intOf]; omega
                    · have c0 : _ = some (Value.int .i64 7) := R.out.cell 0
                      have ld := ld_sg (s := ⟨7, g, r⟩) R.out
                      by_cases hin : k < l.length
                      · obtain ⟨b, o, rfl, hb, cx⟩ := (H.out.below B.out).at k hin
                        have hini : (k : Int) < (l.length : Int) := by omega
                        generalize l[k] = x at *
                        cases x
                        · have C1 := Lib.hid (HS.out ⟨7, g, r⟩ 1 limit wr HR.out)
                          obtain ⟨f0, f1, f2, f3⟩ := G.out 1 (by simp [goesB])
                          have f4 := step_ref (event := 1) (limit := limit) (s := ⟨7, g, r⟩) HR.out
                          unfold StepP at C1
                          rw [f0] at C1
                          generalize (stepS ⟨7, g, r⟩ 1 limit).1 = z at *
                          generalize (stepS ⟨7, g, r⟩ 1 limit).2.1 = m at *
                          have F := Lib.hid (And.intro f1 (And.intro f2 (And.intro f3 f4)))
                          clear f0 f1 f2 f3 f4
                          go_wp2_with fail
                          refine C1.out.mono ?_
                          rintro e w2 ⟨rfl, b2⟩
                          have RV := Lib.hid ((R.out.below b2).more (.cells (sgC z) 25))
                          have RN := Lib.hid (Row.new w2 (sgC z) 25)
                          have B3 := Lib.hid ((B.out.trans (b2.mono B.out.size)).alloc (Nat.le_trans B.out.size b2.size) (.cells (sgC z) 25))
                          clear ld C1 b2 R B
                          have l2 := ld_sg RN.out
                          have st := st_sg RV.out z
                          go_wp2_with fail
                          go_roundw
                          case rel => exact ⟨k + 1, n, z, by omega, by go_num, by first | rfl | go_num, by omega, by omega, Lib.hid F.out.1, Lib.hid F.out.2.2.2, Lib.hid (fun _ => by have h := F.out.2.2.1; simpa [countN, undoB] using h), Lib.hid (by have h1 := F.out.2.1 (by decide); have h2 := HK.out; have h3 := rem_in z.phase; have h4 := rem_in 7; omega), Lib.hid (sg_set RV.out z), Lib.hid (Below.row B3.out (Nat.le_refl _) _)⟩
                          case measure => simp [intOf]; omega
                        · have C1 := Lib.hid (HS.out ⟨7, g, r⟩ 2 limit wr HR.out)
                          obtain ⟨f0, f1, f2, f3⟩ := G.out 2 (by simp [goesB])
                          have f4 := step_ref (event := 2) (limit := limit) (s := ⟨7, g, r⟩) HR.out
                          unfold StepP at C1
                          rw [f0] at C1
                          generalize (stepS ⟨7, g, r⟩ 2 limit).1 = z at *
                          generalize (stepS ⟨7, g, r⟩ 2 limit).2.1 = m at *
                          have F := Lib.hid (And.intro f1 (And.intro f2 (And.intro f3 f4)))
                          clear f0 f1 f2 f3 f4
                          go_wp2_with fail
                          refine C1.out.mono ?_
                          rintro e w2 ⟨rfl, b2⟩
                          have RV := Lib.hid ((R.out.below b2).more (.cells (sgC z) 25))
                          have RN := Lib.hid (Row.new w2 (sgC z) 25)
                          have B3 := Lib.hid ((B.out.trans (b2.mono B.out.size)).alloc (Nat.le_trans B.out.size b2.size) (.cells (sgC z) 25))
                          clear ld C1 b2 R B
                          have l2 := ld_sg RN.out
                          have st := st_sg RV.out z
                          go_wp2_with fail
                          go_roundw
                          case rel => exact ⟨k + 1, n, z, by omega, by go_num, by first | rfl | go_num, by omega, by omega, Lib.hid F.out.1, Lib.hid F.out.2.2.2, Lib.hid (fun _ => by have h := F.out.2.2.1; simpa [countN, undoB] using h), Lib.hid (by have h2 := HK.out; have h3 := rem_in z.phase; have h4 := rem_in 7; omega), Lib.hid (sg_set RV.out z), Lib.hid (Below.row B3.out (Nat.le_refl _) _)⟩
                          case measure => simp [intOf]; omega
                      · have hini : ¬ (k : Int) < (l.length : Int) := by omega
                        have C1 := Lib.hid (HS.out ⟨7, g, r⟩ 1 limit wr HR.out)
                        obtain ⟨f0, f1, f2, f3⟩ := G.out 1 (by simp [goesB])
                        have f4 := step_ref (event := 1) (limit := limit) (s := ⟨7, g, r⟩) HR.out
                        unfold StepP at C1
                        rw [f0] at C1
                        generalize (stepS ⟨7, g, r⟩ 1 limit).1 = z at *
                        generalize (stepS ⟨7, g, r⟩ 1 limit).2.1 = m at *
                        have F := Lib.hid (And.intro f1 (And.intro f2 (And.intro f3 f4)))
                        clear f0 f1 f2 f3 f4
                        go_wp2_with fail
                        refine C1.out.mono ?_
                        rintro e w2 ⟨rfl, b2⟩
                        have RV := Lib.hid ((R.out.below b2).more (.cells (sgC z) 25))
                        have RN := Lib.hid (Row.new w2 (sgC z) 25)
                        have B3 := Lib.hid ((B.out.trans (b2.mono B.out.size)).alloc (Nat.le_trans B.out.size b2.size) (.cells (sgC z) 25))
                        clear ld C1 b2 R B
                        have l2 := ld_sg RN.out
                        have st := st_sg RV.out z
                        go_wp2_with fail
                        go_roundw
                        case rel => exact ⟨k + 1, n, z, by omega, by go_num, by first | rfl | go_num, by omega, by omega, Lib.hid F.out.1, Lib.hid F.out.2.2.2, Lib.hid (fun _ => by have h := F.out.2.2.1; simpa [countN, undoB] using h), Lib.hid (by have h1 := F.out.2.1 (by decide); have h2 := HK.out; have h3 := rem_in z.phase; have h4 := rem_in 7; omega), Lib.hid (sg_set RV.out z), Lib.hid (Below.row B3.out (Nat.le_refl _) _)⟩
                        case measure => simp [intOf]; omega
                    · have c0 : _ = some (Value.int .i64 9) := R.out.cell 0
                      have ld := ld_sg (s := ⟨9, g, r⟩) R.out
                      by_cases hin : k < l.length
                      · obtain ⟨b, o, rfl, hb, cx⟩ := (H.out.below B.out).at k hin
                        have hini : (k : Int) < (l.length : Int) := by omega
                        generalize l[k] = x at *
                        cases x
                        · have C1 := Lib.hid (HS.out ⟨9, g, r⟩ 1 limit wr HR.out)
                          obtain ⟨f0, f1, f2, f3⟩ := G.out 1 (by simp [goesB])
                          have f4 := step_ref (event := 1) (limit := limit) (s := ⟨9, g, r⟩) HR.out
                          unfold StepP at C1
                          rw [f0] at C1
                          generalize (stepS ⟨9, g, r⟩ 1 limit).1 = z at *
                          generalize (stepS ⟨9, g, r⟩ 1 limit).2.1 = m at *
                          have F := Lib.hid (And.intro f1 (And.intro f2 (And.intro f3 f4)))
                          clear f0 f1 f2 f3 f4
                          go_wp2_with fail
                          refine C1.out.mono ?_
                          rintro e w2 ⟨rfl, b2⟩
                          have RV := Lib.hid ((R.out.below b2).more (.cells (sgC z) 25))
                          have RN := Lib.hid (Row.new w2 (sgC z) 25)
                          have B3 := Lib.hid ((B.out.trans (b2.mono B.out.size)).alloc (Nat.le_trans B.out.size b2.size) (.cells (sgC z) 25))
                          clear ld C1 b2 R B
                          have l2 := ld_sg RN.out
                          have st := st_sg RV.out z
                          go_wp2_with fail
                          go_roundw
                          case rel => exact ⟨k + 1, 0, z, by omega, by go_num, by first | rfl | go_num, by omega, by omega, Lib.hid F.out.1, Lib.hid F.out.2.2.2, Lib.hid (fun _ => by have h := F.out.2.2.1; simpa [countN, undoB] using h), Lib.hid (by have h1 := F.out.2.1 (by decide); have h2 := HK.out; have h3 := rem_in z.phase; have h4 := rem_in 9; omega), Lib.hid (sg_set RV.out z), Lib.hid (Below.row B3.out (Nat.le_refl _) _)⟩
                          case measure => simp [intOf]; omega
                        · have C1 := Lib.hid (HS.out ⟨9, g, r⟩ 2 limit wr HR.out)
                          obtain ⟨f0, f1, f2, f3⟩ := G.out 2 (by simp [goesB])
                          have f4 := step_ref (event := 2) (limit := limit) (s := ⟨9, g, r⟩) HR.out
                          unfold StepP at C1
                          rw [f0] at C1
                          generalize (stepS ⟨9, g, r⟩ 2 limit).1 = z at *
                          generalize (stepS ⟨9, g, r⟩ 2 limit).2.1 = m at *
                          have F := Lib.hid (And.intro f1 (And.intro f2 (And.intro f3 f4)))
                          clear f0 f1 f2 f3 f4
                          go_wp2_with fail
                          refine C1.out.mono ?_
                          rintro e w2 ⟨rfl, b2⟩
                          have RV := Lib.hid ((R.out.below b2).more (.cells (sgC z) 25))
                          have RN := Lib.hid (Row.new w2 (sgC z) 25)
                          have B3 := Lib.hid ((B.out.trans (b2.mono B.out.size)).alloc (Nat.le_trans B.out.size b2.size) (.cells (sgC z) 25))
                          clear ld C1 b2 R B
                          have l2 := ld_sg RN.out
                          have st := st_sg RV.out z
                          go_wp2_with fail
                          go_roundw
                          case rel => exact ⟨k + 1, n + 1, z, by omega, by go_num, by first | rfl | go_num, by omega, by omega, Lib.hid F.out.1, Lib.hid F.out.2.2.2, Lib.hid (fun _ => by have h := F.out.2.2.1; simpa [countN, undoB] using h), Lib.hid (by have h2 := HK.out; have h3 := rem_in z.phase; have h4 := rem_in 9; omega), Lib.hid (sg_set RV.out z), Lib.hid (Below.row B3.out (Nat.le_refl _) _)⟩
                          case measure => simp [intOf]; omega
                      · have hini : ¬ (k : Int) < (l.length : Int) := by omega
                        have C1 := Lib.hid (HS.out ⟨9, g, r⟩ 1 limit wr HR.out)
                        obtain ⟨f0, f1, f2, f3⟩ := G.out 1 (by simp [goesB])
                        have f4 := step_ref (event := 1) (limit := limit) (s := ⟨9, g, r⟩) HR.out
                        unfold StepP at C1
                        rw [f0] at C1
                        generalize (stepS ⟨9, g, r⟩ 1 limit).1 = z at *
                        generalize (stepS ⟨9, g, r⟩ 1 limit).2.1 = m at *
                        have F := Lib.hid (And.intro f1 (And.intro f2 (And.intro f3 f4)))
                        clear f0 f1 f2 f3 f4
                        go_wp2_with fail
                        refine C1.out.mono ?_
                        rintro e w2 ⟨rfl, b2⟩
                        have RV := Lib.hid ((R.out.below b2).more (.cells (sgC z) 25))
                        have RN := Lib.hid (Row.new w2 (sgC z) 25)
                        have B3 := Lib.hid ((B.out.trans (b2.mono B.out.size)).alloc (Nat.le_trans B.out.size b2.size) (.cells (sgC z) 25))
                        clear ld C1 b2 R B
                        have l2 := ld_sg RN.out
                        have st := st_sg RV.out z
                        go_wp2_with fail
                        go_roundw
                        case rel => exact ⟨k + 1, 0, z, by omega, by go_num, by first | rfl | go_num, by omega, by omega, Lib.hid F.out.1, Lib.hid F.out.2.2.2, Lib.hid (fun _ => by have h := F.out.2.2.1; simpa [countN, undoB] using h), Lib.hid (by have h1 := F.out.2.1 (by decide); have h2 := HK.out; have h3 := rem_in z.phase; have h4 := rem_in 9; omega), Lib.hid (sg_set RV.out z), Lib.hid (Below.row B3.out (Nat.le_refl _) _)⟩
                        case measure => simp [intOf]; omega
                    · have c0 : _ = some (Value.int .i64 10) := R.out.cell 0
                      have ld := ld_sg (s := ⟨10, g, r⟩) R.out
                      by_cases hin : k < l.length
                      · obtain ⟨b, o, rfl, hb, cx⟩ := (H.out.below B.out).at k hin
                        have hini : (k : Int) < (l.length : Int) := by omega
                        generalize l[k] = x at *
                        cases x
                        · have C1 := Lib.hid (HS.out ⟨10, g, r⟩ 1 limit wr HR.out)
                          obtain ⟨f0, f1, f2, f3⟩ := G.out 1 (by simp [goesB])
                          have f4 := step_ref (event := 1) (limit := limit) (s := ⟨10, g, r⟩) HR.out
                          unfold StepP at C1
                          rw [f0] at C1
                          generalize (stepS ⟨10, g, r⟩ 1 limit).1 = z at *
                          generalize (stepS ⟨10, g, r⟩ 1 limit).2.1 = m at *
                          have F := Lib.hid (And.intro f1 (And.intro f2 (And.intro f3 f4)))
                          clear f0 f1 f2 f3 f4
                          go_wp2_with fail
                          refine C1.out.mono ?_
                          rintro e w2 ⟨rfl, b2⟩
                          have RV := Lib.hid ((R.out.below b2).more (.cells (sgC z) 25))
                          have RN := Lib.hid (Row.new w2 (sgC z) 25)
                          have B3 := Lib.hid ((B.out.trans (b2.mono B.out.size)).alloc (Nat.le_trans B.out.size b2.size) (.cells (sgC z) 25))
                          clear ld C1 b2 R B
                          have l2 := ld_sg RN.out
                          have st := st_sg RV.out z
                          go_wp2_with fail
                          go_roundw
                          case rel => exact ⟨k + 1, 0, z, by omega, by go_num, by first | rfl | go_num, by omega, by omega, Lib.hid F.out.1, Lib.hid F.out.2.2.2, Lib.hid (fun _ => by have h := F.out.2.2.1; simpa [countN, undoB] using h), Lib.hid (by have h1 := F.out.2.1 (by decide); have h2 := HK.out; have h3 := rem_in z.phase; have h4 := rem_in 10; omega), Lib.hid (sg_set RV.out z), Lib.hid (Below.row B3.out (Nat.le_refl _) _)⟩
                          case measure => simp [intOf]; omega
                        · have C1 := Lib.hid (HS.out ⟨10, g, r⟩ 2 limit wr HR.out)
                          obtain ⟨f0, f1, f2, f3⟩ := G.out 2 (by simp [goesB])
                          have f4 := step_ref (event := 2) (limit := limit) (s := ⟨10, g, r⟩) HR.out
                          unfold StepP at C1
                          rw [f0] at C1
                          generalize (stepS ⟨10, g, r⟩ 2 limit).1 = z at *
                          generalize (stepS ⟨10, g, r⟩ 2 limit).2.1 = m at *
                          have F := Lib.hid (And.intro f1 (And.intro f2 (And.intro f3 f4)))
                          clear f0 f1 f2 f3 f4
                          go_wp2_with fail
                          refine C1.out.mono ?_
                          rintro e w2 ⟨rfl, b2⟩
                          have RV := Lib.hid ((R.out.below b2).more (.cells (sgC z) 25))
                          have RN := Lib.hid (Row.new w2 (sgC z) 25)
                          have B3 := Lib.hid ((B.out.trans (b2.mono B.out.size)).alloc (Nat.le_trans B.out.size b2.size) (.cells (sgC z) 25))
                          clear ld C1 b2 R B
                          have l2 := ld_sg RN.out
                          have st := st_sg RV.out z
                          go_wp2_with fail
                          go_roundw
                          case rel => exact ⟨k + 1, n + 1, z, by omega, by go_num, by first | rfl | go_num, by omega, by omega, Lib.hid F.out.1, Lib.hid F.out.2.2.2, Lib.hid (fun _ => by have h := F.out.2.2.1; simpa [countN, undoB] using h), Lib.hid (by have h2 := HK.out; have h3 := rem_in z.phase; have h4 := rem_in 10; omega), Lib.hid (sg_set RV.out z), Lib.hid (Below.row B3.out (Nat.le_refl _) _)⟩
                          case measure => simp [intOf]; omega
                      · have hini : ¬ (k : Int) < (l.length : Int) := by omega
                        have C1 := Lib.hid (HS.out ⟨10, g, r⟩ 1 limit wr HR.out)
                        obtain ⟨f0, f1, f2, f3⟩ := G.out 1 (by simp [goesB])
                        have f4 := step_ref (event := 1) (limit := limit) (s := ⟨10, g, r⟩) HR.out
                        unfold StepP at C1
                        rw [f0] at C1
                        generalize (stepS ⟨10, g, r⟩ 1 limit).1 = z at *
                        generalize (stepS ⟨10, g, r⟩ 1 limit).2.1 = m at *
                        have F := Lib.hid (And.intro f1 (And.intro f2 (And.intro f3 f4)))
                        clear f0 f1 f2 f3 f4
                        go_wp2_with fail
                        refine C1.out.mono ?_
                        rintro e w2 ⟨rfl, b2⟩
                        have RV := Lib.hid ((R.out.below b2).more (.cells (sgC z) 25))
                        have RN := Lib.hid (Row.new w2 (sgC z) 25)
                        have B3 := Lib.hid ((B.out.trans (b2.mono B.out.size)).alloc (Nat.le_trans B.out.size b2.size) (.cells (sgC z) 25))
                        clear ld C1 b2 R B
                        have l2 := ld_sg RN.out
                        have st := st_sg RV.out z
                        go_wp2_with fail
                        go_roundw
                        case rel => exact ⟨k + 1, 0, z, by omega, by go_num, by first | rfl | go_num, by omega, by omega, Lib.hid F.out.1, Lib.hid F.out.2.2.2, Lib.hid (fun _ => by have h := F.out.2.2.1; simpa [countN, undoB] using h), Lib.hid (by have h1 := F.out.2.1 (by decide); have h2 := HK.out; have h3 := rem_in z.phase; have h4 := rem_in 10; omega), Lib.hid (sg_set RV.out z), Lib.hid (Below.row B3.out (Nat.le_refl _) _)⟩
                        case measure => simp [intOf]; omega
                · obtain rfl : k = 300 := by omega
                  have h250 : (250 : Int) < (l.length : Int) := by
                    have h1 := HK.out
                    have h2 := rem_in s.phase
                    omega
                  go_wp2_with fail
                  go_ret
                  exact ⟨by simp, B.out⟩


set_option maxRecDepth 100000 in
theorem sagaEnds_lifted (os : Os) (started : os.Started) (H : Type) (enc : TypeId × Value → H) :
    ReturnsInHanded {} Try.checked os 6 .any (Rows.sagaEndsSpec.pre6 enc Try.prog Try.f6 Rows.sagaEndsRow.domain false) (Rows.sagaEndsSpec.post enc Try.prog Try.f6 false true false false) := by
  refine returnsInHanded_of_change (C := Try.checked) own started (by kernel_rfl) Try.func6
    (ChangeSpec.witness6 (enc := enc) (C := Try.checked) false ⟨#[], #[.agg #[.int .i64 0, .bool false, .int .i64 0], .slice none 0 0, .int .i64 0], []⟩ 8 (by kernel_rfl) (by kernel_rfl) (by kernel_rfl) (by kernel_rfl)) ?_
  intro W base args ds gs before hval0 hW _ _
  have hval : ∀ (j : Nat) t v, Try.f6.params[j]? = some t → args[j]? = some v → Value.okWide Try.prog W .any base t v := hval0
  have hW' := hW
  obtain ⟨p, q, hA0, hV, rfl, _, _⟩ := hW
  have hA : DataW.TrodAll enc Try.prog W 0 (fun _ => true) true Try.f6.params.toList args.toList ds p := hA0
  rw [Try.params6] at hA hval
  obtain ⟨v0, vs0, d0, ds0, p0, q_0, hargs, rfl, rfl, h0, r0⟩ := trodAll_cons hA
  obtain ⟨v1, vs1, d1, ds1, p1, q_1, rfl, rfl, rfl, h1, r1⟩ := trodAll_cons r0
  obtain ⟨v2, vs2, d2, ds2, p2, q_2, rfl, rfl, rfl, h2, r2⟩ := trodAll_cons r1
  obtain ⟨rfl, rfl, rfl⟩ := trodAll_nil r2
  obtain rfl : args = #[v0, v1, v2] := by cases args; simp_all
  obtain ⟨rfl, rfl⟩ := trodVars_none hV
  clear hA0 hval0
  simp only [List.append_nil] at hW'
  obtain ⟨s0, rfl⟩ := saga_of_trod (hval 0 25 v0 rfl rfl) h0
  have hlt0 : ∀ x ∈ p0, x.block < W.heap.size := fun x hx => by simpa using hW'.lt x (by simpa using (by simp [hx]))
  obtain ⟨q1, cap1, l1, rfl, hS1, hm1⟩ := bools_of_trod (hval 1 35 v1 rfl rfl) h1
  have hlt1 : ∀ x ∈ p1, x.block < W.heap.size := fun x hx => by simpa using hW'.lt x (by simpa using (by simp [hx]))
  obtain ⟨a2, rfl, rfl, rfl, w2⟩ := open_int Try.underlying3 (hval 2 3 v2 rfl rfl) h2
  refine (ends_walk step_any s0 q1 cap1 l1 a2 W hS1).mono fun e W' ⟨he, hb⟩ => ?_
  subst he
  have hT : DataW.TrodAll enc Try.prog W' 0 (fun b => decide (b < W.heap.size)) true _ _ _ _ := (trodAll_cons_mk (Below.trod laidOut (by kernel_rfl) (of_decide_eq_true (by kernel_rfl)) h0 hb hlt0) (trodAll_cons_mk (Below.trod laidOut (by kernel_rfl) (of_decide_eq_true (by kernel_rfl)) h1 hb hlt1) (trodAll_cons_mk (shut_int Try.underlying3 w2) trodAll_mk0)))
  simp only [List.append_nil] at hT
  exact ⟨_, rfl, _, _, _, [], p0 ++ (p1), [], hW', trodAll_mk1 (shut_bool Try.underlying4 _), hT, rfl, hb.frame _, fun h => by cases h⟩

theorem sagaEnds_holds : Rows.SagaEndsSaid :=
  OpenClaim.holds_of_wide 6 Try.f6 rfl rfl rfl rfl rfl rfl rfl ⟨rfl, rfl, rfl, rfl, rfl⟩ rfl rfl rfl rfl rfl (by kernel_rfl) Try.func6 (by kernel_rfl)
    (of_decide_eq_true (by kernel_rfl)) (by unfold Func.isWrapper; first | (rw [if_pos (by decide +kernel)]; kernel_rfl) | (rw [if_neg (by decide +kernel)]; exact ⟨rfl, rfl⟩))
    (fun os started H enc _ => sagaEnds_lifted os started H enc)
#print axioms sagaEnds_holds


end Go.Proofs.Ytlggakjfgapppaa
