/- What package snap's calls answer, as the laws want it; the laws' example. -/
import Derived.Test.YtfmpibmhhfmajaaGreatDoorSnRef4
import Derived.Test.YtfmpibmhhfmajaaGreatDoorSnKinds
import Derived.Test.YtfmpibmhhfmajaaGreatDoorSnRef3
import Derived.Test.YtfmpibmhhfmajaaGreatDoorPSc
import Derived.Test.YtfmpibmhhfmajaaGreatDoorPOr
import Derived.Test.YtfmpibmhhfmajaaGreatDoorMgOrders
import Derived.Test.YtfmpibmhhfmajaaGreatDoorSnPlain2
import Derived.Test.YtfmpibmhhfmajaaGreatDoorMgCopy
namespace Go.Proofs.YtfmpibmhhfmajaaGreatDoor
set_option maxRecDepth 100000
open Go.RowKit Go.ChangeShapes Go.WideShapes Go.ChangeAt
attribute [local go_sem ↓] ldCm stCm alCm bxCm bdCm ldSt stSt alSt bxSt bdSt ldCa bxCa eqCa
attribute [local go_sem] al_cm bx_cm st_cmnew bd_cm bd_cmKind al_sta bx_sta st_stnew bd_sta

def CommandC : Prop := ∀ (r : CmR) (w : World), KdAt w → CmP w r → rightC r.m = true → Calls Tryz.prog 17 #[cmV r] w (OwnPost (commandL r.m) w)
def AliveC : Prop := ∀ W, KdAt W → Calls Tryz.prog 12 #[] W (Tell true W)
/-- A state that the program can write within its room. -/
def FitS (r : StR) : Prop := rightS r.st = true ∧ (stateL r.st).length ≤ 1000000
def StateC : Prop := ∀ (r : StR) (w : World), StP w r → FitS r → Calls Tryz.prog 21 #[stV r] w (OwnPost (stateL r.st) w)
def ReadPost (l : List Nat) (w : World) (e : Ending) (w' : World) : Prop := ∃ r : StR, e = .returned (.tuple #[stV r, .int .i64 (readE l)]) ∧ r.st = readV l ∧ StP w' r ∧ Below w.heap.size w w'
def ReadC : Prop := ∀ (a : Option Addr) (cap : Nat) (l : List Nat) (w : World), BytesP w a cap l → l.length ≤ 1000000 → Calls Tryz.prog 11 #[.slice a l.length cap] w (ReadPost l w)

theorem read_state {s : St} (h : rightS s = true) (hb : s.bats.length ≤ 1048576) (he : s.effs.length ≤ 1048576) : readV (stateL s) = s ∧ readE (stateL s) = 0 := by
  have := readO_put h hb he
  unfold readV readE
  rw [this]
  exact ⟨rfl, rfl⟩
/-- The example. -/
def exS : St := ⟨⟨1, 2⟩, ⟨3, 4⟩, 5, [6], 0, 1, 1, [], [], []⟩
theorem exS_new : newV ⟨1, 2⟩ ⟨3, 4⟩ 5 [6] = exS ∧ newE ⟨1, 2⟩ ⟨3, 4⟩ 5 [6] = 0 := by
  have h1 : newOk ⟨1, 2⟩ ⟨3, 4⟩ 5 [6] = true := by decide +kernel
  have h2 : doorsV [6] = [6] := by decide +kernel
  unfold newV newE exS
  rw [if_pos h1, if_pos h1, h2]
  exact ⟨rfl, rfl⟩
theorem exS_right : rightS exS = true := by decide +kernel
theorem exC_right : rightC (kindR 6).m = true ∧ commandL (kindR 6).m = [6] := by
  refine ⟨by decide +kernel, ?_⟩
  show numL 6 ++ [] = [6]
  rw [numL_byte (by decide)]
  rfl
theorem ordersL_len : ∀ (l : List Od), (∀ x ∈ l, rightO x = true) → (ordersL l).length ≤ 1000 * l.length
  | [], _ => by simp [ordersL]
  | x :: l, h => by
    have h1 := orderL_len (h x (by simp))
    have h2 := ordersL_len l (fun y hy => h y (by simp [hy]))
    rw [ordersL_cons, List.length_append, List.length_cons]
    omega
theorem batchesL_len : ∀ (l : List Bt), (∀ x ∈ l, rightBt x = true) → (batchesL l).length ≤ 3000 * l.length
  | [], _ => by simp [batchesL]
  | x :: l, h => by
    have h1 := batchL_len (h x (by simp))
    have h2 := batchesL_len l (fun y hy => h y (by simp [hy]))
    rw [batchesL_cons, List.length_append, List.length_cons]
    omega
theorem numsL_ten (l : List Nat) (h : ∀ n ∈ l, n < 18446744073709551616) : (numsL l).length ≤ 10 * l.length := numsL_len l h
theorem stateL_len {s : St} (h : rightS s = true) (ho : s.ords.length ≤ 60) (hb : s.bats.length ≤ 40) (he : s.effs.length ≤ 100) : (stateL s).length ≤ 200000 := by
  have hp := rightP_of h
  obtain ⟨k1, k2, k3, k4, k5, k6, k7, k8, k9, k10, k11⟩ := hp.head
  have t1 := numsL_ten (capsN s) (fun n hn => by
    simp only [capsN, List.mem_cons, List.not_mem_nil, or_false] at hn
    rcases hn with rfl | rfl | rfl | rfl | rfl | rfl <;> omega)
  have t2 := numsL_ten (natsI s.doors) (fun n hn => by
    obtain ⟨x, hx, rfl⟩ := List.mem_map.1 hn
    have := k6 x hx
    omega)
  have t3 := numsL_ten (nextN s) (fun n hn => by
    simp only [nextN, List.mem_cons, List.not_mem_nil, or_false] at hn
    rcases hn with rfl | rfl | rfl | rfl <;> omega)
  have t4 := ordersL_len s.ords hp.ords
  have t5 := numL_ten (show s.bats.length < 18446744073709551616 by omega)
  have t6 := batchesL_len s.bats hp.bats
  have t7 := boxL_len hp.effs he
  have e1 : (capsN s).length = 6 := rfl
  have e2 : (natsI s.doors).length = s.doors.length := by simp [natsI]
  have e3 : (nextN s).length = 4 := rfl
  unfold stateL
  simp only [List.length_append]
  omega
theorem fit_read {r : StR} (h : FitS r) : readV (stateL r.st) = r.st ∧ readE (stateL r.st) = 0 := by
  have hm := stateL_many r.st
  exact read_state h.1 (by have := h.2; omega) (by have := h.2; omega)
theorem stR_len {r : StR} (h1 : rightS r.st = true) (h2 : r.ords.length ≤ 60) (h3 : r.bats.length ≤ 40) (h4 : r.effs.length ≤ 100) : (stateL r.st).length ≤ 200000 := by
  have h3' : r.st.bats.length ≤ 40 := by simpa [StR.st, btsOf] using h3
  have h2' : r.st.ords.length ≤ 60 := by simpa [StR.st, odsOf] using h2
  exact stateL_len h1 h2' h3' h4
theorem fit_of {r : StR} (h1 : rightS r.st = true) (h2 : r.ords.length ≤ 60) (h3 : r.bats.length ≤ 40) (h4 : r.effs.length ≤ 100) : FitS r := ⟨h1, Nat.le_trans (stR_len h1 h2 h3 h4) (by decide)⟩
end Go.Proofs.YtfmpibmhhfmajaaGreatDoor
