/- What readCaps, readSettings, readState and Read of package snap answer. -/
import Derived.Test.YtfmpibmhhfmajaaGreatDoorSnRead0
import Derived.Test.YtfmpibmhhfmajaaGreatDoorSnTold
namespace Go.Proofs.YtfmpibmhhfmajaaGreatDoor
set_option maxRecDepth 100000
open Go.RowKit Go.ChangeShapes Go.WideShapes Go.ChangeAt
attribute [local go_sem ↓] ldOr stOr alOr bxOr bdOr ldBa stBa alBa bxBa bdBa ldSt stSt alSt bxSt bdSt bsOr3 bsBa3
attribute [local go_sem] al_or bx_or st_ornew bd_or al_ba bx_ba st_banew bd_ba al_sta bx_sta st_stnew bd_sta bs_or3 bs_ba3

theorem sizeCpV (x0 x1 : Value) : (Tryz.prog.info? 31).map (·.size) = some #[x0, x1].size := by
  show _ = some 2
  kernel_rfl
theorem ownSt_doors {W : World} {B : Nat} {a b c d : Int} {e n nb nk : Int} {l : List Int} {p : Option Addr} {q : Nat} (h : OwnI W B (.slice p l.length q) l) : OwnSt W B ⟨⟨a, b⟩, ⟨c, d⟩, e, l, p, q, n, nb, nk, [], none, 0, [], none, 0, [], none, 0⟩ :=
  ⟨h, World.ownsRow_nil _ _ _ _, (fun _ h => by cases h), World.ownsRow_nil _ _ _ _, (fun _ h => by cases h), World.ownsRow_nil _ _ _ _⟩
theorem cellsR2x {w : World} {g : Nat} {T : TypeId} {p q : Value} (h : Row w g T #[p, q]) : (w.cell? ⟨g, 0, none⟩ = some p ∧ w.cell? ⟨g, 1, none⟩ = some q) ∧ w.frozen? ⟨g, 0, none⟩ = false ∧ w.frozen? ⟨g, 1, none⟩ = false :=
  ⟨⟨h.cell 0, h.cell 1⟩, h.free 0, h.free 1⟩
/-- What tells the next number, of the Reader at block g. -/
def nextF (g : Nat) : Value := .func (.func 89) #[.pointer (some ⟨g, 0, none⟩)] #[]

set_option maxHeartbeats 4000000 in
theorem readCaps_any (w : World) (g : Nat) (s : Sc) (h : RdS w g s) : Calls Tryz.prog 132 #[nextF g] w (ReadS g (.agg #[.int .i64 ((capsS s).1.1 : Int), .int .i64 ((capsS s).1.2 : Int)]) (capsS s).2 w) := by
  have hg := h.lt
  have K0 := Lib.hid (Rin.begin h 31 #[.int .i64 0, .int .i64 0])
  have y0 := h.bytes
  rcases h1 : numS 64 s with ⟨v1, s1⟩
  have C1 := Lib.hid (fun W hW => show Calls Tryz.prog 89 #[.pointer (some ⟨g, 0, none⟩), .int .u64 64] W (ReadS g (.int .u64 (v1 : Int)) s1 W) by have := rd_num W g s 64 hW (by decide); rwa [h1] at this)
  have y1 : BytesS s1 := by have := numS_bytes y0 64; rwa [h1] at this
  have n1 : v1 ≤ 64 := by have := numS_le 64 s y0; rwa [h1] at this
  have x1 := i64_small n1 (by decide)
  rcases h2 : numS 1000000000000 s1 with ⟨v2, s2⟩
  have C2 := Lib.hid (fun W hW => show Calls Tryz.prog 89 #[.pointer (some ⟨g, 0, none⟩), .int .u64 1000000000000] W (ReadS g (.int .u64 (v2 : Int)) s2 W) by have := rd_num W g s1 1000000000000 hW (by decide); rwa [h2] at this)
  have y2 : BytesS s2 := by have := numS_bytes y1 1000000000000; rwa [h2] at this
  have n2 : v2 ≤ 1000000000000 := by have := numS_le 1000000000000 s1 y1; rwa [h2] at this
  have x2 := i64_small n2 (by decide)
  have HP := Lib.hid (show capsS s = ((v1, v2), s2) by simp only [capsS, h1, h2])
  clear h h1 h2 y0 y1 y2 n1 n2
  unfold nextF
  go_enter Tryz.func132, Tryz.ntmps132
  go_wp2_with fail
  generalize (w.alloc (Obj.cells #[Value.int IntKind.i64 0, Value.int IntKind.i64 0] 31)).alloc (Obj.cells #[Value.int IntKind.i64 0, Value.int IntKind.i64 0] 31) = W0 at *
  refine (C1.out _ K0.out.rd).mono ?_
  rintro e w1 ⟨rfl, r1, b1⟩
  have J1 := Lib.hid (K0.out.call hg r1 b1)
  obtain ⟨⟨c0, c1⟩, f0, f1⟩ := cellsR2x J1.out.var
  clear r1 b1
  have K1 := Lib.hid (J1.out.set hg 0 (.int .i64 (v1 : Int)))
  go_wp2_with fail
  clear c0 c1 f0 f1
  generalize w1.setCell ⟨w.heap.size + 1, 0, none⟩ (.int .i64 (v1 : Int)) = W1 at *
  refine (C2.out _ K1.out.rd).mono ?_
  rintro e w2 ⟨rfl, r2, b2⟩
  have J2 := Lib.hid (K1.out.call hg r2 b2)
  obtain ⟨⟨c0, c1⟩, f0, f1⟩ := cellsR2x J2.out.var
  clear r2 b2
  have K2 := Lib.hid (J2.out.set hg 1 (.int .i64 (v2 : Int)))
  go_wp2_with (refine wpList_store_row rfl 31 _ _ rfl w.heap.size #[.int .i64 (v1 : Int), .int .i64 (v2 : Int)] rfl rfl 31 #[.int .i64 0, .int .i64 0] K2.out.res (sizeCpV _ _) rfl (by simp [Value.oneCell']) ?_)
  (try simp only [Exit.inBlock, Exit.then])
  refine bodyPost_ret (v := .agg #[.int .i64 (v1 : Int), .int .i64 (v2 : Int)]) ?_ rfl ⟨by rw [HP.out], by rw [HP.out]; exact (K2.out.fin hg _).1, (K2.out.fin hg _).2⟩
  exact results_cell_row rfl _ _ w.heap.size 31 _ (0, 0) _ rfl (setRow_heap _ _ _ _ _ _ K2.out.res) Tryz.underlying31 rfl (sizeCpV _ _)


theorem i64_tick {n : Nat} (h : n ≤ 1099511627776) : IntKind.i64.wrap (n : Int) = (n : Int) := by rw [IntKind.wrap_i64]; omega
/-- A state with its settings alone. -/
def hdR (h : Hd) (a : Option Addr) (c : Nat) : StR := ⟨⟨h.wc, h.ww⟩, ⟨h.mc, h.mw⟩, h.limit, h.doors, a, c, h.now, h.nb, h.nk, [], none, 0, [], none, 0, [], none, 0⟩
def SetAns (g : Nat) (s : Sc) (w : World) (e : Ending) (w' : World) : Prop := ∃ a c, e = .returned (stV (hdR (setS 95 s).1 a c)) ∧ OwnSt w' w.heap.size (hdR (setS 95 s).1 a c) ∧ RdS w' g (setS 95 s).2 ∧ But g w w'
set_option maxHeartbeats 16000000 in
theorem readSettings_any (w : World) (g : Nat) (s : Sc) (h : RdS w g s) : Calls Tryz.prog 93 #[nextF g] w (SetAns g s w) := by
  have hg := h.lt
  have y0 := h.bytes
  have hmf : ∀ (fn : Fn) (first cap : Array Value) (w : World), (Instr.makeFunc fn first cap).run Tryz.prog w = .ok (.func fn first cap) w := fun _ _ _ _ => rfl
  rcases h1 : capsS s with ⟨⟨a1, a2⟩, s1⟩
  have C1 := Lib.hid (fun W hW => show Calls Tryz.prog 132 #[nextF g] W (ReadS g (.agg #[.int .i64 (a1 : Int), .int .i64 (a2 : Int)]) s1 W) by have := readCaps_any W g s hW; rwa [h1] at this)
  have y1 : BytesS s1 := by have := capsS_bytes y0; rwa [h1] at this
  rcases h2 : capsS s1 with ⟨⟨a3, a4⟩, s2⟩
  have C2 := Lib.hid (fun W hW => show Calls Tryz.prog 132 #[nextF g] W (ReadS g (.agg #[.int .i64 (a3 : Int), .int .i64 (a4 : Int)]) s2 W) by have := readCaps_any W g s1 hW; rwa [h2] at this)
  have y2 : BytesS s2 := by have := capsS_bytes y1; rwa [h2] at this
  rcases h3 : numS 100 s2 with ⟨v3, s3⟩
  have C3 := Lib.hid (fun W hW => show Calls Tryz.prog 89 #[.pointer (some ⟨g, 0, none⟩), .int .u64 100] W (ReadS g (.int .u64 (v3 : Int)) s3 W) by have := rd_num W g s2 100 hW (by decide); rwa [h3] at this)
  have y3 : BytesS s3 := by have := numS_bytes y2 100; rwa [h3] at this
  have n3 : v3 ≤ 100 := by have := numS_le 100 s2 y2; rwa [h3] at this
  have x3 := i64_small n3 (by decide)
  rcases h4 : numS 96 s3 with ⟨v4, s4⟩
  have C4 := Lib.hid (fun W hW => show Calls Tryz.prog 89 #[.pointer (some ⟨g, 0, none⟩), .int .u64 96] W (ReadS g (.int .u64 (v4 : Int)) s4 W) by have := rd_num W g s3 96 hW (by decide); rwa [h4] at this)
  have y4 : BytesS s4 := by have := numS_bytes y3 96; rwa [h4] at this
  have n4 : v4 ≤ 96 := by have := numS_le 96 s3 y3; rwa [h4] at this
  have x4 := i64_small n4 (by decide)
  have H1 := Lib.hid h1
  have H2 := Lib.hid h2
  have H3 := Lib.hid h3
  have H4 := Lib.hid h4
  have Y4 := Lib.hid y4
  have R := Rin.begin h 37 (stC noStR)
  have K : Hid (RsI w g (w.heap.size + 1) noStR s ((w.alloc (.cells (stC noStR) 37)).alloc (.cells (stC noStR) 37))) := Lib.hid ⟨⟨R.res, R.rd, R.but, R.var, by omega, by omega, by omega⟩, OwnSt.none _ _⟩
  clear h R h1 h2 h3 h4 y0 y1 y2 y3 y4 n3
  unfold nextF
  go_enter Tryz.func93, Tryz.ntmps93
  unfold nextF at C1 C2
  go_wp2_with fail
  generalize (w.alloc (.cells (stC noStR) 37)).alloc (.cells (stC noStR) 37) = W0 at *
  refine (C1.out _ K.out.k.rd).mono ?_
  rintro e w1 ⟨rfl, r2, b2⟩
  replace K := Lib.hid (K.out.call r2 b2)
  clear r2 b2 C1
  obtain ⟨⟨c0, c1, c2, c3, c4, c5⟩, c6, c7, c8, c9, c10, c11⟩ := K.out.k.out.st
  have ff := K.out.k.out.free
  replace K := Lib.hid (K.out.set 0 (.int .i64 (a1 : Int)) (o' := ⟨⟨(a1 : Int), 0⟩, ⟨0, 0⟩, 0, [], none, 0, 0, 0, 0, [], none, 0, [], none, 0, [], none, 0⟩) rfl (fun h => ⟨h.doors, h.ords, h.lns, h.bats, h.mems, h.effs⟩))
  replace K := Lib.hid (K.out.set 1 (.int .i64 (a2 : Int)) (o' := ⟨⟨(a1 : Int), (a2 : Int)⟩, ⟨0, 0⟩, 0, [], none, 0, 0, 0, 0, [], none, 0, [], none, 0, [], none, 0⟩) rfl (fun h => ⟨h.doors, h.ords, h.lns, h.bats, h.mems, h.effs⟩))
  go_wp2_with fail
  clear c0 c1 c2 c3 c4 c5 c6 c7 c8 c9 c10 c11
  clear ff
  generalize (w1.setCell ⟨w.heap.size + 1, 0, none⟩ (.int .i64 (a1 : Int))).setCell ⟨w.heap.size + 1, 1, none⟩ (.int .i64 (a2 : Int)) = W1 at *
  refine (C2.out _ K.out.k.rd).mono ?_
  rintro e w2 ⟨rfl, r2, b2⟩
  replace K := Lib.hid (K.out.call r2 b2)
  clear r2 b2 C2
  obtain ⟨⟨c0, c1, c2, c3, c4, c5⟩, c6, c7, c8, c9, c10, c11⟩ := K.out.k.out.st
  have ff := K.out.k.out.free
  replace K := Lib.hid (K.out.set 2 (.int .i64 (a3 : Int)) (o' := ⟨⟨(a1 : Int), (a2 : Int)⟩, ⟨(a3 : Int), 0⟩, 0, [], none, 0, 0, 0, 0, [], none, 0, [], none, 0, [], none, 0⟩) rfl (fun h => ⟨h.doors, h.ords, h.lns, h.bats, h.mems, h.effs⟩))
  replace K := Lib.hid (K.out.set 3 (.int .i64 (a4 : Int)) (o' := ⟨⟨(a1 : Int), (a2 : Int)⟩, ⟨(a3 : Int), (a4 : Int)⟩, 0, [], none, 0, 0, 0, 0, [], none, 0, [], none, 0, [], none, 0⟩) rfl (fun h => ⟨h.doors, h.ords, h.lns, h.bats, h.mems, h.effs⟩))
  go_wp2_with fail
  clear c0 c1 c2 c3 c4 c5 c6 c7 c8 c9 c10 c11
  clear ff
  generalize (w2.setCell ⟨w.heap.size + 1, 2, none⟩ (.int .i64 (a3 : Int))).setCell ⟨w.heap.size + 1, 3, none⟩ (.int .i64 (a4 : Int)) = W2 at *
  refine (C3.out _ K.out.k.rd).mono ?_
  rintro e w3 ⟨rfl, r2, b2⟩
  replace K := Lib.hid (K.out.call r2 b2)
  clear r2 b2 C3
  obtain ⟨⟨c0, c1, c2, c3, c4, c5⟩, c6, c7, c8, c9, c10, c11⟩ := K.out.k.out.st
  have ff := K.out.k.out.free 4
  replace K := Lib.hid (K.out.set 4 (.int .i64 (v3 : Int)) (o' := ⟨⟨(a1 : Int), (a2 : Int)⟩, ⟨(a3 : Int), (a4 : Int)⟩, (v3 : Int), [], none, 0, 0, 0, 0, [], none, 0, [], none, 0, [], none, 0⟩) rfl (fun h => ⟨h.doors, h.ords, h.lns, h.bats, h.mems, h.effs⟩))
  go_wp2_with fail
  clear c0 c1 c2 c3 c4 c5 c6 c7 c8 c9 c10 c11
  clear ff
  generalize w3.setCell ⟨w.heap.size + 1, 4, none⟩ (.int .i64 (v3 : Int)) = W3 at *
  refine (C4.out _ K.out.k.rd).mono ?_
  rintro e w4 ⟨rfl, r2, b2⟩
  replace K := Lib.hid (K.out.call r2 b2)
  clear r2 b2 C4
  go_wp2_with fail
  go_loopw [16] (fun i wr => ∃ (k : Nat) (acc : List Int) (av : Option Addr) (cv : Nat) (sk : Sc), k ≤ v4 ∧ i = .int .u64 k ∧ Hid (RsI w g (w.heap.size + 1) (⟨⟨(a1 : Int), (a2 : Int)⟩, ⟨(a3 : Int), (a4 : Int)⟩, (v3 : Int), acc, av, cv, 0, 0, 0, [], none, 0, [], none, 0, [], none, 0⟩ : StR) sk wr) ∧ acc.length = k ∧ Hid (BytesS sk) ∧ Hid (doorsS 95 v4 s4 = (acc ++ (doorsS 95 (v4 - k) sk).1, (doorsS 95 (v4 - k) sk).2))) (fun i _ => v4 - (intOf i).toNat)
  case atStart => exact ⟨0, [], none, 0, s4, Nat.zero_le _, by simp, K, rfl, Y4, Lib.hid (by simp)⟩
  case round =>
    clear K
    obtain ⟨k, acc, av, cv, sk, hk, rfl, K, hac, HB, HL⟩ := hrel
    by_cases hlt : k < v4
    · skip
      rcases hx : numS 95 sk with ⟨x, sx⟩
      have hsx : BytesS sx := by have := numS_bytes HB.out 95; rwa [hx] at this
      have hxl : x ≤ 95 := by have := numS_le 95 sk HB.out; rwa [hx] at this
      have HN := Lib.hid (show doorsS 95 v4 s4 = ((acc ++ [(x : Int)]) ++ (doorsS 95 (v4 - (k + 1)) sx).1, (doorsS 95 (v4 - (k + 1)) sx).2) by
        rw [HL.out, show v4 - k = (v4 - (k + 1)) + 1 by omega, doorsS, hx]; simp)
      have HX := Lib.hid hsx
      have HK1 := Lib.hid (show (acc ++ [(x : Int)]).length = k + 1 by rw [List.length_append, hac]; rfl)
      have C := Lib.hid (fun W hW => show Calls Tryz.prog 89 #[.pointer (some ⟨g, 0, none⟩), .int .u64 95] W (ReadS g (.int .u64 (x : Int)) sx W) by have := rd_num W g sk 95 hW (by decide); rwa [hx] at this)
      have hw := i64_small hxl (by decide)
      clear hx hsx hxl
      have hck := K.out.k.hc
      have hcg := K.out.k.hgc
      have RW := Lib.hid (K.out.k.far (Nat.lt_succ_self (w.heap.size + 1)) (But.drew _ _))
      have ON := K.out.own
      have OW : Hid (OwnI wr.drew ((w.heap.size + 1) + 1) (.slice av k cv) acc) := Lib.hid (by have q : OwnI wr.drew ((w.heap.size + 1) + 1) (.slice av acc.length cv) acc := row_else (w' := wr.drew) ON.doors (fun _ _ => rfl); rwa [hac] at q)
      have c5 : wr.cell? ⟨(w.heap.size + 1), 5, none⟩ = some (.slice av k cv) := by have := K.out.k.out.st.1.2.2.2.2.2; dsimp only at this; rwa [hac] at this
      have vd : wr.drew.cell? ⟨(w.heap.size + 1), 5, none⟩ = some (.slice av k cv) := by have := RW.out.out.st.1.2.2.2.2.2; dsimp only at this; rwa [hac] at this
      clear ON
      go_wp2_with fail
      go_region_law (first
        | ((try go_simp); go_at_call 89; refine (C.out _ RW.out.rd).mono ?_; rintro e w4 ⟨rfl, r4, b4⟩; have R4 := Lib.hid (RW.out.call r4 b4); have O4 : Hid (OwnI w4 ((w.heap.size + 1) + 1) (.slice av k cv) acc) := Lib.hid (row_else (w' := w4) OW.out fun x hx => b4.block _ (rowS_at OW.out x hx).2 (by have := (rowS_at OW.out x hx).1; omega)); have y1 : w4.cell? ⟨(w.heap.size + 1), 5, none⟩ = some (.slice av k cv) := (by have := R4.out.out.st.1.2.2.2.2.2; dsimp only at this; rwa [hac] at this); have yz := R4.out.out.lt; clear r4 b4)
        | (refine step_append_int rfl (.tmp 19) (.tmp 23) rfl ((w.heap.size + 1) + 1) (.slice av k cv) acc [(x : Int)] (by simp [Act.eval]) (OwnI.below O4.out ((Below.refl _ _).alloc (Nat.le_refl _) _)) (some ⟨w4.heap.size, 0, none⟩) 1 (by simp [Act.eval]) (int_one w4 (x : Int)) (by simp; omega) (by have := R4.out.out.lt; simp; omega) ?_; intro v5 w5 o5 g5; obtain ⟨a5, p5, e5⟩ := OwnI.shape o5; rw [HK1.out] at e5; subst e5; have HG := Lib.hid g5; obtain ⟨q, hq, bq⟩ := But.grown g5 (OwnI.row O4.out); have R5 := Lib.hid ((R4.out.below ((Below.refl _ _).alloc (Nat.le_refl _) (.cells #[.int .i64 (x : Int)] 3))).far hq bq); have O5 := Lib.hid o5; have z1 : w5.cell? ⟨(w.heap.size + 1), 5, none⟩ = some (.slice av k cv) := (by have := R5.out.out.st.1.2.2.2.2.2; dsimp only at this; rwa [hac] at this); have zf : w5.frozen? ⟨(w.heap.size + 1), 5, none⟩ = false := R5.out.out.free 5; clear o5 g5 bq))
      all_goals
        have R6 := Lib.hid (R5.out.put 5 (.slice a5 (k + 1) p5) (o' := ⟨⟨(a1 : Int), (a2 : Int)⟩, ⟨(a3 : Int), (a4 : Int)⟩, (v3 : Int), (acc ++ [(x : Int)]), a5, p5, 0, 0, 0, [], none, 0, [], none, 0, [], none, 0⟩) (by rw [← HK1.out]; rfl) (ownSt_doors (by rw [HK1.out]; exact O5.out)))
        go_wp2_with fail
        go_roundw
        case rel => exact ⟨k + 1, acc ++ [(x : Int)], a5, p5, sx, by omega, by go_num, R6, HK1.out, HX, HN⟩
        case measure => simp [intOf]; omega
    · skip
      have HE := Lib.hid (show doorsS 95 v4 s4 = (acc, sk) by rw [HL.out, show v4 - k = 0 by omega, doorsS]; simp)
      subst hac
      have yk := HB.out
      rcases h5 : numS 1099511627776 sk with ⟨v5, s5⟩
      have C5 := Lib.hid (fun W hW => show Calls Tryz.prog 89 #[.pointer (some ⟨g, 0, none⟩), .int .u64 1099511627776] W (ReadS g (.int .u64 (v5 : Int)) s5 W) by have := rd_num W g sk 1099511627776 hW (by decide); rwa [h5] at this)
      have y5 : BytesS s5 := by have := numS_bytes yk 1099511627776; rwa [h5] at this
      have n5 : v5 ≤ 1099511627776 := by have := numS_le 1099511627776 sk yk; rwa [h5] at this
      have x5 := i64_tick n5
      rcases h6 : numS 1000000000000 s5 with ⟨v6, s6⟩
      have C6 := Lib.hid (fun W hW => show Calls Tryz.prog 89 #[.pointer (some ⟨g, 0, none⟩), .int .u64 1000000000000] W (ReadS g (.int .u64 (v6 : Int)) s6 W) by have := rd_num W g s5 1000000000000 hW (by decide); rwa [h6] at this)
      have y6 : BytesS s6 := by have := numS_bytes y5 1000000000000; rwa [h6] at this
      have n6 : v6 ≤ 1000000000000 := by have := numS_le 1000000000000 s5 y5; rwa [h6] at this
      have x6 := i64_small n6 (by decide)
      rcases h7 : numS 1000000000000 s6 with ⟨v7, s7⟩
      have C7 := Lib.hid (fun W hW => show Calls Tryz.prog 89 #[.pointer (some ⟨g, 0, none⟩), .int .u64 1000000000000] W (ReadS g (.int .u64 (v7 : Int)) s7 W) by have := rd_num W g s6 1000000000000 hW (by decide); rwa [h7] at this)
      have y7 : BytesS s7 := by have := numS_bytes y6 1000000000000; rwa [h7] at this
      have n7 : v7 ≤ 1000000000000 := by have := numS_le 1000000000000 s6 y6; rwa [h7] at this
      have x7 := i64_small n7 (by decide)
      have HT := Lib.hid (show setS 95 s = (⟨a1, a2, a3, a4, v3, acc, v5, v6, v7, 0⟩, s7) by simp only [setS, H1.out, H2.out, H3.out, H4.out, HE.out, h5, h6, h7])
      clear yk h5 y5 n5 h6 y6 n6 h7 y7 n7 HL HE HB H1 H2 H3 H4 Y4
      obtain ⟨⟨c0, c1, c2, c3, c4, c5⟩, c6, c7, c8, c9, c10, c11⟩ := K.out.k.out.st
      go_wp2_with fail
      clear c0 c1 c2 c3 c4 c5 c6 c7 c8 c9 c10 c11
      refine (C5.out _ K.out.k.rd).mono ?_
      rintro e w5 ⟨rfl, r2, b2⟩
      replace K := Lib.hid (K.out.call r2 b2)
      clear r2 b2 C5
      obtain ⟨⟨c0, c1, c2, c3, c4, c5⟩, c6, c7, c8, c9, c10, c11⟩ := K.out.k.out.st
      have ff := K.out.k.out.free 6
      replace K := Lib.hid (K.out.set 6 (.int .i64 (v5 : Int)) (o' := ⟨⟨(a1 : Int), (a2 : Int)⟩, ⟨(a3 : Int), (a4 : Int)⟩, (v3 : Int), acc, av, cv, (v5 : Int), 0, 0, [], none, 0, [], none, 0, [], none, 0⟩) rfl (fun h => ⟨h.doors, h.ords, h.lns, h.bats, h.mems, h.effs⟩))
      go_wp2_with fail
      clear c0 c1 c2 c3 c4 c5 c6 c7 c8 c9 c10 c11
      clear ff
      generalize w5.setCell ⟨w.heap.size + 1, 6, none⟩ (.int .i64 (v5 : Int)) = W5 at *
      refine (C6.out _ K.out.k.rd).mono ?_
      rintro e w6 ⟨rfl, r2, b2⟩
      replace K := Lib.hid (K.out.call r2 b2)
      clear r2 b2 C6
      obtain ⟨⟨c0, c1, c2, c3, c4, c5⟩, c6, c7, c8, c9, c10, c11⟩ := K.out.k.out.st
      have ff := K.out.k.out.free 7
      replace K := Lib.hid (K.out.set 7 (.int .i64 (v6 : Int)) (o' := ⟨⟨(a1 : Int), (a2 : Int)⟩, ⟨(a3 : Int), (a4 : Int)⟩, (v3 : Int), acc, av, cv, (v5 : Int), (v6 : Int), 0, [], none, 0, [], none, 0, [], none, 0⟩) rfl (fun h => ⟨h.doors, h.ords, h.lns, h.bats, h.mems, h.effs⟩))
      go_wp2_with fail
      clear c0 c1 c2 c3 c4 c5 c6 c7 c8 c9 c10 c11
      clear ff
      generalize w6.setCell ⟨w.heap.size + 1, 7, none⟩ (.int .i64 (v6 : Int)) = W6 at *
      refine (C7.out _ K.out.k.rd).mono ?_
      rintro e w7 ⟨rfl, r2, b2⟩
      replace K := Lib.hid (K.out.call r2 b2)
      clear r2 b2 C7
      obtain ⟨⟨c0, c1, c2, c3, c4, c5⟩, c6, c7, c8, c9, c10, c11⟩ := K.out.k.out.st
      have ff := K.out.k.out.free 8
      replace K := Lib.hid (K.out.set 8 (.int .i64 (v7 : Int)) (o' := ⟨⟨(a1 : Int), (a2 : Int)⟩, ⟨(a3 : Int), (a4 : Int)⟩, (v3 : Int), acc, av, cv, (v5 : Int), (v6 : Int), (v7 : Int), [], none, 0, [], none, 0, [], none, 0⟩) rfl (fun h => ⟨h.doors, h.ords, h.lns, h.bats, h.mems, h.effs⟩))
      have la := ld_sta K.out.k.out
      have s1 := st_sta K.out.k.res (⟨⟨(a1 : Int), (a2 : Int)⟩, ⟨(a3 : Int), (a4 : Int)⟩, (v3 : Int), acc, av, cv, (v5 : Int), (v6 : Int), (v7 : Int), [], none, 0, [], none, 0, [], none, 0⟩)
      go_wp2_with fail
      (try simp only [Exit.inBlock, Exit.then])
      apply bodyPost_ret
      case hd => rfl
      case hr => exact results_cell_row rfl _ _ w.heap.size 37 _ (0, 0) _ rfl (setRow_heap _ _ _ _ _ _ K.out.k.res) Tryz.underlying37 rfl (size12 _)
      case hR =>
        have F := K.out.fin (stC (⟨⟨(a1 : Int), (a2 : Int)⟩, ⟨(a3 : Int), (a4 : Int)⟩, (v3 : Int), acc, av, cv, (v5 : Int), (v6 : Int), (v7 : Int), [], none, 0, [], none, 0, [], none, 0⟩)) (.inl hg)
        exact ⟨av, cv, by rw [HT.out]; rfl, by rw [HT.out]; exact F.1, by rw [HT.out]; exact F.2.2 hg, F.2.1⟩
end Go.Proofs.YtfmpibmhhfmajaaGreatDoor
