/- What readState of package snap answers. -/
import Derived.Test.YtfmpibmhhfmajaaGreatDoorSnReadP
namespace Go.Proofs.YtfmpibmhhfmajaaGreatDoor
set_option maxRecDepth 100000
open Go.RowKit Go.ChangeShapes Go.WideShapes Go.ChangeAt
attribute [local go_sem ↓] ldOr stOr alOr bxOr bdOr ldBa stBa alBa bxBa bdBa ldSt stSt alSt bxSt bdSt bsOr3 bsBa3
attribute [local go_sem] al_or bx_or st_ornew bd_or al_ba bx_ba st_banew bd_ba al_sta bx_sta st_stnew bd_sta bs_or3 bs_ba3

/-- An order is taken, or none. -/
structure TakeOrP (W : World) (g : Nat) (s : Sc) : Prop where
  no : takeV s = none → Calls Tryz.prog 94 #[.pointer (some ⟨g, 0, none⟩)] W (fun e w' => ∃ x : OdR, e = .returned (.tuple #[orV x, .int .i64 101]) ∧ RdS w' g (takeS s).2 ∧ But g W w')
  yes : ∀ {o : Od}, takeV s = some o → Calls Tryz.prog 94 #[.pointer (some ⟨g, 0, none⟩)] W (fun e w' => ∃ x : OdR, e = .returned (.tuple #[orV x, .int .i64 0]) ∧ x.o = o ∧ OwnL w' W.heap.size (.slice x.a x.o.ls.length x.c) x.o.ls ∧ RdS w' g (takeS s).2 ∧ But g W w')
theorem takeOrP (W : World) (g : Nat) (s : Sc) (h : RdS W g s) : TakeOrP W g s := by
  have C := take_any W g s h
  refine ⟨fun ht => C.mono ?_, fun ht => C.mono ?_⟩
  · rintro e w' ⟨a, c, rfl, _, r, b⟩
    exact ⟨⟨takeO s, a, c⟩, by rw [takeV_no ht]; rfl, r, b⟩
  · rintro e w' ⟨a, c, rfl, ow, r, b⟩
    obtain ⟨h1, h2, _⟩ := takeV_yes ht
    exact ⟨⟨takeO s, a, c⟩, by rw [h2]; rfl, h1, ow, r, b⟩
structure TakeBaP (W : World) (g : Nat) (s : Sc) : Prop where
  no : takeBV s = none → Calls Tryz.prog 95 #[.pointer (some ⟨g, 0, none⟩)] W (fun e w' => ∃ x : BtR, e = .returned (.tuple #[baV x, .bool false]) ∧ RdS w' g (takeB s).2 ∧ But g W w')
  yes : ∀ {o : Bt}, takeBV s = some o → Calls Tryz.prog 95 #[.pointer (some ⟨g, 0, none⟩)] W (fun e w' => ∃ x : BtR, e = .returned (.tuple #[baV x, .bool true]) ∧ x.b = o ∧ OwnT w' W.heap.size (.slice x.a x.b.mem.length x.c) x.b.mem ∧ RdS w' g (takeB s).2 ∧ But g W w')
theorem takeBaP (W : World) (g : Nat) (s : Sc) (h : RdS W g s) : TakeBaP W g s := by
  have C := btTake_any W g s h
  refine ⟨fun ht => C.mono ?_, fun ht => C.mono ?_⟩
  · rintro e w' ⟨a, c, rfl, _, r, b⟩
    exact ⟨⟨takeBO s, a, c⟩, by rw [ht]; rfl, r, b⟩
  · rintro e w' ⟨a, c, rfl, ow, r, b⟩
    exact ⟨⟨takeBO s, a, c⟩, by rw [ht]; rfl, (takeBV_yes ht).1, ow, r, b⟩

theorem setS_bytes (dm : Nat) {s : Sc} (h : BytesS s) : BytesS (setS dm s).2 :=
  numS_bytes (numS_bytes (numS_bytes (doorsS_bytes dm _ (numS_bytes (numS_bytes (capsS_bytes (capsS_bytes h)) _) _)) _) _) _
theorem setS_doors (dm : Nat) {s : Sc} (h : BytesS s) : (setS dm s).1.doors.length ≤ 96 := by
  show (doorsS dm _ _).1.length ≤ 96
  rw [doorsS_len]
  exact numS_le 96 _ (numS_bytes (capsS_bytes (capsS_bytes h)) _)
/-- What readState answers. -/
def StAns (g : Nat) (l : List Nat) (w : World) (e : Ending) (w' : World) : Prop := ∃ (o : StR) (ok : Bool), e = .returned (.tuple #[stV o, .bool ok]) ∧ But g w w' ∧
  ((ok = false ∧ readS 95 400 (some l) = none) ∨ (ok = true ∧ ∃ s, readS 95 400 (some l) = some (o.st, s) ∧ OwnSt w' w.heap.size o ∧ FitR o ∧ RdS w' g s))
set_option maxHeartbeats 16000000 in
theorem readState_any (w : World) (g : Nat) (l : List Nat) (h : RdS w g (some l)) (hl : l.length ≤ 1000000) : Calls Tryz.prog 29 #[.pointer (some ⟨g, 0, none⟩)] w (StAns g l w) := by
  have hg := h.lt
  have y := h.bytes
  have hmf : ∀ (fn : Fn) (first cap : Array Value) (w : World), (Instr.makeFunc fn first cap).run Tryz.prog w = .ok (.func fn first cap) w := fun _ _ _ _ => rfl
  have b0 := (Below.refl w.heap.size w).alloc (Nat.le_refl _) (.cells (stC noStR) 37)
  have C0 := Lib.hid (readSettings_any _ g (some l) (h.below b0))
  have R0 := Lib.hid (Row.new w (stC noStR) 37)
  have B0 := Lib.hid b0
  have HBy := Lib.hid (show Bytes l from y l rfl)
  have hz : (w.alloc (.cells (stC noStR) 37)).heap.size = w.heap.size + 1 := by simp
  have HBS := Lib.hid (show BytesS (setS 95 (some l)).2 by have := headS_bytes 95 y; exact setS_bytes 95 y)
  have HDl := Lib.hid (setS_doors 95 y)
  rcases hS : setS 95 (some l) with ⟨H, s0⟩
  unfold SetAns at C0
  rw [hS] at C0 HBS HDl
  dsimp only at C0 HBS HDl
  have y0 := HBS.out
  rcases h1 : numS 400 s0 with ⟨v1, s1⟩
  have C1 := Lib.hid (fun W hW => show Calls Tryz.prog 89 #[.pointer (some ⟨g, 0, none⟩), .int .u64 400] W (ReadS g (.int .u64 (v1 : Int)) s1 W) by have := rd_num W g s0 400 hW (by decide); rwa [h1] at this)
  have y1 : BytesS s1 := by have := numS_bytes y0 400; rwa [h1] at this
  have n1 : v1 ≤ 400 := by have := numS_le 400 s0 y0; rwa [h1] at this
  have x1 := i64_small n1 (by decide)
  have HS := Lib.hid hS
  have H1 := Lib.hid h1
  have Y1 := Lib.hid y1
  unfold hdR nextF at C0
  clear h y b0 y0 h1 y1 hS
  go_enter Tryz.func29, Tryz.ntmps29
  go_wp2_with fail
  generalize w.alloc (.cells (stC noStR) 37) = W0 at *
  refine C0.out.mono ?_
  rintro e w0 ⟨da, dc, rfl, ow, r0, b0⟩
  have K : Hid (RuI w g w0.heap.size (⟨⟨(H.wc : Int), (H.ww : Int)⟩, ⟨(H.mc : Int), (H.mw : Int)⟩, (H.limit : Int), H.doors, da, dc, (H.now : Int), (H.nb : Int), (H.nk : Int), [], none, 0, [], none, 0, [], none, 0⟩ : StR) s0 (w0.alloc (.cells (stC (⟨⟨(H.wc : Int), (H.ww : Int)⟩, ⟨(H.mc : Int), (H.mw : Int)⟩, (H.limit : Int), H.doors, da, dc, (H.now : Int), (H.nb : Int), (H.nk : Int), [], none, 0, [], none, 0, [], none, 0⟩)) 37))) := Lib.hid (by
    have hw0 := b0.size
    have bb := (Below.refl w0.heap.size w0).alloc (Nat.le_refl _) (.cells (stC (⟨⟨(H.wc : Int), (H.ww : Int)⟩, ⟨(H.mc : Int), (H.mw : Int)⟩, (H.limit : Int), H.doors, da, dc, (H.now : Int), (H.nb : Int), (H.nk : Int), [], none, 0, [], none, 0, [], none, 0⟩)) 37)
    have hd : OwnI w0 (w.heap.size + 1) (.slice da H.doors.length dc) H.doors := hz ▸ ow.doors
    exact ⟨⟨⟨(R0.out.but b0 (by omega)).below bb, r0.below bb, ((But.of B0.out).trans b0).trans (.of bb), Row.new _ _ _, by omega, by omega, by omega⟩, OwnI.below hd bb, fun x hx => (rowS_at hd x hx).2⟩,
      ⟨World.ownsRow_nil _ _ _ _, World.ownsRow_nil _ _ _ _, (fun _ h => by cases h), World.ownsRow_nil _ _ _ _, (fun _ h => by cases h), World.ownsRow_nil _ _ _ _⟩⟩)
  clear ow r0 b0 C0 R0 B0 hz
  go_wp2_with fail
  generalize w0.alloc (.cells (stC (⟨⟨(H.wc : Int), (H.ww : Int)⟩, ⟨(H.mc : Int), (H.mw : Int)⟩, (H.limit : Int), H.doors, da, dc, (H.now : Int), (H.nb : Int), (H.nk : Int), [], none, 0, [], none, 0, [], none, 0⟩)) 37) = W1 at *
  generalize w0.heap.size = c at *
  refine (C1.out _ K.out.k.rd).mono ?_
  rintro e w1 ⟨rfl, r2, b2⟩
  replace K := Lib.hid (K.out.call hg r2 b2)
  clear r2 b2 C1
  go_wp2_with fail
  go_loopw [18] (fun i wr => ∃ (k : Nat) (acc : List OdR) (av : Option Addr) (cv : Nat) (sk : Sc), k ≤ v1 ∧ i = .int .u64 k ∧ Hid (RuI w g c (⟨⟨(H.wc : Int), (H.ww : Int)⟩, ⟨(H.mc : Int), (H.mw : Int)⟩, (H.limit : Int), H.doors, da, dc, (H.now : Int), (H.nb : Int), (H.nk : Int), acc, av, cv, [], none, 0, [], none, 0⟩ : StR) sk wr) ∧ Hid (acc.length = k) ∧ Hid (BytesS sk) ∧ Hid (ordersO v1 s1 = (ordersO (v1 - k) sk).map fun p => (odsOf acc ++ p.1, p.2)) ∧ Hid (∀ y ∈ acc, (∀ x ∈ y.o.ls, x.sku.size ≤ 32) ∧ y.o.ls.length ≤ 8 ∧ y.o.id.size ≤ 32 ∧ y.o.car.size ≤ 32 ∧ y.o.zone.size ≤ 32 ∧ y.o.serv.size ≤ 32)) (fun i _ => v1 - (intOf i).toNat)
  case atStart => exact ⟨0, [], none, 0, s1, Nat.zero_le _, by simp, K, Lib.hid rfl, Y1, Lib.hid (by rw [Nat.sub_zero]; cases ordersO v1 s1 <;> rfl), Lib.hid (fun _ h => by cases h)⟩
  case round =>
    clear K
    obtain ⟨k, acc, av, cv, sk, hk, rfl, K, hac, HB, HL, HFi⟩ := hrel
    by_cases hlt : k < v1
    · skip
      have hkk : v1 - k = (v1 - (k + 1)) + 1 := by omega
      have C := Lib.hid (takeOrP wr g sk K.out.k.rd)
      have HLk := Lib.hid (hkk ▸ HL.out)
      cases ht : takeV sk with
      | none =>
        have HNo := Lib.hid (ordersO_stop HLk.out ht)
        have C := Lib.hid (C.out.no ht)
        clear HLk HL hkk ht
        go_wp2_with fail
        refine C.out.mono ?_
        rintro e w4 ⟨x, rfl, r4, b4⟩
        replace K := Lib.hid (K.out.call hg r4 b4)
        replace K := Lib.hid (K.out.below ((Below.refl w4.heap.size w4).alloc (Nat.le_refl _) (.cells (orC x) 93)))
        clear r4 b4 C
        have s1 := st_sta K.out.k.res noStR
        go_wp2_with fail
        (try simp only [Exit.inBlock, Exit.then])
        apply bodyPost_ret
        case hd => rfl
        case hr => exact results_cell_one rfl _ _ w.heap.size _ rfl (load12 (setRow_heap _ _ _ _ _ _ K.out.k.res))
        case hR =>
          have F := K.out.fin (stC noStR) hg
          exact ⟨noStR, false, rfl, F.2.1, .inl ⟨rfl, read_noO 95 400 HS.out H1.out HNo.out⟩⟩
      | some xo =>
        have HN := Lib.hid (ordersO_more HLk.out ht)
        have C := Lib.hid (C.out.yes ht)
        have hx1 := (takeV_yes ht)
        have hfx := takeS_fits HB.out
        have hsx := takeS_bytes HB.out
        clear HLk HL hkk ht
        go_wp2_with fail
        refine C.out.mono ?_
        rintro e w4 ⟨x, rfl, hx, ox, r4, b4⟩
        have hwr : c + 1 ≤ wr.heap.size := K.out.k.out.lt
        replace K := Lib.hid (K.out.call hg r4 b4)
        have al1 := (Below.refl w4.heap.size w4).alloc (Nat.le_refl _) (.cells (orC x) 93)
        have K4 := Lib.hid (K.out.below al1)
        have al2 := al1.trans (((Below.refl (w4.alloc (.cells (orC x) 93)).heap.size (w4.alloc (.cells (orC x) 93))).alloc (Nat.le_refl _) (.cells (orC x) 93)).mono (by simp))
        have K5 := Lib.hid (K.out.below al2)
        have OX : Hid (OwnL ((w4.alloc (.cells (orC x) 93)).alloc (.cells (orC x) 93)) (c + 1) (.slice x.a x.o.ls.length x.c) x.o.ls) := Lib.hid (row_base (OwnL.below ox al2) hwr)
        have T5 := Lib.hid (or_one (w4.alloc (.cells (orC x) 93)) (w4.heap.size + 1) (by simp) x)
        have HX1 := Lib.hid (show odsOf (acc ++ [x]) = odsOf acc ++ [xo] by rw [← hx]; simp [odsOf])
        have HF2 : Hid (∀ y ∈ acc ++ [x], (∀ x ∈ y.o.ls, x.sku.size ≤ 32) ∧ y.o.ls.length ≤ 8 ∧ y.o.id.size ≤ 32 ∧ y.o.car.size ≤ 32 ∧ y.o.zone.size ≤ 32 ∧ y.o.serv.size ≤ 32) := Lib.hid (fun y hy => by
          rcases List.mem_append.1 hy with hy | hy
          · exact HFi.out y hy
          · rw [List.mem_singleton.1 hy, hx, hx1.2.2]
            exact hfx)
        have HN := Lib.hid (show ordersO v1 s1 = (ordersO (v1 - (k + 1)) (takeS sk).2).map fun p => (odsOf (acc ++ [x]) ++ p.1, p.2) by rw [HX1.out]; exact HN.out)
        have HK1 := Lib.hid (show (acc ++ [x]).length = k + 1 by rw [List.length_append, hac.out]; rfl)
        have HX := Lib.hid hsx
        clear hx hx1 hfx hsx HX1 HFi r4 b4 ox al1 al2 hwr C
        have la := ld_or (Row.new w4 (orC x) 93)
        obtain ⟨⟨c0, c1, c2, c3, c4, c5⟩, c6, c7, c8, c9, c10, c11⟩ := K4.out.k.out.st
        have hle := hac.out
        have hlen : acc.length + [x].length ≤ 10000000 := by rw [hac.out]; simp; omega
        clear hle
        have OA : Hid (OwnS LO ((w4.alloc (.cells (orC x) 93)).alloc (.cells (orC x) 93)) (c + 1) (.slice av acc.length cv) acc) := Lib.hid K5.out.own.ords
        have hz5 : c + 1 ≤ ((w4.alloc (.cells (orC x) 93)).alloc (.cells (orC x) 93)).heap.size := K5.out.k.out.lt
        go_wp2_with (at_builtin; go_must (refine wpList_append_sl LO_ok rfl _ _ rfl (c + 1) (.slice av acc.length cv) acc [x] rfl OA.out (some ⟨w4.heap.size + 1, 0, none⟩) 1 rfl T5.out hlen hz5 ?_))
        rintro v7 w7 o7 g7
        obtain ⟨a7, p7, rfl⟩ := o7.shape
        obtain ⟨q, hq, bq⟩ := But.grown g7 OA.out.row
        have K7 := Lib.hid (K5.out.j.far hq bq)
        have O7 := Lib.hid (K5.out.own.order (y := x) (a := a7) (c := p7) OX.out o7 g7)
        clear o7 g7 bq c0 c1 c2 c3 c4 c5 c6 c7 c8 c9 c10 c11 la K4 K OA T5
        have K8 := Lib.hid (K7.out.put 9 (.slice a7 (acc.length + 1) p7) (o' := ⟨⟨(H.wc : Int), (H.ww : Int)⟩, ⟨(H.mc : Int), (H.mw : Int)⟩, (H.limit : Int), H.doors, da, dc, (H.now : Int), (H.nb : Int), (H.nk : Int), (acc ++ [x]), a7, p7, [], none, 0, [], none, 0⟩) (by rw [show acc.length + 1 = (acc ++ [x]).length by simp]; rfl) ⟨rfl, rfl, rfl⟩ O7.out)
        obtain ⟨⟨c0, c1, c2, c3, c4, c5⟩, c6, c7, c8, c9, c10, c11⟩ := K7.out.k.out.st
        have ff := K7.out.k.out.free 9
        go_wp2_with fail
        clear c0 c1 c2 c3 c4 c5 c6 c7 c8 c9 c10 c11 ff
        go_roundw
        case rel => exact ⟨k + 1, acc ++ [x], a7, p7, (takeS sk).2, by omega, by go_num, K8, HK1, HX, HN, HF2⟩
        case measure => simp [intOf]; omega
    · skip
      have HE := Lib.hid (show ordersO v1 s1 = some (odsOf acc, sk) by rw [HL.out, show v1 - k = 0 by omega]; simp [ordersO_zero])
      have yk := HB.out
      rcases h2 : numS 400 sk with ⟨v2, s2⟩
      have C2 := Lib.hid (fun W hW => show Calls Tryz.prog 89 #[.pointer (some ⟨g, 0, none⟩), .int .u64 400] W (ReadS g (.int .u64 (v2 : Int)) s2 W) by have := rd_num W g sk 400 hW (by decide); rwa [h2] at this)
      have y2 : BytesS s2 := by have := numS_bytes yk 400; rwa [h2] at this
      have n2 : v2 ≤ 400 := by have := numS_le 400 sk yk; rwa [h2] at this
      have x2 := i64_small n2 (by decide)
      have HE1 := Lib.hid (show ordersO v1 s1 = some (odsOf acc, sk) from HE.out)
      have H2 := Lib.hid h2
      have Y2 := Lib.hid y2
      have HFo := Lib.hid HFi.out
      have HMo := Lib.hid (show acc.length ≤ 400 by rw [hac.out]; omega)
      clear yk h2 y2 HE HL HB HFi hac
      go_wp2_with fail
      refine (C2.out _ K.out.k.rd).mono ?_
      rintro e w2 ⟨rfl, r2, b2⟩
      replace K := Lib.hid (K.out.call hg r2 b2)
      clear r2 b2 C2
      generalize hacO : acc = oacc at *
      generalize av = oav at *
      generalize cv = ocv at *
      clear hacO hk hlt
      generalize wr = wo1 at *
      go_wp2_with fail
      go_loopw [37] (fun i wr => ∃ (k : Nat) (acc : List BtR) (av : Option Addr) (cv : Nat) (sk : Sc), k ≤ v2 ∧ i = .int .u64 k ∧ Hid (RuI w g c (⟨⟨(H.wc : Int), (H.ww : Int)⟩, ⟨(H.mc : Int), (H.mw : Int)⟩, (H.limit : Int), H.doors, da, dc, (H.now : Int), (H.nb : Int), (H.nk : Int), oacc, oav, ocv, acc, av, cv, [], none, 0⟩ : StR) sk wr) ∧ Hid (acc.length = k) ∧ Hid (BytesS sk) ∧ Hid (batchesO v2 s2 = (batchesO (v2 - k) sk).map fun p => (btsOf acc ++ p.1, p.2)) ∧ Hid (∀ y ∈ acc, FitsB y.b)) (fun i _ => v2 - (intOf i).toNat)
      case atStart => exact ⟨0, [], none, 0, s2, Nat.zero_le _, by simp, K, Lib.hid rfl, Y2, Lib.hid (by rw [Nat.sub_zero]; cases batchesO v2 s2 <;> rfl), Lib.hid (fun _ h => by cases h)⟩
      case round =>
        clear K
        obtain ⟨k, acc, av, cv, sk, hk, rfl, K, hac, HB, HL, HFi⟩ := hrel
        by_cases hlt : k < v2
        · skip
          have hkk : v2 - k = (v2 - (k + 1)) + 1 := by omega
          have C := Lib.hid (takeBaP wr g sk K.out.k.rd)
          have HLk := Lib.hid (hkk ▸ HL.out)
          cases ht : takeBV sk with
          | none =>
            have HNo := Lib.hid (batchesO_stop HLk.out ht)
            have C := Lib.hid (C.out.no ht)
            clear HLk HL hkk ht
            go_wp2_with fail
            refine C.out.mono ?_
            rintro e w4 ⟨x, rfl, r4, b4⟩
            replace K := Lib.hid (K.out.call hg r4 b4)
            replace K := Lib.hid (K.out.below ((Below.refl w4.heap.size w4).alloc (Nat.le_refl _) (.cells (baC x) 98)))
            clear r4 b4 C
            have s1 := st_sta K.out.k.res noStR
            go_wp2_with fail
            (try simp only [Exit.inBlock, Exit.then])
            apply bodyPost_ret
            case hd => rfl
            case hr => exact results_cell_one rfl _ _ w.heap.size _ rfl (load12 (setRow_heap _ _ _ _ _ _ K.out.k.res))
            case hR =>
              have F := K.out.fin (stC noStR) hg
              exact ⟨noStR, false, rfl, F.2.1, .inl ⟨rfl, read_noB 95 400 HS.out H1.out HE1.out H2.out HNo.out⟩⟩
          | some xo =>
            have HN := Lib.hid (batchesO_more HLk.out ht)
            have C := Lib.hid (C.out.yes ht)
            have hx1 := (takeBV_yes ht)
            have hfx := takeB_fits HB.out
            have hsx := takeB_bytes HB.out
            clear HLk HL hkk ht
            go_wp2_with fail
            refine C.out.mono ?_
            rintro e w4 ⟨x, rfl, hx, ox, r4, b4⟩
            have hwr : c + 1 ≤ wr.heap.size := K.out.k.out.lt
            replace K := Lib.hid (K.out.call hg r4 b4)
            have al1 := (Below.refl w4.heap.size w4).alloc (Nat.le_refl _) (.cells (baC x) 98)
            have K4 := Lib.hid (K.out.below al1)
            have al2 := al1.trans (((Below.refl (w4.alloc (.cells (baC x) 98)).heap.size (w4.alloc (.cells (baC x) 98))).alloc (Nat.le_refl _) (.cells (baC x) 98)).mono (by simp))
            have K5 := Lib.hid (K.out.below al2)
            have OX : Hid (OwnT ((w4.alloc (.cells (baC x) 98)).alloc (.cells (baC x) 98)) (c + 1) (.slice x.a x.b.mem.length x.c) x.b.mem) := Lib.hid (row_base (OwnT.below ox al2) hwr)
            have T5 := Lib.hid (ba_one (w4.alloc (.cells (baC x) 98)) (w4.heap.size + 1) (by simp) x)
            have HX1 := Lib.hid (show btsOf (acc ++ [x]) = btsOf acc ++ [xo] by rw [← hx]; simp [btsOf])
            have HF2 : Hid (∀ y ∈ acc ++ [x], FitsB y.b) := Lib.hid (fun y hy => by
              rcases List.mem_append.1 hy with hy | hy
              · exact HFi.out y hy
              · rw [List.mem_singleton.1 hy, hx, hx1.2]
                exact hfx)
            have HN := Lib.hid (show batchesO v2 s2 = (batchesO (v2 - (k + 1)) (takeB sk).2).map fun p => (btsOf (acc ++ [x]) ++ p.1, p.2) by rw [HX1.out]; exact HN.out)
            have HK1 := Lib.hid (show (acc ++ [x]).length = k + 1 by rw [List.length_append, hac.out]; rfl)
            have HX := Lib.hid hsx
            clear hx hx1 hfx hsx HX1 HFi r4 b4 ox al1 al2 hwr C
            have la := ld_ba (Row.new w4 (baC x) 98)
            obtain ⟨⟨c0, c1, c2, c3, c4, c5⟩, c6, c7, c8, c9, c10, c11⟩ := K4.out.k.out.st
            have hle := hac.out
            have hlen : acc.length + [x].length ≤ 10000000 := by rw [hac.out]; simp; omega
            clear hle
            have OA : Hid (OwnS LB ((w4.alloc (.cells (baC x) 98)).alloc (.cells (baC x) 98)) (c + 1) (.slice av acc.length cv) acc) := Lib.hid K5.out.own.bats
            have hz5 : c + 1 ≤ ((w4.alloc (.cells (baC x) 98)).alloc (.cells (baC x) 98)).heap.size := K5.out.k.out.lt
            go_wp2_with (at_builtin; go_must (refine wpList_append_sl LB_ok rfl _ _ rfl (c + 1) (.slice av acc.length cv) acc [x] rfl OA.out (some ⟨w4.heap.size + 1, 0, none⟩) 1 rfl T5.out hlen hz5 ?_))
            rintro v7 w7 o7 g7
            obtain ⟨a7, p7, rfl⟩ := o7.shape
            obtain ⟨q, hq, bq⟩ := But.grown g7 OA.out.row
            have K7 := Lib.hid (K5.out.j.far hq bq)
            have O7 := Lib.hid (K5.out.own.batch (y := x) (a := a7) (c := p7) OX.out o7 g7)
            clear o7 g7 bq c0 c1 c2 c3 c4 c5 c6 c7 c8 c9 c10 c11 la K4 K OA T5
            have K8 := Lib.hid (K7.out.put 10 (.slice a7 (acc.length + 1) p7) (o' := ⟨⟨(H.wc : Int), (H.ww : Int)⟩, ⟨(H.mc : Int), (H.mw : Int)⟩, (H.limit : Int), H.doors, da, dc, (H.now : Int), (H.nb : Int), (H.nk : Int), oacc, oav, ocv, (acc ++ [x]), a7, p7, [], none, 0⟩) (by rw [show acc.length + 1 = (acc ++ [x]).length by simp]; rfl) ⟨rfl, rfl, rfl⟩ O7.out)
            obtain ⟨⟨c0, c1, c2, c3, c4, c5⟩, c6, c7, c8, c9, c10, c11⟩ := K7.out.k.out.st
            have ff := K7.out.k.out.free 10
            go_wp2_with fail
            clear c0 c1 c2 c3 c4 c5 c6 c7 c8 c9 c10 c11 ff
            go_roundw
            case rel => exact ⟨k + 1, acc ++ [x], a7, p7, (takeB sk).2, by omega, by go_num, K8, HK1, HX, HN, HF2⟩
            case measure => simp [intOf]; omega
        · skip
          have HE := Lib.hid (show batchesO v2 s2 = some (btsOf acc, sk) by rw [HL.out, show v2 - k = 0 by omega]; simp [batchesO_zero])
          have HP := Lib.hid (read_parts 95 400 HS.out H1.out HE1.out H2.out HE.out)
          have hleft : ∀ b, sk = some b → b.length ≤ 1000000 := fun b hb => Nat.le_trans (left_few 95 400 HBy.out HS.out H1.out HE1.out H2.out (by rw [HE.out, hb])) hl
          have CO := Lib.hid (obTake_any wr g sk K.out.k.rd hleft)
          have HFe := Lib.hid (boxO_sizes HB.out)
          have HFb := Lib.hid HFi.out
          clear hleft HE HL HB HFi hac HE1 H1 H2 HS
          go_wp2_with fail
          refine CO.out.mono ?_
          rintro e w5 ⟨v5, rfl, o5, r5, b5⟩
          obtain ⟨ea, ec, rfl⟩ := o5.shape
          have hwr : c + 1 ≤ wr.heap.size := K.out.k.out.lt
          have O5 := Lib.hid (o5.base hwr)
          generalize hbv : boxV sk = bv at *
          have RES5 := Lib.hid (K.out.k.res.but b5 K.out.k.hg.symm)
          have OUT5 := Lib.hid (K.out.k.out.but b5 (by have := K.out.k.hgc; omega))
          have BUT5 := Lib.hid (K.out.k.but.trans b5)
          have hcc := K.out.k.hc
          cases hq : boxO sk with
          | none =>
            have HP := Lib.hid (show readS 95 400 (some l) = none by rw [HP.out, hq])
            clear r5 o5 O5 hq K
            obtain ⟨⟨c0, c1, c2, c3, c4, c5⟩, c6, c7, c8, c9, c10, c11⟩ := OUT5.out.st
            have ff := OUT5.out.free 11
            have OUT6 : Hid (Row (w5.setCell ⟨c, 11, none⟩ (.slice ea bv.length ec)) c 37 (stC (⟨⟨(H.wc : Int), (H.ww : Int)⟩, ⟨(H.mc : Int), (H.mw : Int)⟩, (H.limit : Int), H.doors, da, dc, (H.now : Int), (H.nb : Int), (H.nk : Int), oacc, oav, ocv, acc, av, cv, bv, ea, ec⟩))) := Lib.hid (OUT5.out.set 11 _)
            have bs : But c w5 (w5.setCell ⟨c, 11, none⟩ (.slice ea bv.length ec)) := (But.refl _ _).set 11 _
            have RES6 := Lib.hid (RES5.out.but bs (by omega))
            have BUT6 := Lib.hid (BUT5.out.new (k := c) (by omega) bs)
            have la := ld_sta OUT6.out
            have s1 := st_sta RES6.out (⟨⟨(H.wc : Int), (H.ww : Int)⟩, ⟨(H.mc : Int), (H.mw : Int)⟩, (H.limit : Int), H.doors, da, dc, (H.now : Int), (H.nb : Int), (H.nk : Int), oacc, oav, ocv, acc, av, cv, bv, ea, ec⟩)
            go_wp2_with fail
            (try simp only [Exit.inBlock, Exit.then])
            apply bodyPost_ret
            case hd => rfl
            case hr => exact results_cell_one rfl _ _ w.heap.size _ rfl (load12 (setRow_heap _ _ _ _ _ _ RES6.out))
            case hR => exact ⟨⟨⟨(H.wc : Int), (H.ww : Int)⟩, ⟨(H.mc : Int), (H.mw : Int)⟩, (H.limit : Int), H.doors, da, dc, (H.now : Int), (H.nb : Int), (H.nk : Int), oacc, oav, ocv, acc, av, cv, bv, ea, ec⟩, false, rfl, BUT6.out.new (Nat.le_refl _) ((But.refl _ _).setRow _), .inl ⟨rfl, HP.out⟩⟩
          | some bl =>
            have hb2 : bv = bl := by rw [← hbv]; unfold boxV; rw [hq]; rfl
            subst hb2
            have K5 := Lib.hid (K.out.call hg (r5 (by rw [hq]; rfl)) b5)
            have HP := Lib.hid (show readS 95 400 (some l) = some ((⟨⟨(H.wc : Int), (H.ww : Int)⟩, ⟨(H.mc : Int), (H.mw : Int)⟩, (H.limit : Int), H.doors, da, dc, (H.now : Int), (H.nb : Int), (H.nk : Int), oacc, oav, ocv, acc, av, cv, bv, ea, ec⟩ : StR).st, (boxS sk).2) by rw [HP.out, hq]; rfl)
            clear r5 o5 hq hbv RES5 OUT5 BUT5 hcc
            obtain ⟨⟨c0, c1, c2, c3, c4, c5⟩, c6, c7, c8, c9, c10, c11⟩ := K5.out.k.out.st
            have ff := K5.out.k.out.free 11
            have K6 := Lib.hid (K5.out.j.put 11 (.slice ea bv.length ec) (o' := ⟨⟨(H.wc : Int), (H.ww : Int)⟩, ⟨(H.mc : Int), (H.mw : Int)⟩, (H.limit : Int), H.doors, da, dc, (H.now : Int), (H.nb : Int), (H.nk : Int), oacc, oav, ocv, acc, av, cv, bv, ea, ec⟩) rfl ⟨rfl, rfl, rfl⟩ (K5.out.own.effects O5.out))
            have la := ld_sta K6.out.k.out
            have s1 := st_sta K6.out.k.res (⟨⟨(H.wc : Int), (H.ww : Int)⟩, ⟨(H.mc : Int), (H.mw : Int)⟩, (H.limit : Int), H.doors, da, dc, (H.now : Int), (H.nb : Int), (H.nk : Int), oacc, oav, ocv, acc, av, cv, bv, ea, ec⟩)
            go_wp2_with fail
            (try simp only [Exit.inBlock, Exit.then])
            apply bodyPost_ret
            case hd => rfl
            case hr => exact results_cell_one rfl _ _ w.heap.size _ rfl (load12 (setRow_heap _ _ _ _ _ _ K6.out.k.res))
            case hR =>
              have F := K6.out.fin (stC (⟨⟨(H.wc : Int), (H.ww : Int)⟩, ⟨(H.mc : Int), (H.mw : Int)⟩, (H.limit : Int), H.doors, da, dc, (H.now : Int), (H.nb : Int), (H.nk : Int), oacc, oav, ocv, acc, av, cv, bv, ea, ec⟩)) hg
              exact ⟨⟨⟨(H.wc : Int), (H.ww : Int)⟩, ⟨(H.mc : Int), (H.mw : Int)⟩, (H.limit : Int), H.doors, da, dc, (H.now : Int), (H.nb : Int), (H.nk : Int), oacc, oav, ocv, acc, av, cv, bv, ea, ec⟩, true, rfl, F.2.1, .inr ⟨rfl, _, HP.out, F.1, ⟨HDl.out, HMo.out, HFo.out, HFb.out, HFe.out⟩, F.2.2 hg⟩⟩
end Go.Proofs.YtfmpibmhhfmajaaGreatDoor
