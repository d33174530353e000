/-
  The program's Parse: of whatever bytes, what the format asks.
  Conditions: at most 2^31 bytes.
  The awake of layer 8: it returns true and turns nothing that was there.
  Conditions: none.
  The law's maker of modules, walked whole: what it yields are modules that the maker may make, in memory of the call's own.
  Conditions: the numbers are the language's.
-/
import Derived.Test.YtcenonnccodfoaaDoorMa17
import Derived.Test.YtcenonnccodfoaaDoorMa15
import Derived.Deep.DeepCutAuto
import Derived.Deep.RegionLaw
namespace Go.Proofs.YtcenonnccodfoaaDoor

open Go.RowKit

set_option maxRecDepth 50000 in
set_option maxHeartbeats 1000000 in
theorem pParse_any (A : Option Addr) (n c : Nat) (b : List UInt8) (w : World) (hb : Byt w w.heap.size A n b) (hc : n ≤ c) (hn : n ≤ 2147483648) :
    Calls Tryd.prog 15 #[.slice A n c] w (ParseEnd b w) := by
  have hln := hb.1
  have HB := Lib.hid hb
  have HVP := Lib.hid (views_parse (b := b))
  have HOK := Lib.hid fun ms e (h : headE b = 0) => isParse_ok (b := b) (ms := ms) (e := e) h
  have HBAD := Lib.hid (isParse_bad (b := b))
  have HH := Lib.hid (headE_ok (b := b))
  have HCH := Lib.hid (checkHeader_any A n c b w hb hc hn)
  clear hb
  go_enter Tryd.func15, Tryd.ntmps15
  go_wp2_with fail
  go_fit HCH.out
  rintro e w1 ⟨rfl, hb1⟩
  have HB1 := Lib.hid hb1
  clear hb1 HCH
  by_cases hh : headE b = 0
  case neg =>
    have HR := Lib.hid (HBAD.out hh)
    have f1 : (headE b != 0) = true := by simp [hh]
    clear hh
    generalize headE b = x at *
    go_wp2
    go_ret2
    exact ParseEnd.bad HB1.out HR.out
  have h16 := (HH.out hh).1
  have HK := Lib.hid fun ms e => HOK.out ms e hh
  have HBW := Lib.hid ((HB.out.below HB1.out).wide HB1.out.size)
  have HVC := Lib.hid (views_any A n c b w1 HBW.out hc (by omega) hn)
  rw [hh]
  clear HOK HBAD hh
  go_wp2_with fail
  go_fit HVC.out
  rintro e w2 ⟨hb2, hve⟩
  have HB2 := Lib.hid (bel_next8 HB1.out hb2)
  rcases hve with ⟨hnone, rfl⟩ | ⟨v, so, l, hsome, rfl, hsel⟩
  · have HR := Lib.hid (HK.out [] 54 (.inr ⟨rfl, rfl, HVP.out.1 hnone⟩))
    clear hb2 hnone HVC
    go_wp2
    go_ret2
    exact ParseEnd.bad HB2.out HR.out
  obtain ⟨hl1, hl2⟩ := views_small hsome
  have HN := Lib.hid (HVP.out.2 l hsome)
  obtain ⟨A', c', rfl, hc', hrow⟩ : ∃ A' c', v = .slice A' l.length c' ∧ l.length ≤ c' ∧ MRow w2 w2.heap.size A' so l := by
    obtain ⟨A', c', e, h1, _, hr⟩ := hsel.own.row SMod.len
    have hl := hsel.len
    obtain ⟨A2, c2, e2, hm⟩ := hsel.row
    rw [e] at e2
    injection e2 with q1 q2 q3
    subst q1
    exact ⟨A', c', by rw [e, hl], by omega, hm⟩
  have HBC := Lib.hid (pBuild_any l so A' c' w2 hrow (by omega) hc' (fun m hm => by have := hl2 m hm; omega))
  have HSEL := Lib.hid hsel
  clear hb2 hsome HVC hsel hrow
  go_wp2_with fail
  go_fit HBC.out
  rintro e w3 ⟨hb3, A3, c3, rfl, hby3, hc3⟩
  have HB3 := Lib.hid (bel_next8 HB2.out hb3)
  by_cases he : errM l = 0
  case neg =>
    have HR := Lib.hid (HK.out [] 54 (.inr ⟨rfl, rfl, HN.out fun h => he h.1⟩))
    have f1 : (errM l != 0) = true := by simp [he]
    clear he hby3 hc3 hb3
    generalize errM l = x at *
    generalize (imgM l).length = y at *
    go_wp2
    go_ret2
    exact ParseEnd.bad HB3.out HR.out
  have HIM : Hid (imgM l = imageL l) := Lib.hid (by unfold imgM; rw [if_pos he])
  have HE := Lib.hid he
  have HQC := Lib.hid (equal_any A3 A (imgM l).length c3 n c _ _ (imgM l) b w3 hby3 ((HB.out.below HB3.out).wide HB3.out.size))
  rw [he]
  clear he
  by_cases hq : imgM l = b
  case neg =>
    have HR := Lib.hid (HK.out [] 54 (.inr ⟨rfl, rfl, HN.out fun h => hq (HIM.out.trans h.2)⟩))
    have f1 : (imgM l == b) = false := by simp [hq]
    rw [f1] at HQC
    clear hq hby3 hc3 hb3 f1
    generalize (imgM l).length = y at *
    go_wp2_with fail
    go_fit HQC.out
    rintro e w4 ⟨rfl, rfl⟩
    go_wp2
    go_ret2
    exact ParseEnd.bad HB3.out HR.out
  have HR := Lib.hid (HK.out l 0 (.inl ⟨rfl, HE.out, HIM.out.symm.trans hq⟩))
  have f1 : (imgM l == b) = true := by simp [hq]
  rw [f1] at HQC
  have HPA := Lib.hid (HSEL.out.par.below hb3)
  clear hq hby3 hc3 hb3 f1
  generalize (imgM l).length = y at *
  go_wp2_with fail
  go_fit HQC.out
  rintro e w4 ⟨rfl, rfl⟩
  clear HQC HBC
  go_wp2_with fail
  go_loopw [38] (fun v38 wr => ∃ k : Nat, ∃ ss, v38 = .int .i64 k ∧ k ≤ l.length ∧ Hid (ParI w1 wr (.slice A' l.length c') ss l k)) (fun v38 _ => l.length - (intOf v38).toNat)
  case atStart => exact ⟨0, so, rfl, Nat.zero_le _, HPA⟩
  case round =>
    obtain ⟨k, ss, rfl, hk, HP⟩ := hrel
    have hlen := HP.out.len
    rcases Nat.lt_or_ge k l.length with hlt | hge
    · have hls : k < ss.length := by omega
      obtain ⟨g, cp, e, hg1, hg2, hno, hfz, z0, z1, z2, z3, z4⟩ := HP.out.form hls
      cases e
      have hold := HP.out.todo k hls hlt (Nat.le_refl _)
      have hat : ModAt (wr.alloc (.cells #[.string ⟨ss[k].name.toArray⟩, .int .i64 ss[k].kind, .int .i64 ss[k].width, .int .i64 ss[k].entry, .slice ss[k].A ss[k].n ss[k].c] 41)) wr.heap.size ss[k] := heap_alloc_new wr _
      have HAT := Lib.hid hat
      have HBA := Lib.hid (bel_lit8 (Below.refl _ wr) (objM ss[k]))
      have hrowk : Byt (wr.alloc (objM ss[k])) wr.heap.size ss[k].A ss[k].n l[k].data := ((hold.row.below (HP.out.bel)).wide HP.out.bel.size).below HBA.out
      have hsa : (wr.alloc (objM ss[k])).heap.size = wr.heap.size + 1 := by simp
      have hcl0 := (clone_any ss[k].A ss[k].n ss[k].c _ l[k].data (wr.alloc (objM ss[k])) hrowk (by have := hold.n; have := hold.few; omega))
      rw [hsa] at hcl0
      have HCL := Lib.hid hcl0
      clear hcl0 hsa hrowk hold hat
      obtain ⟨x0, x1, x2, x3, x4⟩ := HAT.out.cells
      have HPUT := Lib.hid fun w' B n c h1 h2 => HP.out.put hls hlt (w' := w') (B := B) (n := n) (c := c) h1 h2
      have HOTH := Lib.hid fun w' (h : Below wr.heap.size wr w') => (HP.out.below h).form hls
      generalize ss[k] = y at *
      go_wp2_with fail
      go_fit HCL.out
      rintro e w6 ⟨B6, c6, rfl, hown6, hb6⟩
      have hbw : Below wr.heap.size wr w6 := HBA.out.trans ⟨hb6.os, hb6.tape, hb6.output, hb6.size, fun q hq => hb6.block q (by omega)⟩
      have hown7 : Own w6 wr.heap.size (.slice B6 y.n c6) l[k].data := ⟨hown6.1, by
        rcases hown6.2 with h4 | ⟨g2, cp2, cur2, hv2, hb2, rest⟩
        · exact .inl h4
        · exact .inr ⟨g2, cp2, cur2, hv2, by omega, rest⟩⟩
      have HNX := Lib.hid (HPUT.out w6 B6 _ c6 hown7 hbw)
      obtain ⟨g', cp', e, hg1', hg2', hno', hfz', u0, u1, u2, u3, u4⟩ := HOTH.out w6 hbw
      cases e
      clear x0 x1 x2 x3 x4 z0 z1 z2 z3 z4 hfz hno hno' hown6 hown7 hb6 hbw HPUT HOTH HCL
      go_wp2_with fail
      go_roundw
      case rel => exact ⟨k + 1, _, by go_num, by omega, HNX⟩
      case measure => simp [intOf]; omega
    · have HEND : Hid (ParseEnd b w (.returned (.tuple #[.slice A' l.length c', .int .i64 0])) wr) := Lib.hid (by
        have hkk : k = l.length := by omega
        subst hkk
        obtain ⟨A4, c4, e4, h4, hm4⟩ := HP.out.row
        cases e4
        exact ⟨bel_next8 HB1.out HP.out.bel, _, _, ss, l, 0, rfl, hm4, h4, HR.out⟩)
      go_wp2
      go_ret2
      exact HEND.out
end Go.Proofs.YtcenonnccodfoaaDoor


namespace Go.Proofs.YtcenonnccodfoaaDoor

open Go.RowKit

def oneM : GMod := ⟨[112], 3, 0, 0, [120, 121]⟩
theorem err_nil : errM [] = 0 := by decide
theorem err_one : errM [oneM] = 0 := by decide
theorem img_nil : (imgM []).length = 64 ∧ (imgM []).take 4 = [77, 75, 66, 73] := by
  unfold imgM
  rw [if_pos err_nil]
  refine ⟨?_, (image_facts err_nil).2.2.1⟩
  rw [length_image (by simp)]
  decide
theorem img_one_len : (imageL [oneM]).length = 128 := by
  rw [length_image (by decide)]
  decide
theorem imgM_ok {ms : List GMod} (h : errM ms = 0) : imgM ms = imageL ms := by
  unfold imgM
  rw [if_pos h]
theorem img_one_is : imgM [oneM] = imageL [oneM] := imgM_ok err_one
theorem img_ok {ms : List GMod} (h : errM ms = 0) : ∀ xs e, IsParse8 (imgM ms) xs e → xs = ms ∧ e = 0 := by
  rw [imgM_ok h]
  exact fun xs e hp => hp.same (parse_image h)
theorem img_one : (imgM [oneM]).length = 128 ∧ ∀ xs e, IsParse8 (imgM [oneM]) xs e → xs = [oneM] ∧ e = 0 :=
  ⟨by rw [img_one_is]; exact img_one_len, img_ok err_one⟩
theorem Byt.next8 {w w' : World} {A : Option Addr} {n : Nat} {l : List UInt8} (h : Byt w w.heap.size A n l) (hb : Below w.heap.size w w') : Byt w' w'.heap.size A n l := (h.below hb).wide hb.size
set_option maxRecDepth 50000 in
set_option maxHeartbeats 1000000 in
theorem awake_any (w : World) : Calls Tryd.prog 11 #[] w fun e w' => e = .returned (.bool true) ∧ Below w.heap.size w w' := by
  have HC1 := Lib.hid (pBuild_any [] [] none 0 w ⟨GRow.nil, rfl, fun i h => by simp at h⟩ (by simp) (by simp) (by simp))
  go_enter Tryd.func11, Tryd.ntmps11
  go_wp2_with fail
  go_fit HC1.out
  rintro e w1 ⟨hb1, A1, c1, rfl, hby1, hc1⟩
  obtain ⟨hl0, ht0⟩ := img_nil
  rw [err_nil]
  rw [hl0] at hby1 hc1 ⊢
  have HB1 := Lib.hid hb1
  have HY1 := Lib.hid hby1
  clear hb1 hby1 HC1
  have hkc := fun (C : Array Value) (n c : Nat) => Lib.run_convert_bytes_const (P := Tryd.prog) w1 23 5 C n c Tryd.underlying23 Tryd.underlying5
  have hbl : Below w1.heap.size w1 ((w1.alloc (.cells #[.int .u8 120, .int .u8 121] 5 (2, 3))).alloc (objM ⟨[112], 3, 0, 0, some ⟨w1.heap.size, 0, none⟩, 2, 2⟩)) := bel_lit8 (bel_lit8 (Below.refl _ w1) _) _ |>.mono (by simp)
  have hrow : MRow ((w1.alloc (.cells #[.int .u8 120, .int .u8 121] 5 (2, 3))).alloc (.cells #[.string ⟨#[112]⟩, .int .i64 3, .int .i64 0, .int .i64 0, .slice (some ⟨w1.heap.size, 0, none⟩) 2 2] 41)) (w1.heap.size + 2) (some ⟨w1.heap.size + 1, 0, none⟩) [⟨[112], 3, 0, 0, some ⟨w1.heap.size, 0, none⟩, 2, 2⟩] [oneM] := by
    have h1 := lit_mod (w1.alloc (.cells #[.int .u8 120, .int .u8 121] 5 (2, 3))) ⟨[112], 3, 0, 0, some ⟨w1.heap.size, 0, none⟩, 2, 2⟩
    have hs : (w1.alloc (.cells #[.int .u8 120, .int .u8 121] 5 (2, 3))).heap.size = w1.heap.size + 1 := by simp
    rw [hs] at h1
    refine ⟨h1.wide (by simp), rfl, fun i i1 i2 => ?_⟩
    have i0 : i = 0 := by simp at i1; omega
    subst i0
    refine ⟨rfl, rfl, rfl, rfl, ?_, by simp [oneM]⟩
    have h2 := Byt.lit w1 (2, 3) [120, 121] #[.int .u8 120, .int .u8 121] 2 (by simp [vals]) rfl
    exact (h2.below ((Below.refl _ _).alloc (by simp) _)).wide (by omega)
  have HBL := Lib.hid hbl
  have HB2 := Lib.hid (pBuild_any [oneM] _ _ 1 _ (hrow.wide (by simp)) (by simp) (by simp) (by simp [oneM]))
  clear hbl hrow
  go_wp2_with fail
  clear hkc
  go_fit HB2.out
  rintro e w2 ⟨hb2, A2, c2, rfl, hby2, hc2⟩
  obtain ⟨hl1, hp1⟩ := img_one
  rw [err_one]
  rw [hl1] at hby2 hc2 ⊢
  generalize imgM [oneM] = im at *
  have hb3 : Below w.heap.size w w2 := bel_next8 (bel_next8 HB1.out HBL.out) hb2
  have HB3 := Lib.hid hb3
  have HPC := Lib.hid (pParse_any A2 128 c2 im w2 hby2 hc2 (by omega))
  have HP1 := Lib.hid hp1
  have HY2 := Lib.hid ((HY1.out.below HBL.out).wide HBL.out.size |>.below hb2 |>.wide hb2.size)
  clear hb2 hb3 HB2 hp1 hby2 HBL HY1
  go_wp2_with fail
  go_fit HPC.out
  rintro e w3 ⟨hb3, A3, c3, ss, ms, err, rfl, hm3, hc3, hip⟩
  obtain ⟨rfl, rfl⟩ := HP1.out _ _ hip
  have HB4 := Lib.hid (bel_next8 HB3.out hb3)
  have hY3 := HY2.out.next8 hb3
  have hto : ∀ W : World, (Instr.slice 23 (.slice A1 64 c1) none (some (.int .i64 4)) none).run Tryd.prog W = .ok (.slice A1 4 c1) W := fun W => by
    have h := cut_to A1 64 c1 4 (by omega) W
    rw [run_sliceAt_slice _ _ _ _ _ _ byte_elem] at h
    exact h
  have hto2 : ∀ W : World, (Instr.sliceAt 23 (.slice A1 64 c1) none (some (.int .i64 4)) none).run Tryd.prog W = .ok (.slice A1 4 c1) W := fun W => cut_to A1 64 c1 4 (by omega) W
  have hstr := (hY3.to (k := 4) (by omega)).str c1
  rw [ht0] at hstr
  unfold bs at hstr
  have hls : 0 < ss.length := by rw [hm3.len]; simp
  obtain ⟨b3, o3, rfl, hbb, z0, z1, z2, z3, z4⟩ := hm3.row.mod5 hls
  have hh := hm3.each 0 hls (by simp)
  have hstr2 := hh.row.str (ss[0].c)
  unfold bs at hstr2
  simp only [List.getElem_cons_zero, oneM] at hstr2
  clear hm3 hh hY3 HPC HP1 HY2 hip hb3 HB1 z0 z1 z2 z3
  generalize ss[0] = y at *
  go_wp2
  go_ret
  exact ⟨rfl, HB4.out⟩
end Go.Proofs.YtcenonnccodfoaaDoor


namespace Go.Proofs.YtcenonnccodfoaaDoor

open Go.RowKit

set_option maxRecDepth 50000 in
set_option maxHeartbeats 8000000 in
theorem modules_any (A : Option Addr) (len cap : Nat) (zs : List Int) (w : World) (hr : IRow w w.heap.size A len cap zs) :
    Calls Tryd.prog 22 #[.slice A len cap] w fun e w' => ∃ A', ∃ c : Nat, ∃ ss ms, e = .returned (.slice A' ms.length c) ∧ MRow w' w'.heap.size A' ss ms ∧ AllMade ms ∧ ms.length ≤ 5 ∧ ms.length ≤ c ∧ Below w.heap.size w w' := by
  have hnum : NumAt (w.alloc (.cells #[.slice A len cap, .int .i64 0] 70)) w.heap.size A len cap 0 := heap_alloc_new w _
  have hctx : Ctx w (w.alloc (.cells #[.slice A len cap, .int .i64 0] 70)) w.heap.size A len cap 0 := ⟨hnum, bel_lit8 (Below.refl _ w) _, by simp⟩
  have HR := Lib.hid hr
  have HN0 := Lib.hid (next_u w.heap.size A len cap zs 0 6 _ hctx.num hr hctx.bel (by omega) (by omega) (by omega))
  have HC0 := Lib.hid hctx
  have HNX := Lib.hid fun W q' n wr (h : Ctg w wr W w.heap.size A len cap q') (h1 : q' ≤ 100000) (h2 : 1 ≤ n) (h3 : n ≤ 1073741824) => next_u w.heap.size A len cap zs q' n W h.c.num hr h.c.bel h1 h2 h3
  clear hr hnum hctx
  go_enter Tryd.func22, Tryd.ntmps22
  go_wp2_with fail
  go_fit HN0.out
  rintro e w1 ⟨n, hn6, rfl, h1, h2, h3⟩
  have HC1 := Lib.hid (HC0.out.next h1 h2)
  clear h1 h2 HN0 HC0
  go_wp2
  go_loopw [5, 6] (fun v5 vi wr => ∃ i q : Nat, ∃ ss ms, vi = .int .i64 i ∧ i ≤ n ∧ q ≤ 1 + 200 * i ∧ ms.length ≤ i ∧ Hid (MakI w wr w.heap.size A len cap q v5 ss ms)) (fun _ vi _ => n - (intOf vi).toNat)
  case atStart => exact ⟨0, 1, [], [], rfl, Nat.zero_le _, by omega, Nat.le_refl _, Lib.hid ⟨HC1.out, OwnG.nil _ _, rfl, fun i h => by simp at h, allMade_nil⟩⟩
  case round =>
    obtain ⟨i, q, ss, ms, rfl, hi, hq, hml, HI⟩ := hrel
    obtain ⟨Ao, co, rfl, hro⟩ := HI.out.row
    rcases Nat.lt_or_ge i n with hlt | hge
    · have hct := HI.out.ctx
      generalize hN : w.heap.size = N at *
      go_upto_region 7 with fail
      go_cut [7] (fun v7 wx => ∃ (p : Nat) (s : SMod), v7 = .pointer (some ⟨p, 0, none⟩) ∧ Hid (Fresh w wr wx N p A len cap q s))
      case rest =>
        obtain ⟨p, s, rfl, HF⟩ := hcut
        obtain ⟨x0, x1, x2, x3, x4⟩ := HF.out.at_.cells
        have HI1 := Lib.hid (HI.out.gb HF.out.gb HI.out.ctx.num.noByte HI.out.ne HF.out.ctx)
        have HFI := Lib.hid (rFind_any s.name s.width ms ss Ao co wc (by
          obtain ⟨A1, c1, e1, h1⟩ := HI1.out.row
          cases e1
          exact h1) (by omega))
        go_wp2_with fail
        go_fit HFI.out
        rintro e w2 ⟨⟨fi, ok, rfl, hfr⟩, rfl⟩
        cases ok
        case true =>
          clear x0 x1 x2 x3 x4 hfr HFI
          go_wp2
          go_roundw
          case rel => exact ⟨i + 1, q + 3, ss, ms, by go_num, by omega, by omega, by omega, HI1⟩
          case measure => simp [intOf]; omega
        have HNF : Hid (ms.any (keyIs s.name s.width) = false) := Lib.hid (by
          rcases hfr with ⟨h1, _⟩ | ⟨_, _, h1⟩
          · cases h1
          · exact h1)
        have HN12 := Lib.hid (HNX.out wc (q + 3) 12 wc ⟨HF.out.ctx, ⟨rfl, rfl, rfl, Nat.le_refl _, fun _ _ _ => rfl⟩⟩ (by omega) (by omega) (by omega))
        clear hfr HFI
        go_wp2_with fail
        go_fit HN12.out
        rintro e w3 ⟨r, hr12, rfl, hnu, hg3, hs3⟩
        have hM3 : ModAt w3 p s := (hg3.block p (lt_heap HF.out.at_) (by have := HF.out.p; have := HI.out.ctx.lt; intro e; cases e; omega)).trans HF.out.at_
        have HI3 := Lib.hid (HI1.out.gb hg3 HF.out.ctx.num.noByte HI1.out.ne (HF.out.ctx.next hnu hg3))
        have HM3 := Lib.hid hM3
        have hsz : IntKind.i64.wrap (8 * IntKind.i64.wrap (1 + (r : Int))) = ((8 * (1 + r) : Nat) : Int) := by
          have e1 : IntKind.i64.wrap (1 + (r : Int)) = 1 + (r : Int) := by rw [IntKind.wrap_i64]; omega
          rw [e1, IntKind.wrap_i64]
          omega
        have HC3 := Lib.hid (show Ctg w wr w3 N A len cap (q + 3 + 1) from ⟨HF.out.ctx.next hnu hg3, gbT_trans HF.out.gb hg3⟩)
        have hpp := HF.out.p
        have hNw := HI.out.ctx.lt
        have HKD := Lib.hid HF.out.kind
        have HWD := Lib.hid HF.out.width
        have HRS := Lib.hid HF.out.rest
        have HNA := Lib.hid HF.out.name
        have HSO := Lib.hid (⟨hpp, hNw⟩ : p = wr.heap.size ∧ N < wr.heap.size)
        clear x0 x1 x2 x3 x4 hnu hg3 hs3 hM3 HN12 hct hpp hNw HF
        obtain ⟨x0, x1, x2, x3, x4⟩ := HM3.out.cells
        go_upto_if 51 with fail
        go_cut [10] (fun v10 wx => ∃ sz qq : Nat, v10 = .int .i64 sz ∧ qq ≤ q + 5 ∧ Hid (SzK s.kind sz) ∧ Hid (Ctg w wr wx N A len cap qq) ∧ Hid (ModAt wx p s))
        case first =>
          rcases Decidable.em (s.kind = 1) with hk | hk
          · have hkb : (s.kind != 1) = false := by simp [hk]
            have HK := Lib.hid hk
            clear hk
            go_wp2_with fail
            go_meet
            exact ⟨8 * (1 + r), q + 3 + 1, by go_num, by omega, Lib.hid (.inl ⟨HK.out, 1 + r, by omega, by omega, rfl⟩), HC3, HM3⟩
          · have hkb : (s.kind != 1) = true := by simp [hk]
            have HK := Lib.hid hk
            clear hk
            have HN130 := Lib.hid (HNX.out w3 (q + 3 + 1) 130 wr HC3.out (by omega) (by omega) (by omega))
            go_wp2_with fail
            go_fit HN130.out
            rintro e w4 ⟨r4, hr4, rfl, hnu4, hg4, hs4⟩
            have HC4 := Lib.hid (HC3.out.next hnu4 hg4)
            have HM4 := Lib.hid (show ModAt w4 p s from (hg4.block p (lt_heap HM3.out) (by have := HSO.out; intro e; cases e; omega)).trans HM3.out)
            clear x0 x1 x2 x3 x4 hnu4 hg4 hs4 HN130
            go_wp2_with fail
            go_meet
            exact ⟨r4, q + 3 + 1 + 1, rfl, by omega, Lib.hid (.inr ⟨HK.out, hr4⟩), HC4, HM4⟩
        case rest =>
          obtain ⟨sz, qq, rfl, hqq, HSZ, HCG, HMA⟩ := hcut
          clear x0 x1 x2 x3 x4 HC3 HM3
          obtain ⟨x0, x1, x2, x3, x4⟩ := HMA.out.cells
          go_upto_if 56 with fail
          go_cut [7] (fun v7 wx => ∃ s2 : SMod, v7 = .pointer (some ⟨p, 0, none⟩) ∧ Hid (WidK s2.kind s2.width) ∧ Hid (s2.kind = s.kind ∧ s2.name = s.name ∧ s2.entry = 0 ∧ s2.A = none ∧ s2.n = 0 ∧ s2.c = 0) ∧ Hid (ms.any (keyIs s2.name s2.width) = false) ∧ Hid (Ctg w wr wx N A len cap qq) ∧ Hid (ModAt wx p s2))
          case first =>
            rcases Decidable.em (s.kind = 3) with hk | hk
            · have hkb : (s.kind == 3) = true := by simp [hk]
              have HK := Lib.hid hk
              clear hk
              have f2 : wc.frozen? ⟨p, 2, none⟩ = false := Lib.frozen_of_heap HMA.out 2
              have HC5 := Lib.hid (HCG.out.set (p := p) (by have := HSO.out; omega) HSO.out.2 2 (.int .i64 0))
              have HM5 := Lib.hid (modAt_set2 HMA.out 0)
              go_upto_region 15 with fail
              generalize wc.setCell ⟨p, 2, none⟩ (.int .i64 0) = w5 at *
              clear x0 x1 x2 x3 x4 f2
              obtain ⟨x0, x1, x2, x3, x4⟩ := HM5.out.cells
              have HI5 := Lib.hid (HI.out.gb HC5.out.g HI.out.ctx.num.noByte HI.out.ne HC5.out.c)
              have HFJ := Lib.hid (rFind_any s.name 0 ms ss Ao co w5 (by
                obtain ⟨A1, c1, e1, h1⟩ := HI5.out.row
                cases e1
                exact h1) (by omega))
              go_wp2_with fail
              go_fit HFJ.out
              rintro e w6 ⟨⟨fj, ok2, rfl, hfr2⟩, rfl⟩
              cases ok2
              case true =>
                clear x0 x1 x2 x3 x4 hfr2 HFJ
                go_wp2
                go_roundw
                case rel => exact ⟨i + 1, qq, ss, ms, by go_num, by omega, by omega, by omega, HI5⟩
                case measure => simp [intOf]; omega
              have HNG : Hid (ms.any (keyIs s.name 0) = false) := Lib.hid (by
                rcases hfr2 with ⟨h1, _⟩ | ⟨_, _, h1⟩
                · cases h1
                · exact h1)
              clear x0 x1 x2 x3 x4 hfr2 HFJ
              go_wp2
              go_meet
              exact ⟨{ s with width := 0 }, rfl, Lib.hid (.inr ⟨HK.out, rfl⟩), Lib.hid ⟨rfl, rfl, HRS.out⟩, HNG, HC5, HM5⟩
            · have hkb : (s.kind == 3) = false := by simp [hk]
              have HK := Lib.hid hk
              clear hk
              go_wp2_with fail
              go_meet
              exact ⟨s, rfl, Lib.hid (.inl ⟨by have := HKD.out; have := HK.out; omega, HWD.out⟩), Lib.hid ⟨rfl, rfl, HRS.out⟩, HNF, HCG, HMA⟩
          case rest =>
            obtain ⟨s2, rfl, HW2, HS2, HF2, HC2, HM2⟩ := hcut
            clear x0 x1 x2 x3 x4 HCG HMA
            have HIN0 : Hid (Inn w wr wc N p A len cap qq s2 []) := Lib.hid (by
              obtain ⟨e1, e2, e3, e4, e5, e6⟩ := HS2.out
              refine ⟨HC2.out, HM2.out, ?_, by rw [e5]; rfl, HSO.out.1, HSO.out.2⟩
              rw [e4, e5, e6]
              exact Own.nil _ _)
            obtain ⟨wO, rfl⟩ : ∃ x, x = wr := ⟨_, rfl⟩
            have hsz130 := HSZ.out.lt
            go_wp2
            go_loopw [13] (fun v13 wx => ∃ k qk : Nat, ∃ s3 l, v13 = .int .i64 k ∧ k ≤ sz ∧ qk ≤ qq + k ∧ Hid (s3.kind = s2.kind ∧ s3.name = s2.name ∧ s3.width = s2.width ∧ s3.entry = 0 ∧ l.length = k) ∧ Hid (Inn w wO wx N p A len cap qk s3 l)) (fun v13 _ => sz - (intOf v13).toNat)
            case atStart => exact ⟨0, qq, s2, [], rfl, Nat.zero_le _, by omega, Lib.hid ⟨rfl, rfl, rfl, HS2.out.2.2.1, rfl⟩, HIN0⟩
            case round =>
              obtain ⟨k, qk, s3, l, rfl, hk, hqk, HS3, HII⟩ := hrel
              rcases Nat.lt_or_ge k sz with hks | hks
              · obtain ⟨z0, z1, z2, z3, z4⟩ := HII.out.at_.cells
                have f4 : wr.frozen? ⟨p, 4, none⟩ = false := Lib.frozen_of_heap HII.out.at_ 4
                have hlk : l.length = k := HS3.out.2.2.2.2
                have HLK := Lib.hid hlk
                clear hlk
                go_upto_region 20 with fail
                go_region_law
                  (first
                    | (refine step_app8 HAP.out rfl rfl rfl rfl rfl ?_; rintro v7 w7 ⟨B7, c7, rfl, hm7, l7, hl7, hi7⟩; have hz4 := hm7.cells.2.2.2.2; have hf7 : w7.frozen? ⟨p, 4, none⟩ = false := Lib.frozen_of_heap hm7 4; have HI7 := Lib.hid hi7; have HL7 := Lib.hid hl7; clear hi7 hl7 hm7)
                    | (go_simp; go_at_call 39; go_fit (HNX.out _ qk 256 wO HII.out.drew.c (by omega) (by omega) (by omega)); rintro e wn ⟨rr, hrr, rfl, hnu, hgn, hsn⟩; have HIN := Lib.hid (HII.out.drew.next hnu hgn); have hy4 := HIN.out.at_.cells.2.2.2.2; have ha4 := (show ModAt (wn.alloc (.cells #[.int .u8 (IntKind.u8.wrap (rr : Int))] 5)) p s3 from (Below.heap_alloc _ _ _ (lt_heap HIN.out.at_)).trans HIN.out.at_).cells.2.2.2.2; have hfn4 : wn.frozen? ⟨p, 4, none⟩ = false := Lib.frozen_of_heap HIN.out.at_ 4; have HAP := Lib.hid (inn_app HIN.out rr _ rfl (by have := HLK.out; have := HSZ.out.lt; omega)); clear hnu hgn hsn))
                all_goals
                  go_wp2
                  go_roundw
                  case rel => exact ⟨k + 1, qk + 1, { s3 with A := B7, n := l.length + 1, c := c7 }, l7, by go_num, by omega, by omega, Lib.hid ⟨HS3.out.1, HS3.out.2.1, HS3.out.2.2.1, HS3.out.2.2.2.1, by rw [HL7.out, HLK.out]⟩, HI7⟩
                  case measure => simp [intOf]; omega
              · have hkz : k = sz := by omega
                have hlz : l.length = sz := HS3.out.2.2.2.2.trans hkz
                have HLZ := Lib.hid hlz
                clear hkz hlz
                obtain ⟨z0, z1, z2, z3, z4⟩ := HII.out.at_.cells
                go_upto_if 81 with fail
                go_cut [] (fun wx => ∃ s4 : SMod, ∃ q4 : Nat, q4 ≤ qk + 1 ∧ Hid (MadeM ⟨s4.name, s4.kind, s4.width, s4.entry, l⟩) ∧ Hid (s4.name = s2.name ∧ s4.width = s2.width) ∧ Hid (Inn w wO wx N p A len cap q4 s4 l))
                case first =>
                  rcases Decidable.em (s3.kind = 1) with hk3 | hk3
                  · have hkb : (s3.kind == 1) = true := by simp [hk3]
                    have HK := Lib.hid hk3
                    clear hk3
                    obtain ⟨kk, hkk1, hkk2, hkk3⟩ := HSZ.out.prog (by have h1 := HS3.out.1; have h2 := HS2.out.1; rw [← h2, ← h1]; exact HK.out)
                    have HQ : Hid (((sz : Nat) : Int) / 8 = (kk : Int)) := Lib.hid (by omega)
                    have HNK := Lib.hid (HNX.out wr qk kk wO HII.out.c (by omega) (by omega) (by omega))
                    have HZ3 := Lib.hid hkk3
                    clear hkk3
                    go_wp2_with fail
                    rw [HQ.out]
                    go_fit HNK.out
                    rintro e w8 ⟨r8, hr8, rfl, hnu8, hg8, hs8⟩
                    have HI8 := Lib.hid (HII.out.next hnu8 hg8)
                    have HE8 := Lib.hid (HI8.out.set3 (r8 : Int))
                    have f3 : w8.frozen? ⟨p, 3, none⟩ = false := Lib.frozen_of_heap HI8.out.at_ 3
                    clear z0 z1 z2 z3 z4 hnu8 hg8 hs8 HNK
                    obtain ⟨z0, z1, z2, z3, z4⟩ := HI8.out.at_.cells
                    go_wp2_with fail
                    go_meet
                    exact ⟨{ s3 with entry := (r8 : Int) }, qk + 1, by omega, Lib.hid (made_prog HNA.out HW2.out HS2.out.2.1 HS3.out.1 HS3.out.2.1 HS3.out.2.2.1 HLZ.out HK.out hkk1 hkk2 HZ3.out hr8), Lib.hid ⟨HS3.out.2.1, HS3.out.2.2.1⟩, HE8⟩
                  · have hkb : (s3.kind == 1) = false := by simp [hk3]
                    have HK := Lib.hid hk3
                    clear hk3
                    go_wp2_with fail
                    go_meet
                    refine ⟨s3, qk, by omega, Lib.hid (made_other HNA.out HW2.out HSZ.out HS2.out.2.1 HS3.out.1 HS3.out.2.1 HS3.out.2.2.1 HS3.out.2.2.2.1 HLZ.out HK.out), Lib.hid ⟨HS3.out.2.1, HS3.out.2.2.1⟩, HII⟩
                case rest =>
                  obtain ⟨s4, q4, hq4, HMD, HS4, HI4⟩ := hcut
                  clear z0 z1 z2 z3 z4
                  obtain ⟨z0, z1, z2, z3, z4⟩ := HI4.out.at_.cells
                  have hl1000 : l.length ≤ 1000 := by have := HLZ.out; omega
                  have hml5 : ms.length ≤ 5 := by omega
                  obtain ⟨v9, w9, hrun9, hmk9⟩ := mak_app (HI.out.gb HI4.out.c.g HI.out.ctx.num.noByte HI.out.ne HI4.out.c.c) (HI4.out.mown hl1000) HMD.out (by
                    have h1 := HF2.out
                    rw [← HS4.out.1, ← HS4.out.2] at h1
                    exact h1) hml5
                  have HR9 := Lib.hid hrun9
                  have HM9 := Lib.hid hmk9
                  obtain ⟨A9, c9, e9, _⟩ := hmk9.row
                  have e9' : v9 = .slice A9 (ms.length + 1) c9 := by rw [e9]; simp
                  subst e9'
                  clear hrun9 hmk9 hl1000 e9
                  go_wp2_with (at_builtin; refine wpList_gapp HR9.out rfl rfl rfl rfl rfl ?_)
                  go_roundw
                  case rel => exact ⟨i + 1, q4, ss ++ [s4], ms ++ [⟨s4.name, s4.kind, s4.width, s4.entry, l⟩], by go_num, by omega, by omega, by simp; omega, HM9⟩
                  case measure => simp [intOf]; omega
      case first =>
        have hct0 : Ctg w wr wr.drew N A len cap q := ⟨hct.drew, ⟨rfl, rfl, rfl, Nat.le_refl _, fun _ _ _ => rfl⟩⟩
        have hsd : wr.drew.heap.size = wr.heap.size := rfl
        have hNl := hct.lt
        clear hct
        go_region_held3 (fun _ => True)
          (trivial)
          (first
            | (go_at_call 39; (first | go_fit (HNX.out _ _ 3 wr (by first | assumption | exact Ctg.alloc (by assumption) _) (by omega) (by omega) (by omega)) | go_fit (HNX.out _ _ 2 wr (by first | assumption | exact Ctg.alloc (by assumption) _) (by omega) (by omega) (by omega))); rintro e wn ⟨rr, hrr, rfl, hnu, hgn, hsn⟩; (first | (have hsl := abc_slice rr hrr) | skip); have hcn := Ctg.next (by first | assumption | exact Ctg.alloc (by assumption) _) hnu hgn; (first | (have hz : ZeroAt wn wr.heap.size := ZeroAt.gb (by first | assumption | exact zero_new (by omega)) hgn hNl; obtain ⟨⟨z0, z1, z2, z3, z4⟩, f0, f1, f2, f3, f4⟩ := hz.facts) | skip)))
        all_goals
          go_wp2
          go_meet
          first
            | exact ⟨_, _, rfl, Lib.hid (fresh_set (by assumption) (by assumption) hNl (by assumption) (by assumption) (by assumption))⟩
            | exact ⟨_, _, rfl, Lib.hid (fresh_alloc (by assumption) (by omega) (by assumption) (by assumption) (by assumption))⟩
    · have hcap : ms.length ≤ co := by
        obtain ⟨A', c', e, h1, _, _⟩ := HI.out.own.row SMod.len
        have h2 := HI.out.len
        injection e with e1 e2 e3
        omega
      have HEND : Hid (∃ A', ∃ c : Nat, ∃ ss' ms', Ending.returned (Value.slice Ao ms.length co) = .returned (.slice A' ms'.length c) ∧ MRow wr wr.heap.size A' ss' ms' ∧ AllMade ms' ∧ ms'.length ≤ 5 ∧ ms'.length ≤ c ∧ Below w.heap.size w wr) := Lib.hid ⟨Ao, co, ss, ms, rfl, hro, HI.out.made, by omega, hcap, HI.out.ctx.bel⟩
      clear hro hcap
      go_wp2
      go_ret
      exact HEND.out
end Go.Proofs.YtcenonnccodfoaaDoor
