/-
  The assembler's method instruction.
  Conditions: the tokens end with one of kind 0; the lists are short; the table of formats lies as the program's start lays it.
  The assembler's method statements.
  Conditions: the tokens end with one of kind 0; the lists are short; the table of formats lies as the program's start lays it.
  What the assembler's lists hold when the text is read: the operands' indices, the labels' indices.
  Conditions: none.
-/
import Derived.Test.YtahhmgoffdggpaaGreatDoorMb11
import Derived.Test.YtahhmgoffdggpaaGreatDoorMb7
import Derived.Deep.LoopGhost
namespace Go.Proofs.YtahhmgoffdggpaaGreatDoor

open Go.RowKit

theorem fmtN_regs (k : Nat) : (fmtN k).2.1 ≤ 3 := by
  rcases Nat.lt_or_ge k 28 with h | h
  · have : ∀ k : Fin 28, (fmtN k).2.1 ≤ 3 := by decide +kernel
    exact this ⟨k, h⟩
  · unfold fmtN
    rw [List.getD_eq_getElem?_getD, List.getElem?_eq_none (by show 28 ≤ k; exact h)]; decide
theorem opNo_lt {s : List UInt8} {n : Nat} (h : opNo s = some n) : n < 28 := by
  have := firstN_lt h; omega
theorem Fmts.bel {base : Nat} {w w' : World} (h : Fmts w) (hg : 0 < base) (hb : Below base w w') : Fmts w' := fun k hk => by
  obtain ⟨h1, h2, h3⟩ := h k hk
  exact ⟨(hb.cell (p := ⟨0, k * 3, none⟩) hg).trans h1, (hb.cell (p := ⟨0, k * 3 + 1, none⟩) hg).trans h2, (hb.cell (p := ⟨0, k * 3 + 2, none⟩) hg).trans h3⟩
set_option maxRecDepth 50000 in
set_option maxHeartbeats 2000000 in
theorem instruction_any (base p : Nat) (O : Nat → Prop) (s : ASt) (w : World) (h : St base p O w s) (hm : mu s ≤ 300000) (hgb : 0 < base) (hG : Fmts w) :
    Calls Tryz.prog 79 #[.pointer (some ⟨p, 0, none⟩)] w (MEnd base p O w s (fun _ => .tuple #[]) (aInstr s)) := by
  have HTK := Lib.hid (atake_any base p O s 1 w h (by decide))
  have HTM := Lib.hid fun t s1 (e : aTake 1 s = .ok t s1) => take_mu e h.ne
  have HD : Hid (aInstr s = (aTake 1 s).bind fun t s1 => match opNo t.text with
    | none => thrAt t 50
    | some op => if s1.prog.length = 4096 then thrAt t 15 else
      (aOps (fmtN op).2 s1).bind fun x s2 => (aMark [59] s2).bind fun _ s3 => .ok () { s3 with prog := s3.prog ++ [{ x with op := op }] }) := Lib.hid rfl
  have HBB := Lib.hid h.lo
  have HMM := Lib.hid hm
  have HG := Lib.hid hG
  generalize aInstr s = q at *
  generalize aTake 1 s = r at *
  clear h hm hG
  rcases r with ⟨t, s1⟩ | ⟨l, c, x⟩
  · have HTH := Lib.hid fun W n => throw_any t n W
    have HOP := Lib.hid fun W hW => opcode_any t.text W hW
    have HM1 := Lib.hid (HTM.out t s1 rfl).1
    have HD2 : Hid (q = match opNo t.text with
      | none => thrAt t 50
      | some op => if s1.prog.length = 4096 then thrAt t 15 else
        (aOps (fmtN op).2 s1).bind fun x s2 => (aMark [59] s2).bind fun _ s3 => .ok () { s3 with prog := s3.prog ++ [{ x with op := op }] }) := Lib.hid HD.out
    have HOL : Hid (∀ n, opNo t.text = some n → n < 28) := Lib.hid fun n hn => opNo_lt hn
    clear HD HTM
    generalize opNo t.text = on at *
    obtain ⟨tk, tt, tv, tl, tc⟩ := t
    simp only [GTok.tval] at HTH
    simp only at HOP HD2
    cases on with
    | none =>
      have HQ : Hid (q = thrAt ⟨tk, tt, tv, tl, tc⟩ 50) := Lib.hid HD2.out
      simp only [Option.getD_none, Option.isSome_none] at HOP
      clear HD2
      go_enter Tryz.func79, Tryz.ntmps79
      go_wp2_with fail
      go_fit HTK.out
      rintro e w1 ⟨he, hmu, O1, hst1, hf1⟩
      simp only [GTok.tval] at he
      subst he
      have HF := Lib.hid (hf1.bel HBB.out.1 HBB.out.2.2)
      have HL1 := Lib.hid hst1.lo
      have HGW : Hid (GlobF w1) := Lib.hid ⟨by have := HL1.out.2.2; omega, HG.out.bel hgb HF.out⟩
      clear hmu hst1 hf1 HTK
      go_wp2_with fail
      go_fit (HOP.out _ (HGW.out.next ((Below.refl _ _).alloc (Nat.le_refl _) _)))
      rintro e w2 ⟨rfl, hb2⟩
      have hcell := new_cells hb2
      have y0 := hcell 0
      have y1 := hcell 1
      have y2 := hcell 2
      have y3 := hcell 3
      have y4 := hcell 4
      simp only [List.getElem?_toArray, List.getElem?_cons_zero, List.getElem?_cons_succ] at y0 y1 y2 y3 y4
      have HB2 := Lib.hid (bel_alloc (Below.refl _ w1) hb2)
      clear hb2 hcell
      go_wp2_with fail
      go_fit (HTH.out _ 50)
      rintro e w3 ⟨rfl, hb3⟩
      have HB3 := Lib.hid (HF.out.trans ((bel_next HB2.out hb3).mono HL1.out.2.2))
      clear hb3
      go_wp2
      refine ⟨rfl, ?_⟩
      rw [HQ.out]
      exact ⟨rfl, HB3.out⟩
    | some op =>
      have hop := HOL.out op rfl
      have HD3 : Hid (q = if s1.prog.length = 4096 then thrAt ⟨tk, tt, tv, tl, tc⟩ 15 else
        (aOps (fmtN op).2 s1).bind fun x s2 => (aMark [59] s2).bind fun _ s3 => .ok () { s3 with prog := s3.prog ++ [{ x with op := op }] }) := Lib.hid HD2.out
      simp only [Option.getD_some, Option.isSome_some] at HOP
      clear HD2
      go_enter Tryz.func79, Tryz.ntmps79
      go_wp2_with fail
      go_fit HTK.out
      rintro e w1 ⟨he, hmu, O1, hst1, hf1⟩
      simp only [GTok.tval] at he
      subst he
      have HST1 := Lib.hid hst1
      have HF1 := Lib.hid hf1
      have HGW : Hid (GlobF w1) := Lib.hid ⟨by have := hst1.lo.2.2; omega, HG.out.bel hgb (hf1.bel HBB.out.1 HBB.out.2.2)⟩
      clear hmu hst1 hf1 HTK
      go_wp2_with fail
      go_fit (HOP.out _ (HGW.out.next ((Below.refl _ _).alloc (Nat.le_refl _) _)))
      rintro e w2 ⟨rfl, hb2⟩
      have HB2 := Lib.hid (bel_alloc (Below.refl _ w1) hb2)
      have hst2 := HST1.out.next HB2.out
      have HF2 := Lib.hid (HF1.out.next HB2.out)
      have hG2 := HGW.out.next HB2.out
      have HST2 := Lib.hid hst2
      obtain ⟨A, c, pv, m, ov, hX2⟩ := hst2
      obtain ⟨p0, p1, p2, p3, z0, z1, z2, z3⟩ := hX2.cells
      obtain ⟨⟨AP, cP, hpv⟩, _⟩ := hX2.small
      subst hpv
      have hpw := hX2.lt
      by_cases h4 : s1.prog.length = 4096
      · have HQ : Hid (q = thrAt ⟨tk, tt, tv, tl, tc⟩ 15) := Lib.hid (by rw [HD3.out, if_pos h4])
        have hcell := new_cells hb2
        have y0 := hcell 0
        have y1 := hcell 1
        have y2 := hcell 2
        have y3 := hcell 3
        have y4 := hcell 4
        simp only [List.getElem?_toArray, List.getElem?_cons_zero, List.getElem?_cons_succ] at y0 y1 y2 y3 y4
        have f4 : ((s1.prog.length : Int) == 4096) = true := by simp [h4]
        have HL2 := Lib.hid HST2.out.lo
        clear hb2 hcell hX2 hG2
        generalize s1.prog.length = n1 at *
        clear h4
        go_wp2_with fail
        go_fit (HTH.out _ 15)
        rintro e w3 ⟨rfl, hb3⟩
        have HB3 := Lib.hid ((HF2.out.bel HBB.out.1 HBB.out.2.2).trans (hb3.mono HL2.out.2.2))
        clear hb3
        go_wp2
        refine ⟨rfl, ?_⟩
        rw [HQ.out]
        exact ⟨rfl, HB3.out⟩
      · rw [if_neg h4] at HD3
        have f4 : ((s1.prog.length : Int) == 4096) = false := by simp; omega
        have h4i : ¬ (s1.prog.length : Int) = 4096 := by omega
        obtain ⟨q0, q1, q2⟩ := hG2.2 op hop
        have HOR := Lib.hid (fmtN_regs op)
        obtain ⟨fs, fr, fi, hf⟩ : ∃ a b c, fmtN op = (a, b, c) := ⟨_, _, _, rfl⟩
        rw [hf] at HD3 q0 q1 q2 HOR
        simp only at HD3 q0 q1 q2 HOR
        have HOPS := Lib.hid (operands_any base p O1 s1 fs fr fi HOR.out w2 HST2.out (by have := HM1.out; have := HMM.out; omega))
        have hgz := hG2.1
        have hopi : (op : Int) < 28 := by omega
        clear hb2 hX2 hG2 hf h4
        generalize aOps (fr, fi) s1 = ro at *
        rcases ro with ⟨x, s2⟩ | ⟨l, c, y⟩
        · have HD4 : Hid (q = (aMark [59] s2).bind fun _ s3 => .ok () { s3 with prog := s3.prog ++ [{ x with op := (op : Int) }] }) := Lib.hid HD3.out
          have HMK := Lib.hid fun O2 W (hW : St base p O2 W s2) => amark_any base p O2 s2 [59] W hW
          clear HD3
          generalize aMark [59] s2 = rm at *
          obtain ⟨xo, xa, xb, xc, xi⟩ := x
          rcases rm with ⟨u, s3⟩ | ⟨l, c, y⟩
          · have HQ : Hid (q = .ok () { s3 with prog := s3.prog ++ [⟨op, xa, xb, xc, xi⟩] }) := Lib.hid HD4.out
            go_wp2_with fail
            go_fit HOPS.out
            rintro e w3 ⟨he, hmu3, O3, hst3, hf3⟩
            simp only [GIns.val] at he
            subst he
            have HST3 := Lib.hid hst3
            have HF3 := Lib.hid (HF2.out.trans hf3)
            have HM3 := Lib.hid hmu3
            clear hst3 hf3 hmu3 HOPS
            have HL4 := Lib.hid (Loc.new (O := O3) (w := w3) #[.int .i64 op, .int .i64 xa, .int .i64 xb, .int .i64 xc, .int .i32 xi] 40 HST3.out.lo.2.1)
            have HMK4 := Lib.hid (HMK.out O3 _ (HST3.out.lit (.cells #[.int .i64 op, .int .i64 xa, .int .i64 xb, .int .i64 xc, .int .i32 xi] 40)))
            clear HMK
            go_wp2_with fail
            go_fit HMK4.out
            rintro e w5 ⟨rfl, hmu5, O5, hst5, hf5⟩
            have HF5 := Lib.hid ((HF3.out.lit _).trans hf5)
            have HM5 := Lib.hid hmu5
            have HL5 := Lib.hid (HL4.out.fr hf5)
            have HST5 := Lib.hid hst5
            clear p0 p1 p2 p3 z0 z1 z2 z3 hpw q0 q1 q2
            obtain ⟨A5, c5, pv5, m5, ov5, hX5⟩ := hst5
            have HX5 := Lib.hid hX5
            obtain ⟨p0, p1, p2, p3, z0, z1, z2, z3⟩ := hX5.cells
            obtain ⟨⟨AP5, cP5, hpv5⟩, _⟩ := hX5.small
            subst hpv5
            obtain ⟨hbp, hpw⟩ := hX5.lt
            have HSM : Hid (s3.prog.length ≤ 300000) := Lib.hid (by have h1 := HM5.out; have h2 := HM3.out; have h3 := HM1.out; have h4 := HMM.out; unfold mu at h1 h2 h3 h4; omega)
            have HMU : Hid (mu { s3 with prog := s3.prog ++ [(⟨op, xa, xb, xc, xi⟩ : GIns)] } ≤ mu s) := Lib.hid (by
              have h1 := HM5.out
              have h2 := HM3.out
              have h3 := HM1.out
              have h4 : mu { s3 with prog := s3.prog ++ [(⟨op, xa, xb, xc, xi⟩ : GIns)] } = mu s3 + 1 := by unfold mu; simp only [List.length_append, List.length_singleton]; omega
              omega)
            have hlc := HL5.out.cell
            have d0 := hlc 0
            have d1 := hlc 1
            have d2 := hlc 2
            have d3 := hlc 3
            have d4 := hlc 4
            simp only [List.getElem?_toArray, List.getElem?_cons_zero, List.getElem?_cons_succ] at d0 d1 d2 d3 d4
            have hN5 : w3.heap.size < w5.heap.size := HL5.out.lt
            clear hf5 hmu5 hX5 hlc
            have hown := (HX5.out.prog.next ((Below.refl _ _).drew)).alloc (.cells #[.int .i64 op, .int .i64 xa, .int .i64 xb, .int .i64 xc, .int .i32 xi] 40)
            have hlit := GRow.lit GIns.len w5.drew 40 [⟨op, xa, xb, xc, xi⟩] #[.int .i64 op, .int .i64 xa, .int .i64 xb, .int .i64 xc, .int .i32 xi] rfl (by unfold maxLen; simp)
            obtain ⟨v', w6, hrun, hown6, hgr6, hob⟩ := OwnG.app elt_ins GIns.len GIns.one hown 1 hlit (by have := HX5.out.bw; simp; omega) (by have := HSM.out; unfold maxLen; simp; omega) (by have := HSM.out; simp; omega)
            obtain ⟨A6, c6, hv6, _, _, _⟩ := hown6.row GIns.len
            have hkk : ∀ g, g < w5.heap.size → Value.ownBlock (.slice AP5 s3.prog.length cP5) ≠ some g → w6.heap[g]? = w5.heap[g]? := fun g hg hn => by
              rw [hgr6.block g (by simp; omega) (fun e => hn e.symm)]
              exact Below.heap_alloc _ _ _ hg
            have hoo : ∀ g, v'.ownBlock = some g → Value.ownBlock (.slice AP5 s3.prog.length cP5) = some g ∨ w5.heap.size ≤ g := fun g hg => by
              rcases hob with e | e
              · exact .inl (e.symm.trans hg)
              · right; rw [hg] at e; injection e with e; simp at e; omega
            have hsz : w5.heap.size ≤ w6.heap.size := by have := hgr6.size; simp at this; omega
            have hset := HX5.out.setProg hsz hkk hown6 hoo
            have hfr : Fr w5 O5 (w6.setCell ⟨p, 1, none⟩ v') (fun g => O5 g ∨ v'.ownBlock = some g) :=
              ⟨hgr6.os, hgr6.tape, hgr6.output, by simpa using hsz, fun g hg hO => (Below.heap_setCell _ _ _ g (fun e => by subst e; exact hO HX5.out.op)).trans (hkk g hg (fun e => hO (HX5.out.opv g e))), fun g hg => by
                rcases hg with h1 | h1
                · exact .inl h1
                · rcases hoo g h1 with h2 | h2
                  · exact .inl (HX5.out.opv g h2)
                  · exact .inr h2⟩
            have HEND : Hid (MEnd base p O w s (fun _ => .tuple #[]) q (.returned (.tuple #[])) (w6.setCell ⟨p, 1, none⟩ v')) := Lib.hid (by
              rw [HQ.out]
              exact ⟨rfl, HMU.out, _, hset, HF5.out.trans hfr⟩)
            have hk6 : w6.heap[p]? = w5.heap[p]? := hkk p hpw (fun e => HX5.out.hpv.1 e)
            have y1 : w6.cell? ⟨p, 1, none⟩ = some (.slice AP5 s3.prog.length cP5) := (World.cell?_of_block (a := ⟨p, 1, none⟩) hk6).trans p1
            have u1 : w6.frozen? ⟨p, 1, none⟩ = false := Lib.frozen_of_heap (hk6.trans HX5.out.hh) 1
            have HRUN := Lib.hid hrun
            subst hv6
            have eN : w5.drew.heap.size = w5.heap.size := rfl
            rw [eN] at HRUN
            clear hset hfr hkk hoo hown hlit hrun hown6 hgr6 hob hk6 eN
            have hll : (s3.prog ++ [(⟨op, xa, xb, xc, xi⟩ : GIns)]).length = s3.prog.length + 1 := by simp
            generalize (s3.prog ++ [(⟨op, xa, xb, xc, xi⟩ : GIns)]).length = l6 at *
            simp only [List.length_singleton] at HRUN
            subst hll
            go_upto_region 9 with fail
            go_region_law (refine step_gapp9 HRUN.out rfl rfl rfl rfl rfl ?_)
            all_goals
              go_end0
              exact HEND.out
          · have HQ : Hid (q = .thr l c y) := Lib.hid HD4.out
            go_wp2_with fail
            go_fit HOPS.out
            rintro e w3 ⟨he, hmu3, O3, hst3, hf3⟩
            simp only [GIns.val] at he
            subst he
            have HST3 := Lib.hid hst3
            have HF3 := Lib.hid (HF2.out.trans hf3)
            clear hst3 hf3 hmu3 HOPS
            have HMK4 := Lib.hid (HMK.out O3 _ (HST3.out.lit (.cells #[.int .i64 op, .int .i64 xa, .int .i64 xb, .int .i64 xc, .int .i32 xi] 40)))
            clear HMK
            go_wp2_with fail
            go_fit HMK4.out
            rintro e w5 ⟨rfl, hb5⟩
            have HB5 := Lib.hid (((HF3.out.lit _).bel HBB.out.1 HBB.out.2.2).trans hb5)
            clear hb5
            go_wp2
            refine ⟨rfl, ?_⟩
            rw [HQ.out]
            exact ⟨rfl, HB5.out⟩
        · have HQ : Hid (q = .thr l c y) := Lib.hid HD3.out
          go_wp2_with fail
          go_fit HOPS.out
          rintro e w3 ⟨rfl, hb3⟩
          have HB3 := Lib.hid ((HF2.out.bel HBB.out.1 HBB.out.2.2).trans hb3)
          clear hb3
          go_wp2
          refine ⟨rfl, ?_⟩
          rw [HQ.out]
          exact ⟨rfl, HB3.out⟩
  · have HQ : Hid (q = .thr l c x) := Lib.hid HD.out
    go_enter Tryz.func79, Tryz.ntmps79
    go_wp2_with fail
    go_fit HTK.out
    rintro e w1 ⟨rfl, hb1⟩
    have HB1 := Lib.hid hb1
    clear hb1
    go_wp2
    refine ⟨rfl, ?_⟩
    rw [HQ.out]
    exact ⟨rfl, HB1.out⟩
end Go.Proofs.YtahhmgoffdggpaaGreatDoor


namespace Go.Proofs.YtahhmgoffdggpaaGreatDoor

open Go.RowKit

/-- What is left of the tokens has at most n. -/
def Sh {α : Type} (n : Nat) (r : ARes α) : Prop := ∀ v s, r = .ok v s → s.ts.length ≤ n
theorem Sh.bind {α β : Type} {n : Nat} {r : ARes α} {f : α → ASt → ARes β} (h : Sh n r) (hf : ∀ v s, s.ts.length ≤ n → Sh n (f v s)) : Sh n (r.bind f) := by
  cases r with
  | ok v s => exact hf v s (h v s rfl)
  | thr l c e => intro v s e; cases e
theorem Sh.ok {α : Type} {n : Nat} {v : α} {s : ASt} (h : s.ts.length ≤ n) : Sh n (.ok v s) := by intro v' s' e; cases e; exact h
theorem Sh.thr {α : Type} {n : Nat} {l c e : Int} : Sh n (ARes.thr (α := α) l c e) := by intro v s e; cases e
theorem Sh.mono {α : Type} {n m : Nat} {r : ARes α} (h : Sh n r) (hm : n ≤ m) : Sh m r := fun v s e => Nat.le_trans (h v s e) hm
theorem sh_take (k : Int) (s : ASt) : Sh (s.ts.length - 1) (aTake k s) := by
  unfold aTake
  by_cases hk : s.hd.kind = k
  · rw [if_pos hk]; exact Sh.ok (by unfold ASt.next; simp)
  · rw [if_neg hk]; exact Sh.thr
theorem sh_mark (m : List UInt8) (s : ASt) : Sh s.ts.length (aMark m s) := by
  unfold aMark
  by_cases hk : isMk s.hd m = true
  · rw [if_pos hk]; exact Sh.ok (by unfold ASt.next; simp)
  · rw [if_neg hk]; exact Sh.thr
theorem sh_number (g : Int) (s : ASt) {n : Nat} (h : s.ts.length ≤ n) : Sh n (aNumber g s) := by
  refine Sh.bind ((sh_take 2 s).mono (by omega)) fun t s1 h1 => ?_
  by_cases hg : g < t.value
  · rw [if_pos hg]; exact Sh.thr
  · rw [if_neg hg]; exact Sh.ok h1
theorem sh_use (s : ASt) {n : Nat} (h : s.ts.length ≤ n) : Sh n (aUse s) := by
  refine Sh.bind ((sh_take 1 s).mono (by omega)) fun t s1 h1 => ?_
  by_cases hg : (regNo t.text).isSome = true
  · rw [if_pos hg]; exact Sh.thr
  · rw [if_neg hg]; exact Sh.ok h1
theorem sh_target (s : ASt) {n : Nat} (h : s.ts.length ≤ n) : Sh n (aTarget s) := by
  unfold aTarget
  by_cases hk : s.hd.kind = 1
  · rw [if_pos hk]; exact Sh.bind (sh_use s h) fun _ s1 h1 => Sh.ok h1
  · rw [if_neg hk]; exact sh_number _ _ h
theorem sh_imm (s : ASt) {n : Nat} (h : s.ts.length ≤ n) : Sh n (aImm s) := by
  unfold aImm
  by_cases hk : s.hd.kind = 1
  · rw [if_pos hk]; exact Sh.bind (sh_use s h) fun _ s1 h1 => Sh.ok h1
  · rw [if_neg hk]
    by_cases hm : isMk s.hd [45] = true
    · rw [if_pos hm]; exact Sh.bind (sh_number _ _ (by unfold ASt.next; simp; omega)) fun _ s1 h1 => Sh.ok h1
    · rw [if_neg hm]; exact sh_number _ _ h
theorem sh_reg (s : ASt) {n : Nat} (h : s.ts.length ≤ n) : Sh n (aReg s) := by
  refine Sh.bind ((sh_take 1 s).mono (by omega)) fun t s1 h1 => ?_
  cases regNo t.text with
  | none => exact Sh.thr
  | some r => exact Sh.ok h1
theorem sh_comma (i : Nat) (s : ASt) {n : Nat} (h : s.ts.length ≤ n) : Sh n (aComma i s) := by
  unfold aComma
  by_cases hk : 0 < i
  · rw [if_pos hk]; exact (sh_mark _ s).mono h
  · rw [if_neg hk]; exact Sh.ok h
theorem sh_regs : ∀ (m i : Nat) (s : ASt) {n : Nat}, s.ts.length ≤ n → Sh n (aRegs i m s)
  | 0, _, _, _, h => Sh.ok h
  | m + 1, i, s, _, h => Sh.bind (sh_comma i s h) fun _ s1 h1 => Sh.bind (sh_reg s1 h1) fun _ s2 h2 => Sh.bind (sh_regs m (i + 1) s2 h2) fun _ _ h3 => Sh.ok h3
theorem sh_ops (f : Nat × Nat) (s : ASt) {n : Nat} (h : s.ts.length ≤ n) : Sh n (aOps f s) := by
  refine Sh.bind (sh_regs f.1 0 s h) fun l s1 h1 => Sh.bind ?_ fun v s2 h2 => Sh.ok h2
  unfold aLast
  by_cases h2 : f.2 = 1
  · rw [if_pos h2]; exact Sh.bind (sh_comma _ _ h1) fun _ s2 h2 => sh_imm s2 h2
  · rw [if_neg h2]
    by_cases h3 : f.2 = 2
    · rw [if_pos h3]; exact Sh.bind (sh_comma _ _ h1) fun _ s2 h2 => sh_target s2 h2
    · rw [if_neg h3]; exact Sh.ok h1
theorem sh_instr (s : ASt) : Sh (s.ts.length - 1) (aInstr s) := by
  refine Sh.bind (sh_take 1 s) fun t s1 h1 => ?_
  cases opNo t.text with
  | none => exact Sh.thr
  | some op =>
    show Sh _ (if s1.prog.length = 4096 then _ else _)
    by_cases h4 : s1.prog.length = 4096
    · rw [if_pos h4]; exact Sh.thr
    · rw [if_neg h4]
      exact Sh.bind (sh_ops _ s1 h1) fun x s2 h2 => Sh.bind ((sh_mark _ s2).mono h2) fun _ s3 h3 => Sh.ok h3
theorem sh_label (s : ASt) : Sh (s.ts.length - 1) (aLabel s) := by
  refine Sh.bind (sh_take 1 s) fun t s1 h1 => ?_
  by_cases h2 : (regNo t.text).isSome = true
  · rw [if_pos h2]; exact Sh.thr
  · rw [if_neg h2]
    by_cases h3 : (labOf s1.labs t.text).isSome = true
    · rw [if_pos h3]; exact Sh.thr
    · rw [if_neg h3]; exact (sh_mark _ _).mono h1
structure StI (base p : Nat) (O : Nat → Prop) (w : World) (s : ASt) (n g : Nat) (sk : ASt) (Ok : Nat → Prop) (wr : World) : Prop where
  st : St base p Ok wr sk
  frm : Fr w O wr Ok
  mu : mu sk ≤ mu s
  len : sk.ts.length ≤ g
  eqn : aStats n s = aStats g sk
structure LbI (base p : Nat) (O : Nat → Prop) (w : World) (s sk : ASt) (g : Nat) (sl : ASt) (Ol : Nat → Prop) (wi : World) : Prop where
  st : St base p Ol wi sl
  frm : Fr w O wi Ol
  mu : mu sl ≤ mu s
  len : sl.ts.length ≤ g
  all : sl.ts.length ≤ sk.ts.length
  eqn : aLabels sk.ts.length sk = aLabels g sl
theorem throw_none (x : Int) (w : World) : Calls Tryz.prog 80 #[.agg #[.int .i64 0, .string ⟨#[]⟩, .int .u64 0, .int .i64 0, .int .i64 0], .int .i64 x] w fun e w' => e = .panicked [{ v := failV 0 0 x, recovered := false }] ∧ Below w.heap.size w w' := throw_any noTok x w
set_option maxRecDepth 50000 in
set_option maxHeartbeats 1000000 in
theorem statements_any (base p : Nat) (O : Nat → Prop) (s : ASt) (n : Nat) (hn : s.ts.length ≤ n) (w : World) (h : St base p O w s) (hm : mu s ≤ 300000) (hgb : 0 < base) (hG : Fmts w) :
    Calls Tryz.prog 53 #[.pointer (some ⟨p, 0, none⟩)] w (MEnd base p O w s (fun _ => .tuple #[]) (aStats n s)) := by
  have HBB := Lib.hid h.lo
  have HMM := Lib.hid hm
  have HG := Lib.hid hG
  have HTH := Lib.hid fun W => throw_none 15 W
  have HI0 : Hid (StI base p O w s n n s O w) := Lib.hid ⟨h, Fr.refl _ _, Nat.le_refl _, hn, rfl⟩
  obtain ⟨q, HQ0⟩ : ∃ q, Hid (aStats n s = q) := ⟨_, Lib.hid rfl⟩
  rw [HQ0.out]
  clear h hm hG
  go_enter Tryz.func53, Tryz.ntmps53
  go_wp2
  go_loopg [] n (fun g wr => ∃ (sk : ASt) (Ok : Nat → Prop), Hid (StI base p O w s n g sk Ok wr))
  case atStart => exact ⟨s, O, HI0⟩
  case round =>
    obtain ⟨sk, Ok, HI⟩ := hrel
    clear HI0
    obtain ⟨t, r, b, off, c, pv, m, ov, hts, hhd, hX, hb, hbp, hpw, hc1, hc2, ⟨x0, x1, x2, x3, x4⟩, ⟨p0, p1, p2, p3, z0, z1, z2, z3⟩⟩ := HI.out.st.get
    have hbw : b < wr.heap.size := by omega
    obtain ⟨⟨AP, cP, hpv⟩, _⟩ := hX.small
    subst hpv
    have hgk : ∃ g', gk = g' + 1 := by
      have := HI.out.len
      rw [hts] at this
      simp only [List.length_cons] at this
      exact ⟨gk - 1, by omega⟩
    obtain ⟨g', rfl⟩ := hgk
    have HE : Hid (q = if sk.hd.kind = 0 then (if sk.prog.length = 0 then .thr 0 0 15 else .ok () sk) else
      (aLabels sk.ts.length sk).bind fun _ s1 => (aInstr s1).bind fun _ s2 => aStats g' s2) := Lib.hid (by rw [← HQ0.out, HI.out.eqn]; rfl)
    rw [hhd] at HE
    by_cases hk : t.kind = 0
    · rw [if_pos hk] at HE
      rw [hk] at x0
      clear hX hts hhd hk
      by_cases hz : sk.prog.length = 0
      · have HQ : Hid (q = .thr 0 0 15) := Lib.hid (by rw [HE.out, if_pos hz])
        rw [hz] at p1
        have HBW := Lib.hid HI.out.st.lo.2.2
        clear hz
        go_wp2_with fail
        go_fit (HTH.out _)
        rintro e w2 ⟨rfl, hb2⟩
        have HB2 := Lib.hid ((HI.out.frm.bel HBB.out.1 HBB.out.2.2).trans (hb2.mono HBW.out))
        clear hb2
        go_wp2
        refine ⟨rfl, ?_⟩
        rw [HQ.out]
        exact ⟨rfl, HB2.out⟩
      · have HQ : Hid (q = .ok () sk) := Lib.hid (by rw [HE.out, if_neg hz])
        have fz : ¬ (sk.prog.length : Int) = 0 := by omega
        have HEND : Hid (MEnd base p O w s (fun _ => .tuple #[]) q (.returned (.tuple #[])) wr) := Lib.hid (by rw [HQ.out]; exact ⟨rfl, HI.out.mu, Ok, HI.out.st, HI.out.frm⟩)
        generalize sk.prog.length = pn at *
        clear hz
        go_wp2
        go_end0
        exact HEND.out
    · rw [if_neg hk] at HE
      have f1 : (t.kind != 0) = true := by simp [hk]
      have HL0 : Hid (LbI base p O w s sk sk.ts.length sk Ok wr) := Lib.hid ⟨HI.out.st, HI.out.frm, HI.out.mu, Nat.le_refl _, Nat.le_refl _, rfl⟩
      have HLN := Lib.hid HI.out.len
      clear hX hts hhd HI
      go_wp2_with fail
      generalize wr = wA at *
      go_loopg [] sk.ts.length (fun g wi => ∃ (sl : ASt) (Ol : Nat → Prop), Hid (LbI base p O w s sk g sl Ol wi))
      case atStart => exact ⟨sk, Ok, HL0⟩
      case round =>
        obtain ⟨sl, Ol, HL⟩ := hrel
        clear HL0
        have HAT := Lib.hid (atLabel_any base p Ol sl wr HL.out.st)
        have hne := HL.out.st.ne
        obtain ⟨g2, rfl⟩ : ∃ g2, gk = g2 + 1 := by
          have := HL.out.len
          cases hts : sl.ts with
          | nil => exact absurd hts hne
          | cons a l => rw [hts] at this; simp only [List.length_cons] at this; exact ⟨gk - 1, by omega⟩
        have HPOS : Hid (0 < sl.ts.length) := Lib.hid (by cases hts : sl.ts with
          | nil => exact absurd hts hne
          | cons a l => simp)
        have HEL : Hid (aLabels sk.ts.length sk = if atLab sl then (aLabel sl).bind fun _ s1 => aLabels g2 s1 else .ok () sl) := Lib.hid (by rw [HL.out.eqn]; rfl)
        clear hne
        cases hal : atLab sl
        · rw [hal] at HAT HEL
          have HE2 : Hid (q = (aInstr sl).bind fun _ s2 => aStats g' s2) := Lib.hid (by rw [HE.out, HEL.out]; rfl)
          have HIN := Lib.hid fun W hW hG => instruction_any base p Ol sl W hW (by have := HL.out.mu; have := HMM.out; omega) hgb hG
          have HSH := Lib.hid (sh_instr sl)
          clear hal HEL HE
          generalize aInstr sl = ri at *
          rcases ri with ⟨u, s2⟩ | ⟨l, c2, y⟩
          · have HE3 : Hid (q = aStats g' s2) := Lib.hid HE2.out
            have HLS : Hid (s2.ts.length ≤ g') := Lib.hid (by have h1 := HSH.out u s2 rfl; have h2 := HL.out.all; have h3 := HLN.out; have h4 := HPOS.out; omega)
            go_wp2_with fail
            go_fit HAT.out
            rintro e w2 ⟨rfl, hb2⟩
            have HB2 := Lib.hid hb2
            have HF2 := Lib.hid (HL.out.frm.next hb2)
            have HI2 := Lib.hid (HIN.out w2 (HL.out.st.next hb2) (HG.out.bel hgb (HF2.out.bel HBB.out.1 HBB.out.2.2)))
            clear hb2 HIN
            go_wp2_with fail
            go_fit HI2.out
            rintro e w3 ⟨rfl, hmu3, O3, hst3, hf3⟩
            have HI3 : Hid (StI base p O w s n g' s2 O3 w3) := Lib.hid ⟨hst3, HF2.out.trans hf3, by have := HL.out.mu; omega, HLS.out, by rw [HQ0.out]; exact HE3.out⟩
            clear hst3 hf3 hmu3
            go_wp2
            go_roundg g'
            case measure => omega
            case rel => exact ⟨s2, O3, HI3⟩
          · have HQ : Hid (q = .thr l c2 y) := Lib.hid HE2.out
            go_wp2_with fail
            go_fit HAT.out
            rintro e w2 ⟨rfl, hb2⟩
            have HB2 := Lib.hid hb2
            have HF2 := Lib.hid (HL.out.frm.next hb2)
            have HI2 := Lib.hid (HIN.out w2 (HL.out.st.next hb2) (HG.out.bel hgb (HF2.out.bel HBB.out.1 HBB.out.2.2)))
            clear hb2 HIN
            go_wp2_with fail
            go_fit HI2.out
            rintro e w3 ⟨rfl, hb3⟩
            have HB3 := Lib.hid ((HF2.out.bel HBB.out.1 HBB.out.2.2).trans hb3)
            clear hb3
            go_wp2
            refine ⟨rfl, ?_⟩
            rw [HQ.out]
            exact ⟨rfl, HB3.out⟩
        · rw [hal] at HAT HEL
          have HLB := Lib.hid fun W hW => label_any base p Ol sl W hW (by have := HL.out.mu; have := HMM.out; omega)
          have HSH := Lib.hid (sh_label sl)
          simp only [if_true] at HEL
          clear hal
          generalize aLabel sl = rl at *
          rcases rl with ⟨u, s2⟩ | ⟨l, c2, y⟩
          · have HE3 : Hid (aLabels sk.ts.length sk = aLabels g2 s2) := Lib.hid HEL.out
            have HLS : Hid (s2.ts.length ≤ g2 ∧ s2.ts.length ≤ sk.ts.length) := Lib.hid (by have h1 := HSH.out u s2 rfl; have h2 := HL.out.all; have h3 := HL.out.len; have h4 := HPOS.out; omega)
            go_wp2_with fail
            go_fit HAT.out
            rintro e w2 ⟨rfl, hb2⟩
            have HF2 := Lib.hid (HL.out.frm.next hb2)
            have HI2 := Lib.hid (HLB.out w2 (HL.out.st.next hb2))
            clear hb2 HLB
            go_wp2_with fail
            go_fit HI2.out
            rintro e w3 ⟨rfl, hmu3, O3, hst3, hf3⟩
            have HI3 : Hid (LbI base p O w s sk g2 s2 O3 w3) := Lib.hid ⟨hst3, HF2.out.trans hf3, by have := HL.out.mu; omega, HLS.out.1, HLS.out.2, HE3.out⟩
            clear hst3 hf3 hmu3
            go_wp2
            go_roundg g2
            case measure => omega
            case rel => exact ⟨s2, O3, HI3⟩
          · have HE3 : Hid (aLabels sk.ts.length sk = .thr l c2 y) := Lib.hid HEL.out
            have HQ : Hid (q = .thr l c2 y) := Lib.hid (by rw [HE.out, HE3.out]; rfl)
            go_wp2_with fail
            go_fit HAT.out
            rintro e w2 ⟨rfl, hb2⟩
            have HF2 := Lib.hid (HL.out.frm.next hb2)
            have HI2 := Lib.hid (HLB.out w2 (HL.out.st.next hb2))
            clear hb2 HLB
            go_wp2_with fail
            go_fit HI2.out
            rintro e w3 ⟨rfl, hb3⟩
            have HB3 := Lib.hid ((HF2.out.bel HBB.out.1 HBB.out.2.2).trans hb3)
            clear hb3
            go_wp2
            refine ⟨rfl, ?_⟩
            rw [HQ.out]
            exact ⟨rfl, HB3.out⟩
end Go.Proofs.YtahhmgoffdggpaaGreatDoor


namespace Go.Proofs.YtahhmgoffdggpaaGreatDoor

open Go.RowKit

def Pr {α : Type} (P : α → ASt → Prop) (r : ARes α) : Prop := ∀ v s, r = .ok v s → P v s
theorem Pr.bind {α β : Type} {P : α → ASt → Prop} {Q : β → ASt → Prop} {r : ARes α} {f : α → ASt → ARes β} (h : Pr P r) (hf : ∀ v s, P v s → Pr Q (f v s)) : Pr Q (r.bind f) := by
  cases r with
  | ok v s => exact hf v s (h v s rfl)
  | thr l c e => intro v s e; cases e
theorem Pr.ok {α : Type} {P : α → ASt → Prop} {v : α} {s : ASt} (h : P v s) : Pr P (.ok v s) := by intro v' s' e; cases e; exact h
theorem Pr.thr {α : Type} {P : α → ASt → Prop} {l c e : Int} : Pr P (ARes.thr (α := α) l c e) := by intro v s e; cases e
theorem Pr.mono {α : Type} {P Q : α → ASt → Prop} {r : ARes α} (h : Pr P r) (hm : ∀ v s, P v s → Q v s) : Pr Q r := fun v s e => hm v s (h v s e)
def Txt (s : ASt) : Prop := ∀ t ∈ s.ts, t.text.length ≤ 65536
theorem Txt.hd {s : ASt} (h : Txt s) : s.hd.text.length ≤ 65536 := by
  unfold ASt.hd
  cases hts : s.ts with
  | nil => decide
  | cons a r => exact h a (by rw [hts]; simp)
theorem Txt.next {s : ASt} (h : Txt s) : Txt s.next := fun t ht => h t (List.mem_of_mem_tail ht)
/-- From s0 to s, within an instruction. -/
structure Rg (s0 s : ASt) : Prop where
  prog : s.prog = s0.prog
  labs : s.labs = s0.labs
  txt : Txt s
  refs : ∀ r ∈ s.refs, r ∈ s0.refs ∨ (r.ix = s0.prog.length ∧ r.tok.text.length ≤ 65536)
theorem Rg.next {s0 s : ASt} (h : Rg s0 s) : Rg s0 s.next := ⟨h.prog, h.labs, h.txt.next, h.refs⟩
theorem Rg.keep {s0 s : ASt} (h : Rg s0 s) {t : GTok} (ht : t.text.length ≤ 65536) : Rg s0 (aKeep t s) := ⟨h.prog, h.labs, h.txt, fun r hr => by
  rcases List.mem_append.1 hr with h1 | h1
  · exact h.refs r h1
  · simp only [List.mem_singleton] at h1
    subst h1
    exact .inr ⟨by show (s.prog.length : Int) = _; rw [h.prog], ht⟩⟩
variable {s0 : ASt}

theorem pr_take (k : Int) {s : ASt} (h : Rg s0 s) : Pr (fun t s' => Rg s0 s' ∧ t.text.length ≤ 65536) (aTake k s) := by
  unfold aTake
  by_cases hk : s.hd.kind = k
  · rw [if_pos hk]; exact Pr.ok ⟨h.next, h.txt.hd⟩
  · rw [if_neg hk]; exact Pr.thr
theorem pr_mark (m : List UInt8) {s : ASt} (h : Rg s0 s) : Pr (fun _ s' => Rg s0 s') (aMark m s) := by
  unfold aMark
  by_cases hk : isMk s.hd m = true
  · rw [if_pos hk]; exact Pr.ok h.next
  · rw [if_neg hk]; exact Pr.thr
theorem pr_number (g : Int) {s : ASt} (h : Rg s0 s) : Pr (fun _ s' => Rg s0 s') (aNumber g s) := by
  refine Pr.bind (pr_take 2 h) fun t s1 h1 => ?_
  by_cases hg : g < t.value
  · rw [if_pos hg]; exact Pr.thr
  · rw [if_neg hg]; exact Pr.ok h1.1
theorem pr_use {s : ASt} (h : Rg s0 s) : Pr (fun _ s' => Rg s0 s') (aUse s) := by
  refine Pr.bind (pr_take 1 h) fun t s1 h1 => ?_
  by_cases hg : (regNo t.text).isSome = true
  · rw [if_pos hg]; exact Pr.thr
  · rw [if_neg hg]; exact Pr.ok (h1.1.keep h1.2)
theorem pr_target {s : ASt} (h : Rg s0 s) : Pr (fun _ s' => Rg s0 s') (aTarget s) := by
  unfold aTarget
  by_cases hk : s.hd.kind = 1
  · rw [if_pos hk]; exact Pr.bind (pr_use h) fun _ s1 h1 => Pr.ok h1
  · rw [if_neg hk]; exact pr_number _ (h.keep h.txt.hd)
theorem pr_imm {s : ASt} (h : Rg s0 s) : Pr (fun _ s' => Rg s0 s') (aImm s) := by
  unfold aImm
  by_cases hk : s.hd.kind = 1
  · rw [if_pos hk]; exact Pr.bind (pr_use h) fun _ s1 h1 => Pr.ok h1
  · rw [if_neg hk]
    by_cases hm : isMk s.hd [45] = true
    · rw [if_pos hm]; exact Pr.bind (pr_number _ h.next) fun _ s1 h1 => Pr.ok h1
    · rw [if_neg hm]; exact pr_number _ h
theorem pr_reg {s : ASt} (h : Rg s0 s) : Pr (fun _ s' => Rg s0 s') (aReg s) := by
  refine Pr.bind (pr_take 1 h) fun t s1 h1 => ?_
  cases regNo t.text with
  | none => exact Pr.thr
  | some r => exact Pr.ok h1.1
theorem pr_comma (i : Nat) {s : ASt} (h : Rg s0 s) : Pr (fun _ s' => Rg s0 s') (aComma i s) := by
  unfold aComma
  by_cases hk : 0 < i
  · rw [if_pos hk]; exact pr_mark _ h
  · rw [if_neg hk]; exact Pr.ok h
theorem pr_regs : ∀ (m i : Nat) {s : ASt}, Rg s0 s → Pr (fun _ s' => Rg s0 s') (aRegs i m s)
  | 0, _, _, h => Pr.ok h
  | m + 1, i, _, h => Pr.bind (pr_comma i h) fun _ _ h1 => Pr.bind (pr_reg h1) fun _ _ h2 => Pr.bind (pr_regs m (i + 1) h2) fun _ _ h3 => Pr.ok h3
theorem pr_ops (f : Nat × Nat) {s : ASt} (h : Rg s0 s) : Pr (fun _ s' => Rg s0 s') (aOps f s) := by
  refine Pr.bind (pr_regs f.1 0 h) fun l s1 h1 => Pr.bind (P := fun _ s' => Rg s0 s') ?_ fun v s2 h2 => Pr.ok h2
  unfold aLast
  by_cases h2 : f.2 = 1
  · rw [if_pos h2]; exact Pr.bind (pr_comma _ h1) fun _ s2 h2 => pr_imm h2
  · rw [if_neg h2]
    by_cases h3 : f.2 = 2
    · rw [if_pos h3]; exact Pr.bind (pr_comma _ h1) fun _ s2 h2 => pr_target h2
    · rw [if_neg h3]; exact Pr.ok h1
/-- Between instructions. -/
structure Rw (s : ASt) : Prop where
  txt : Txt s
  refs : ∀ r ∈ s.refs, 0 ≤ r.ix ∧ r.ix < s.prog.length ∧ r.tok.text.length ≤ 65536
  labs : ∀ x ∈ s.labs, x.2 ≤ 4096
  few : s.prog.length ≤ 4096
theorem Rw.rg {s : ASt} (h : Rw s) : Rg s s := ⟨rfl, rfl, h.txt, fun _ hr => .inl hr⟩
theorem rw_instr {s : ASt} (h : Rw s) : Pr (fun _ s' => Rw s') (aInstr s) := by
  refine Pr.bind (pr_take 1 h.rg) fun t s1 h1 => ?_
  cases opNo t.text with
  | none => exact Pr.thr
  | some op =>
    show Pr _ (if s1.prog.length = 4096 then _ else _)
    by_cases h4 : s1.prog.length = 4096
    · rw [if_pos h4]; exact Pr.thr
    · rw [if_neg h4]
      refine Pr.bind (pr_ops _ h1.1) fun x s2 h2 => Pr.bind (pr_mark _ h2) fun _ s3 h3 => Pr.ok ⟨h3.txt, fun r hr => ?_, ?_, ?_⟩
      · have hl : (s3.prog ++ [{ x with op := (op : Int) }]).length = s.prog.length + 1 := by rw [List.length_append, h3.prog]; rfl
        show 0 ≤ r.ix ∧ r.ix < ((s3.prog ++ [{ x with op := (op : Int) }]).length : Nat) ∧ _
        rw [hl]
        rcases h3.refs r hr with h5 | ⟨h5, h6⟩
        · obtain ⟨a, b, c⟩ := h.refs r h5; exact ⟨a, by omega, c⟩
        · exact ⟨by omega, by omega, h6⟩
      · show ∀ x ∈ s3.labs, _
        rw [h3.labs]; exact h.labs
      · have := h1.1.prog
        have hf := h.few
        show (s3.prog ++ [_]).length ≤ 4096
        rw [List.length_append, h3.prog]
        rw [this] at h4
        simp only [List.length_singleton]; omega
theorem rw_label {s : ASt} (h : Rw s) : Pr (fun _ s' => Rw s') (aLabel s) := by
  have hp : Pr (fun (t : GTok) s1 => (Rg s s1 ∧ t.text.length ≤ 65536) ∧ s1.refs = s.refs) (aTake 1 s) := fun t s1 e => by
    refine ⟨pr_take 1 h.rg t s1 e, ?_⟩
    unfold aTake at e
    by_cases hk : s.hd.kind = 1
    · rw [if_pos hk] at e
      injection e with _ e2
      rw [← e2]; rfl
    · rw [if_neg hk] at e; cases e
  refine Pr.bind hp fun t s1 h1 => ?_
  obtain ⟨h1, hrf⟩ := h1
  by_cases h2 : (regNo t.text).isSome = true
  · rw [if_pos h2]; exact Pr.thr
  · rw [if_neg h2]
    by_cases h3 : (labOf s1.labs t.text).isSome = true
    · rw [if_pos h3]; exact Pr.thr
    · rw [if_neg h3]
      have e : s1.prog = s.prog := h1.1.prog
      have hw : Rw { s1 with labs := (t.text, s1.prog.length) :: s1.labs } :=
        ⟨h1.1.txt, fun r hr => by
          show 0 ≤ r.ix ∧ r.ix < (s1.prog.length : Nat) ∧ _
          rw [e]
          exact h.refs r (by rw [← hrf]; exact hr), fun x hx => by
          rcases List.mem_cons.1 hx with h5 | h5
          · subst h5; show s1.prog.length ≤ 4096; rw [e]; exact h.few
          · rw [h1.1.labs] at h5; exact h.labs x h5, by show s1.prog.length ≤ 4096; rw [e]; exact h.few⟩
      unfold aMark
      by_cases hk : isMk ({ s1 with labs := (t.text, s1.prog.length) :: s1.labs } : ASt).hd [58] = true
      · rw [if_pos hk]; exact Pr.ok ⟨hw.txt.next, hw.refs, hw.labs, hw.few⟩
      · rw [if_neg hk]; exact Pr.thr
theorem rw_labels : ∀ (n : Nat) {s : ASt}, Rw s → Pr (fun _ s' => Rw s') (aLabels n s)
  | 0, _, h => Pr.ok h
  | n + 1, s, h => by
    show Pr _ (if atLab s then _ else _)
    by_cases hk : atLab s = true
    · rw [if_pos hk]; exact Pr.bind (rw_label h) fun _ _ h1 => rw_labels n h1
    · rw [if_neg hk]; exact Pr.ok h
theorem rw_stats : ∀ (n : Nat) {s : ASt}, Rw s → Pr (fun _ s' => Rw s') (aStats n s)
  | 0, _, h => Pr.ok h
  | n + 1, s, h => by
    show Pr _ (if s.hd.kind = 0 then (if s.prog.length = 0 then _ else _) else _)
    by_cases hk : s.hd.kind = 0
    · rw [if_pos hk]
      by_cases hp : s.prog.length = 0
      · rw [if_pos hp]; exact Pr.thr
      · rw [if_neg hp]; exact Pr.ok h
    · rw [if_neg hk]
      exact Pr.bind (rw_labels _ h) fun _ _ h1 => Pr.bind (rw_instr h1) fun _ _ h2 => rw_stats n h2
theorem TEnds.texts : ∀ {ts : List GTok}, TEnds ts → ∀ t ∈ ts, t.text.length ≤ 65536
  | [_], h, _, ht => by
    rw [List.mem_singleton] at ht
    subst ht
    exact TEnds.text h
  | _ :: u :: r, h, x, ht => by
    rcases List.mem_cons.1 ht with h1 | h1
    · subst h1; exact h.1.text
    · exact TEnds.texts (ts := u :: r) h.2 x h1
theorem rw_start {ts : List GTok} (h : TEnds ts) : Rw ⟨ts, [], [], []⟩ := ⟨h.texts, fun _ hr => absurd hr (by simp), fun _ hx => absurd hx (by simp), by simp⟩
theorem labOf_mem {l : List (List UInt8 × Nat)} {s : List UInt8} {n : Nat} (h : labOf l s = some n) : ∃ x ∈ l, x.2 = n := by
  induction l with
  | nil => cases h
  | cons x r ih =>
    obtain ⟨a, m⟩ := x
    simp only [labOf] at h
    by_cases hs : s = a
    · rw [if_pos hs] at h; injection h with h; exact ⟨(a, m), by simp, h⟩
    · rw [if_neg hs] at h
      obtain ⟨y, hy, e⟩ := ih h
      exact ⟨y, by simp [hy], e⟩
end Go.Proofs.YtahhmgoffdggpaaGreatDoor
