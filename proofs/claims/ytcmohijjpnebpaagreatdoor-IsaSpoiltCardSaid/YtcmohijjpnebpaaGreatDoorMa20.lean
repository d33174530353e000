/-
  isa.Assemble at whatever text.
  Conditions: the listed variables lie as the program's start lays them.
  The law's sanity check: it returns true.
  Conditions: the listed variables lie as the program's start lays them.
  The reference's table of operations and their operands.
  Conditions: none.
-/
import Derived.Test.YtcmohijjpnebpaaGreatDoorMa19
import Derived.Test.YtcmohijjpnebpaaGreatDoorMa15
import Derived.Test.YtcmohijjpnebpaaGreatDoorMa16
import Derived.Test.YtcmohijjpnebpaaGreatDoorMa7
import Derived.Test.YtcmohijjpnebpaaGreatDoorMa3
import Derived.Deep.MidRow
import Derived.Deep.WholeRow
namespace Go.Proofs.YtcmohijjpnebpaaGreatDoor

open Go.RowKit Go.Shelf

def asmAll (l : List UInt8) : ARes Unit :=
  match scan l with
  | .no x y e => .thr x y e
  | .ok toks => aAll (toks.map Tok.g ++ [endTok l])
def PosV (W : World) (N : Nat) : Prop := W.heap[N]? = some (.cells #[.int .i64 0, .int .i64 0] 35 (0, 0))
theorem PosV.lt {W : World} {N : Nat} (h : PosV W N) : N < W.heap.size := heap_lt h
theorem PosV.next {W W' : World} {N : Nat} (h : PosV W N) (hb : Below W.heap.size W W') : PosV W' N := (hb.block N h.lt).trans h
theorem PosV.facts {W : World} {N : Nat} (h : PosV W N) : W.cell? ⟨N, 0, none⟩ = some (.int .i64 0) ∧ W.cell? ⟨N, 1, none⟩ = some (.int .i64 0) ∧ W.frozen? ⟨N, 0, none⟩ = false ∧ W.frozen? ⟨N, 1, none⟩ = false := by
  unfold PosV at h
  exact ⟨by rw [Lib.cell_of_heap h]; rfl, by rw [Lib.cell_of_heap h]; rfl, Lib.frozen_of_heap h 0, Lib.frozen_of_heap h 1⟩
set_option maxRecDepth 50000 in
set_option maxHeartbeats 1000000 in
theorem asm_any (l : List UInt8) (w : World) (hl : l.length ≤ maxLen) (hG : Glob w) (hF : GlobF w) :
    Calls Tryz.prog 20 #[.string ⟨l.toArray⟩] w (AsmEnd (asmAll l) w) := by
  have hSC := scan_any l (w.alloc (.cells #[.int .i64 0, .int .i64 0] 35)) (hG.next (bel_lit (Below.refl _ w) _)) hl
  have HPV : Hid (PosV (w.alloc (.cells #[.int .i64 0, .int .i64 0] 35)) w.heap.size) := Lib.hid (heap_alloc_new w _)
  cases hsc : scan l with
  | no x y er =>
    rw [hsc] at hSC
    unfold ScanEnd at hSC
    simp only at hSC
    have he0 := scan_err hsc
    have hne : (er : Int) ≠ 0 := by omega
    have HPA : Hid (asmAll l = .thr x y er) := Lib.hid (by unfold asmAll; rw [hsc])
    have HNE := Lib.hid hne
    have HS := Lib.hid hSC
    generalize asmAll l = q at *
    generalize (er : Int) = ei at *
    generalize (x : Int) = xi at *
    generalize (y : Int) = yi at *
    have f1 : (ei != 0) = true := by simp [HNE.out]
    clear hSC hG hF hsc he0 hne
    go_enter Tryz.func20, Tryz.ntmps20
    go_wp2_with fail
    go_fit HS.out
    rintro e w1 ⟨rfl, hb1⟩
    have HB1 := Lib.hid (bel_alloc (Below.refl _ w) hb1)
    obtain ⟨q0, q1, z0, z1⟩ := (HPV.out.next hb1).facts
    have hz1 : w.heap.size < w1.heap.size := (HPV.out.next hb1).lt
    have HBF : Hid (Below w.heap.size w (((w1.setCell ⟨w.heap.size, 0, none⟩ (.int .i64 xi)).setCell ⟨w.heap.size, 1, none⟩ (.int .i64 yi)).alloc (.cells #[.int .i64 xi, .int .i64 yi] 35)).drew) := Lib.hid ((bel_lit ((HB1.out.setCell (p := ⟨w.heap.size, 0, none⟩) (Nat.le_refl _) _).setCell (p := ⟨w.heap.size, 1, none⟩) (Nat.le_refl _) _) _).drew)
    clear hb1 HS HPV
    go_upto_region 3 with fail
    go_region
    go_wp2
    refine bodyPost_ret (v := .tuple #[.slice none 0 0, .agg #[.int .i64 xi, .int .i64 yi], .int .i64 ei]) (by simp [results, Tryz.results20, go_sem, q0, q1, hz1]) rfl ?_
    rw [HPA.out]
    exact ⟨rfl, HBF.out⟩
  | ok toks =>
    rw [hsc] at hSC
    unfold ScanEnd at hSC
    simp only at hSC
    have hl16 := (scan_tokB hsc).1
    have htl := scan_count hsc
    have HS := Lib.hid hSC
    have HE := Lib.hid fun W => endPos_any l W hl16
    have HTE := Lib.hid (scan_ends hsc)
    have HPA : Hid (asmAll l = aAll (toks.map Tok.g ++ [endTok l])) := Lib.hid (by unfold asmAll; rw [hsc])
    have HET : Hid (endTok l = ⟨0, [], 0, (endTok l).line, (endTok l).col⟩) := Lib.hid rfl
    have HGF := Lib.hid hF
    generalize asmAll l = q at *
    generalize endTok l = et at *
    obtain ⟨ek, etx, ev, x, y⟩ := et
    have het := HET.out
    simp only at het HE
    injection het with k1 k2 k3
    subst k1 k2 k3
    clear hSC hG hF hsc HET hl16
    go_enter Tryz.func20, Tryz.ntmps20
    go_wp2_with fail
    go_fit HS.out
    rintro e w1 ⟨v1, rfl, hown1, hb1⟩
    obtain ⟨A1, c1, rfl, _, _⟩ := hown1.row
    have HO1 := Lib.hid hown1
    have HB1 := Lib.hid (bel_alloc (Below.refl _ w) hb1)
    have HK1 := Lib.hid (HPV.out.next hb1)
    have hz1 : w.heap.size < w1.heap.size := (HPV.out.next hb1).lt
    clear hown1 hb1 HPV
    go_wp2_with fail
    go_fit (HE.out _)
    rintro e w2 ⟨rfl, hb2⟩
    have HB2 := Lib.hid hb2
    have hz2 : w1.heap.size < w2.heap.size := by have := hb2.size; simp at this; omega
    have hown2 : OwnG GTok.cells 47 5 w2 (w.heap.size + 1) (.slice A1 (toks.map Tok.g).length c1) (toks.map Tok.g) := by
      have h1 : OwnG GTok.cells 47 5 w1 (w.heap.size + 1 + 1) (.slice A1 (toks.map Tok.g).length c1) (toks.map Tok.g) := by
        have h := HO1.out
        have e : (w.alloc (.cells #[.int .i64 0, .int .i64 0] 35)).heap.size + 1 = w.heap.size + 1 + 1 := by simp
        rw [e] at h
        exact h
      exact ((h1.alloc _).next hb2).base (by omega)
    have hlit := GRow.lit GTok.len5 w2 47 [⟨0, [], 0, x, y⟩] #[.int .i64 0, .string ⟨#[]⟩, .int .u64 0, .int .i64 x, .int .i64 y] rfl (by unfold maxLen; simp)
    obtain ⟨v3, w3, hrun3, hown3, hgr3, _⟩ := OwnG.app elt_tok GTok.len5 cells_one (hown2.alloc (.cells #[.int .i64 0, .string ⟨#[]⟩, .int .u64 0, .int .i64 x, .int .i64 y] 47)) 1 hlit (by simp; omega) (by unfold maxLen; simp; omega) (by simp; omega)
    obtain ⟨A3, c3, rfl, hc3, hm3, hr3⟩ := hown3.row GTok.len5
    have HRUN := Lib.hid hrun3
    have HB3 := Lib.hid (below_of_own (bel_lit (bel_next (bel_lit HB1.out _) hb2) _) hgr3 (fun g hg => by have := (hown2.lt g hg).1; omega))
    have hs3 := hgr3.size
    have hk3 : PosV w3 w.heap.size := by
      unfold PosV
      rw [hgr3.block _ (by simp; omega) (by intro e; have := (hown2.lt _ e.symm).1; omega), Below.heap_alloc _ _ _ (by omega), hb2.block _ (by simp; omega), Below.heap_alloc _ _ _ hz1]
      exact HK1.out
    have HK3 := Lib.hid hk3
    have hlt3 : (toks.map Tok.g ++ [(⟨0, [], 0, x, y⟩ : GTok)]).length ≤ 100000 := by simp; omega
    have HAS := Lib.hid (assemble_any _ A3 c3 w3 (HGF.out.next HB3.out) HTE.out hr3 hc3 hm3 hlt3)
    generalize aAll (toks.map Tok.g ++ [(⟨0, [], 0, x, y⟩ : GTok)]) = r at *
    have hll : (toks.map Tok.g ++ [(⟨0, [], 0, x, y⟩ : GTok)]).length = toks.length + 1 := by simp
    generalize (toks.map Tok.g ++ [(⟨0, [], 0, x, y⟩ : GTok)]).length = tn at *
    simp only [List.length_singleton] at HRUN
    rw [show (toks.map Tok.g).length = toks.length by simp] at HRUN
    clear hown2 hlit hrun3 hown3 hgr3 hr3 hb2 hk3 hc3 hm3 hs3 HTE hlt3 hll
    rcases r with ⟨u, s⟩ | ⟨l2, c2, x2⟩
    · go_wp2_with (at_builtin; refine wpList_gapp HRUN.out rfl rfl rfl rfl rfl ?_)
      go_fit HAS.out
      rintro e w4 ⟨pv, rfl, hown4, hb4⟩
      obtain ⟨A4, c4, rfl, _, _, _⟩ := hown4.row GIns.len
      obtain ⟨q0, q1, z0, z1⟩ := (HK3.out.next hb4).facts
      have hz4 : w.heap.size < w4.heap.size := (HK3.out.next hb4).lt
      have hOF : OwnG GIns.cells 52 5 ((w4.setCell ⟨w.heap.size, 0, none⟩ (.int .i64 0)).setCell ⟨w.heap.size, 1, none⟩ (.int .i64 0)) w.heap.size (.slice A4 s.prog.length c4) s.prog := (hown4.keep fun g hg => by
        have := (hown4.lt g hg).1
        have := HK3.out.lt
        rw [Below.heap_setCell _ _ _ g (by simp; omega), Below.heap_setCell _ _ _ g (by simp; omega)]).base (by have := HK3.out.lt; omega)
      have HEND : Hid (AsmEnd q w (.returned (.tuple #[.slice A4 s.prog.length c4, .agg #[.int .i64 0, .int .i64 0], .int .i64 0])) ((w4.setCell ⟨w.heap.size, 0, none⟩ (.int .i64 0)).setCell ⟨w.heap.size, 1, none⟩ (.int .i64 0))) := Lib.hid (by
        rw [HPA.out]
        exact ⟨_, rfl, hOF, ((bel_next HB3.out hb4).setCell (p := ⟨w.heap.size, 0, none⟩) (Nat.le_refl _) _).setCell (p := ⟨w.heap.size, 1, none⟩) (Nat.le_refl _) _⟩)
      clear hown4 hb4 hOF
      generalize s.prog.length = pl at *
      go_wp2
      refine bodyPost_ret (v := .tuple #[.slice A4 pl c4, .agg #[.int .i64 0, .int .i64 0], .int .i64 0]) (by simp [results, Tryz.results20, go_sem, q0, q1]) rfl ?_
      exact HEND.out
    · go_wp2_with (at_builtin; refine wpList_gapp HRUN.out rfl rfl rfl rfl rfl ?_)
      go_fit HAS.out
      rintro e w4 ⟨rfl, hb4⟩
      obtain ⟨q0, q1, z0, z1⟩ := (HK3.out.next hb4).facts
      have hz4 : w.heap.size < w4.heap.size := (HK3.out.next hb4).lt
      have HEND : Hid (AsmEnd q w (.returned (.tuple #[.slice none 0 0, .agg #[.int .i64 l2, .int .i64 c2], .int .i64 x2])) ((w4.setCell ⟨w.heap.size, 0, none⟩ (.int .i64 l2)).setCell ⟨w.heap.size, 1, none⟩ (.int .i64 c2))) := Lib.hid (by
        rw [HPA.out]
        exact ⟨rfl, ((bel_next HB3.out hb4).setCell (p := ⟨w.heap.size, 0, none⟩) (Nat.le_refl _) _).setCell (p := ⟨w.heap.size, 1, none⟩) (Nat.le_refl _) _⟩)
      clear hb4
      go_wp2
      refine bodyPost_ret (v := .tuple #[.slice none 0 0, .agg #[.int .i64 l2, .int .i64 c2], .int .i64 x2]) (by simp [results, Tryz.results20, go_sem, q0, q1]) rfl ?_
      exact HEND.out
end Go.Proofs.YtcmohijjpnebpaaGreatDoor


namespace Go.Proofs.YtcmohijjpnebpaaGreatDoor

open Go.RowKit Go.Shelf

def exT : List UInt8 := [115, 116, 97, 114, 116, 58, 32, 108, 105, 32, 114, 49, 44, 32, 53, 59, 32, 108, 111, 111, 112, 58, 32, 97, 100, 100, 105, 32, 114, 49, 44, 32, 114, 49, 44, 32, 45, 49, 59, 32, 98, 110, 101, 122, 32, 114, 49, 44, 32, 108, 111, 111, 112, 59, 32, 104, 97, 108, 116, 59]
def exP : List GIns := [⟨1, 1, 0, 0, 5⟩, ⟨14, 1, 1, 0, -1⟩, ⟨20, 1, 0, 0, 1⟩, ⟨0, 0, 0, 0, 0⟩]
def progOf (r : ARes Unit) : Option (List GIns) := match r with
  | .ok _ s => some s.prog
  | .thr _ _ _ => none
set_option maxRecDepth 100000 in
theorem ex_asm : progOf (asmAll exT) = some exP := by decide +kernel
theorem ex_val : valP exP = 0 := by decide +kernel
theorem ex_ok : ∃ u s, asmAll exT = .ok u s ∧ s.prog = exP := by
  have h := ex_asm
  cases hq : asmAll exT with
  | ok u s => rw [hq] at h; exact ⟨u, s, rfl, Option.some.inj h⟩
  | thr l c x => rw [hq] at h; cases h
theorem ex_imm : ∀ x ∈ exP, ImmOk x := by
  intro x hx
  simp only [exP, List.mem_cons, List.not_mem_nil, or_false] at hx
  rcases hx with rfl | rfl | rfl | rfl <;> exact ⟨by decide, by decide⟩
set_option maxRecDepth 50000 in
set_option maxHeartbeats 1000000 in
theorem awake9 (w : World) (hG : GlobI w) : Calls Tryz.prog 10 #[] w fun e w' => e = .returned (.bool true) ∧ Below w.heap.size w w' := by
  obtain ⟨u, s, hs, hp⟩ := ex_ok
  have HA := Lib.hid (asm_any exT w (by unfold maxLen; decide) hG.1 hG.2)
  rw [hs] at HA
  have HG := Lib.hid hG
  have HP := Lib.hid hp
  have HEN := Lib.hid fun A c W hW hrow => encode_any exP A c W hW hrow ex_imm
  have HVA := Lib.hid fun A c W hW hrow => validate_any exP A c W hW hrow ex_imm
  rw [ex_val] at HVA
  clear hG hs hp
  go_enter Tryz.func10, Tryz.ntmps10
  go_wp2_with fail
  go_fit HA.out
  rintro e w1 ⟨pv, rfl, hown1, hb1⟩
  rw [HP.out] at hown1
  obtain ⟨A, cap, rfl, hcap, hcm, hrow1⟩ := hown1.row GIns.len
  have HB1 := Lib.hid hb1
  have HR1 := Lib.hid hrow1
  obtain ⟨b, off, rfl, hb, hcells⟩ := hrow1 (by decide)
  have c2 := hcells 2 (by decide) 4 _ rfl
  have c2' : w1.cell? ⟨b, off + 14, none⟩ = some (.int .i32 1) := c2
  have hlen : exP.length = 4 := rfl
  rw [hlen] at hcap
  clear hown1 hb1 hrow1 hcells c2
  have hbp : Below w1.heap.size w1 (w1.alloc (.cells #[.int .i64 0, .int .i64 0] 35)) := (Below.refl _ _).alloc (Nat.le_refl _) _
  have HGW := Lib.hid ((HG.out.next HB1.out).next hbp)
  have HRW := Lib.hid (HR1.out.next hbp)
  rw [hlen] at HEN HVA
  go_wp2_with fail
  go_fit (HEN.out _ _ _ HGW.out.2 HRW.out)
  rintro e w2 ⟨hb2, he⟩
  rw [ex_val, if_pos rfl, hlen] at he
  obtain ⟨g2, rfl, _, _⟩ := he
  have HB2 := Lib.hid (bel_next hbp hb2)
  have HV2 := Lib.hid (HVA.out _ cap w2 (HGW.out.next hb2).2 (HRW.out.next hb2))
  have y2 : w2.cell? ⟨b, off + 14, none⟩ = some (.int .i32 1) := ((bel_next hbp hb2).cell (p := ⟨b, off + 14, none⟩) hb).trans c2'
  clear hb2 c2' HEN HVA
  go_wp2_with fail
  go_fit HV2.out
  rintro e w3 ⟨rfl, hb3⟩
  have HB3 := Lib.hid (bel_next (bel_next HB1.out HB2.out) hb3)
  clear hb3
  go_wp2
  go_ret
  exact ⟨rfl, HB3.out⟩
end Go.Proofs.YtcmohijjpnebpaaGreatDoor


namespace Go.Proofs.YtcmohijjpnebpaaGreatDoor

open Go.RowKit

/-- The operands of an operation: a, b, c for registers, i for an immediate, t for a target. -/
def opsL (k : Nat) : List UInt8 := ([97, 98, 99] : List UInt8).take (fmtN k).2.1 ++ (if (fmtN k).2.2 = 1 then [105] else if (fmtN k).2.2 = 2 then [116] else [])
def tabV : Array Value := #[.string ⟨#[104, 97, 108, 116]⟩, .string ⟨#[]⟩, .string ⟨#[108, 105]⟩, .string ⟨#[97, 105]⟩, .string ⟨#[108, 105, 104]⟩, .string ⟨#[97, 105]⟩, .string ⟨#[109, 111, 118]⟩, .string ⟨#[97, 98]⟩, .string ⟨#[97, 100, 100]⟩, .string ⟨#[97, 98, 99]⟩, .string ⟨#[115, 117, 98]⟩, .string ⟨#[97, 98, 99]⟩, .string ⟨#[109, 117, 108]⟩, .string ⟨#[97, 98, 99]⟩, .string ⟨#[100, 105, 118]⟩, .string ⟨#[97, 98, 99]⟩, .string ⟨#[114, 101, 109]⟩, .string ⟨#[97, 98, 99]⟩, .string ⟨#[97, 110, 100]⟩, .string ⟨#[97, 98, 99]⟩, .string ⟨#[111, 114]⟩, .string ⟨#[97, 98, 99]⟩, .string ⟨#[120, 111, 114]⟩, .string ⟨#[97, 98, 99]⟩, .string ⟨#[115, 104, 108]⟩, .string ⟨#[97, 98, 99]⟩, .string ⟨#[115, 104, 114]⟩, .string ⟨#[97, 98, 99]⟩, .string ⟨#[97, 100, 100, 105]⟩, .string ⟨#[97, 98, 105]⟩, .string ⟨#[115, 108, 116]⟩, .string ⟨#[97, 98, 99]⟩, .string ⟨#[115, 108, 116, 117]⟩, .string ⟨#[97, 98, 99]⟩, .string ⟨#[115, 101, 113]⟩, .string ⟨#[97, 98, 99]⟩, .string ⟨#[106, 109, 112]⟩, .string ⟨#[116]⟩, .string ⟨#[98, 101, 113, 122]⟩, .string ⟨#[97, 116]⟩, .string ⟨#[98, 110, 101, 122]⟩, .string ⟨#[97, 116]⟩, .string ⟨#[106, 97, 108]⟩, .string ⟨#[97, 116]⟩, .string ⟨#[106, 114]⟩, .string ⟨#[97]⟩, .string ⟨#[108, 100]⟩, .string ⟨#[97, 98, 105]⟩, .string ⟨#[115, 116]⟩, .string ⟨#[97, 98, 105]⟩, .string ⟨#[115, 121, 115]⟩, .string ⟨#[105]⟩, .string ⟨#[121, 105, 101, 108, 100]⟩, .string ⟨#[]⟩, .string ⟨#[110, 111, 112]⟩, .string ⟨#[]⟩]
theorem wpList_known {P : Program} {ops : Array Oper} {rest : List Oper} {o : Oper} {a : Act} {Q : Exit → Act → World → Prop} {w : World} {v : Value} (hg : o.guard = none) (hr : (execOp a.eval o).run P w = .ok (.value v) w) (h : wpList P ops Q rest (a.put o.dst v) w) : wpList P ops Q (o :: rest) a w :=
  wpList_plain hg fun K hK => by unfold Oper.wp; rw [hr]; exact hK _ _ h
theorem wpList_store_known {P : Program} {ops : Array Oper} {rest : List Oper} {o : Oper} {a : Act} {Q : Exit → Act → World → Prop} {w w' : World} {p v : Value} {t : TypeId} {x y : Operand} (hg : o.guard = none) (ho : o.op = .store t x y) (hx : a.eval x = p) (hy : a.eval y = v) (hr : (Instr.storeAt t p v).run P w = .ok () w') (h : wpList P ops Q rest (a.put o.dst undef) w') : wpList P ops Q (o :: rest) a w :=
  wpList_plain hg fun K hK => by
    unfold Oper.wp
    simp only [execOp, ho, hx, hy, Sem.run_bind, hr, Result.andThen, Sem.run_pure]
    exact hK _ _ h
def tabZ : Array Value := #[.string ⟨#[]⟩, .string ⟨#[]⟩, .string ⟨#[]⟩, .string ⟨#[]⟩, .string ⟨#[]⟩, .string ⟨#[]⟩, .string ⟨#[]⟩, .string ⟨#[]⟩, .string ⟨#[]⟩, .string ⟨#[]⟩, .string ⟨#[]⟩, .string ⟨#[]⟩, .string ⟨#[]⟩, .string ⟨#[]⟩, .string ⟨#[]⟩, .string ⟨#[]⟩, .string ⟨#[]⟩, .string ⟨#[]⟩, .string ⟨#[]⟩, .string ⟨#[]⟩, .string ⟨#[]⟩, .string ⟨#[]⟩, .string ⟨#[]⟩, .string ⟨#[]⟩, .string ⟨#[]⟩, .string ⟨#[]⟩, .string ⟨#[]⟩, .string ⟨#[]⟩, .string ⟨#[]⟩, .string ⟨#[]⟩, .string ⟨#[]⟩, .string ⟨#[]⟩, .string ⟨#[]⟩, .string ⟨#[]⟩, .string ⟨#[]⟩, .string ⟨#[]⟩, .string ⟨#[]⟩, .string ⟨#[]⟩, .string ⟨#[]⟩, .string ⟨#[]⟩, .string ⟨#[]⟩, .string ⟨#[]⟩, .string ⟨#[]⟩, .string ⟨#[]⟩, .string ⟨#[]⟩, .string ⟨#[]⟩, .string ⟨#[]⟩, .string ⟨#[]⟩, .string ⟨#[]⟩, .string ⟨#[]⟩, .string ⟨#[]⟩, .string ⟨#[]⟩, .string ⟨#[]⟩, .string ⟨#[]⟩, .string ⟨#[]⟩, .string ⟨#[]⟩]
set_option maxRecDepth 50000 in
set_option maxHeartbeats 2000000 in
theorem table_any (w : World) : Calls Tryz.prog 41 #[] w fun e w' => e = .returned (.agg tabV) ∧ Below w.heap.size w w' := by
  have hsz : (Tryz.prog.info? 86).map (·.size) = some tabV.size := by kernel_rfl
  have hst := run_storeAt_new (P := Tryz.prog) w 86 tabZ tabV hsz rfl (by kernel_rfl)
  have hlv := run_loadVar_new (P := Tryz.prog) w 86 tabV _ _ Tryz.underlying86 hsz
  go_enter Tryz.func41, Tryz.ntmps41
  go_upto_region 1 with fail
  refine wp_region_lit ?_
  refine wpList_known (v := .agg #[.string ⟨#[104, 97, 108, 116]⟩, .string ⟨#[]⟩]) rfl (by kernel_rfl) ?_
  refine wpList_known (v := .agg #[.string ⟨#[108, 105]⟩, .string ⟨#[97, 105]⟩]) rfl (by kernel_rfl) ?_
  refine wpList_known (v := .agg #[.string ⟨#[108, 105, 104]⟩, .string ⟨#[97, 105]⟩]) rfl (by kernel_rfl) ?_
  refine wpList_known (v := .agg #[.string ⟨#[109, 111, 118]⟩, .string ⟨#[97, 98]⟩]) rfl (by kernel_rfl) ?_
  refine wpList_known (v := .agg #[.string ⟨#[97, 100, 100]⟩, .string ⟨#[97, 98, 99]⟩]) rfl (by kernel_rfl) ?_
  refine wpList_known (v := .agg #[.string ⟨#[115, 117, 98]⟩, .string ⟨#[97, 98, 99]⟩]) rfl (by kernel_rfl) ?_
  refine wpList_known (v := .agg #[.string ⟨#[109, 117, 108]⟩, .string ⟨#[97, 98, 99]⟩]) rfl (by kernel_rfl) ?_
  refine wpList_known (v := .agg #[.string ⟨#[100, 105, 118]⟩, .string ⟨#[97, 98, 99]⟩]) rfl (by kernel_rfl) ?_
  refine wpList_known (v := .agg #[.string ⟨#[114, 101, 109]⟩, .string ⟨#[97, 98, 99]⟩]) rfl (by kernel_rfl) ?_
  refine wpList_known (v := .agg #[.string ⟨#[97, 110, 100]⟩, .string ⟨#[97, 98, 99]⟩]) rfl (by kernel_rfl) ?_
  refine wpList_known (v := .agg #[.string ⟨#[111, 114]⟩, .string ⟨#[97, 98, 99]⟩]) rfl (by kernel_rfl) ?_
  refine wpList_known (v := .agg #[.string ⟨#[120, 111, 114]⟩, .string ⟨#[97, 98, 99]⟩]) rfl (by kernel_rfl) ?_
  refine wpList_known (v := .agg #[.string ⟨#[115, 104, 108]⟩, .string ⟨#[97, 98, 99]⟩]) rfl (by kernel_rfl) ?_
  refine wpList_known (v := .agg #[.string ⟨#[115, 104, 114]⟩, .string ⟨#[97, 98, 99]⟩]) rfl (by kernel_rfl) ?_
  refine wpList_known (v := .agg #[.string ⟨#[97, 100, 100, 105]⟩, .string ⟨#[97, 98, 105]⟩]) rfl (by kernel_rfl) ?_
  refine wpList_known (v := .agg #[.string ⟨#[115, 108, 116]⟩, .string ⟨#[97, 98, 99]⟩]) rfl (by kernel_rfl) ?_
  refine wpList_known (v := .agg #[.string ⟨#[115, 108, 116, 117]⟩, .string ⟨#[97, 98, 99]⟩]) rfl (by kernel_rfl) ?_
  refine wpList_known (v := .agg #[.string ⟨#[115, 101, 113]⟩, .string ⟨#[97, 98, 99]⟩]) rfl (by kernel_rfl) ?_
  refine wpList_known (v := .agg #[.string ⟨#[106, 109, 112]⟩, .string ⟨#[116]⟩]) rfl (by kernel_rfl) ?_
  refine wpList_known (v := .agg #[.string ⟨#[98, 101, 113, 122]⟩, .string ⟨#[97, 116]⟩]) rfl (by kernel_rfl) ?_
  refine wpList_known (v := .agg #[.string ⟨#[98, 110, 101, 122]⟩, .string ⟨#[97, 116]⟩]) rfl (by kernel_rfl) ?_
  refine wpList_known (v := .agg #[.string ⟨#[106, 97, 108]⟩, .string ⟨#[97, 116]⟩]) rfl (by kernel_rfl) ?_
  refine wpList_known (v := .agg #[.string ⟨#[106, 114]⟩, .string ⟨#[97]⟩]) rfl (by kernel_rfl) ?_
  refine wpList_known (v := .agg #[.string ⟨#[108, 100]⟩, .string ⟨#[97, 98, 105]⟩]) rfl (by kernel_rfl) ?_
  refine wpList_known (v := .agg #[.string ⟨#[115, 116]⟩, .string ⟨#[97, 98, 105]⟩]) rfl (by kernel_rfl) ?_
  refine wpList_known (v := .agg #[.string ⟨#[115, 121, 115]⟩, .string ⟨#[105]⟩]) rfl (by kernel_rfl) ?_
  refine wpList_known (v := .agg #[.string ⟨#[121, 105, 101, 108, 100]⟩, .string ⟨#[]⟩]) rfl (by kernel_rfl) ?_
  refine wpList_known (v := .agg #[.string ⟨#[110, 111, 112]⟩, .string ⟨#[]⟩]) rfl (by kernel_rfl) ?_
  refine wpList_known (v := .agg tabV) rfl (by kernel_rfl) ?_
  refine wpList_store_known (p := .pointer (some ⟨w.heap.size, 0, none⟩)) (v := .agg tabV) rfl rfl (by kernel_rfl) (by kernel_rfl) hst ?_
  refine wpList_nil ?_
  generalize hact : Act.put _ _ _ = act
  have h0 : act.tmps.getD 0 undef = .pointer (some ⟨w.heap.size, 0, none⟩) ∧ act.defers = [] := by rw [← hact]; exact ⟨by kernel_rfl, by kernel_rfl⟩
  clear hact
  obtain ⟨tm, df⟩ := act
  obtain ⟨h0, h1⟩ := h0
  simp only at h0 h1
  subst h1
  go_wp2
  refine bodyPost_ret (v := .agg tabV) (results_cell_row Tryz.results41 tm _ w.heap.size 86 tabV (0, 0) _ h0 (heap_alloc_last w _) Tryz.underlying86 rfl hsz) rfl ⟨rfl, (Below.refl _ _).alloc (Nat.le_refl _) _⟩
theorem tab_index : ∀ (k : Nat) (_ : k < 28) (W : World), (Instr.index 86 (.agg tabV) (.int .i64 k)).run Tryz.prog W = .ok (.agg #[.string ⟨(fmtN k).1.toArray⟩, .string ⟨(opsL k).toArray⟩]) W
  | 0, _ => fun W => by kernel_rfl
  | 1, _ => fun W => by kernel_rfl
  | 2, _ => fun W => by kernel_rfl
  | 3, _ => fun W => by kernel_rfl
  | 4, _ => fun W => by kernel_rfl
  | 5, _ => fun W => by kernel_rfl
  | 6, _ => fun W => by kernel_rfl
  | 7, _ => fun W => by kernel_rfl
  | 8, _ => fun W => by kernel_rfl
  | 9, _ => fun W => by kernel_rfl
  | 10, _ => fun W => by kernel_rfl
  | 11, _ => fun W => by kernel_rfl
  | 12, _ => fun W => by kernel_rfl
  | 13, _ => fun W => by kernel_rfl
  | 14, _ => fun W => by kernel_rfl
  | 15, _ => fun W => by kernel_rfl
  | 16, _ => fun W => by kernel_rfl
  | 17, _ => fun W => by kernel_rfl
  | 18, _ => fun W => by kernel_rfl
  | 19, _ => fun W => by kernel_rfl
  | 20, _ => fun W => by kernel_rfl
  | 21, _ => fun W => by kernel_rfl
  | 22, _ => fun W => by kernel_rfl
  | 23, _ => fun W => by kernel_rfl
  | 24, _ => fun W => by kernel_rfl
  | 25, _ => fun W => by kernel_rfl
  | 26, _ => fun W => by kernel_rfl
  | 27, _ => fun W => by kernel_rfl
  | n + 28, h => absurd h (by omega)
theorem pair_index (a b : Value) (W : World) : (Instr.index 85 (.agg #[a, b]) (.int .i64 1)).run Tryz.prog W = .ok b W := by kernel_rfl
theorem operands_ref (k : Nat) (hk : k < 28) (w : World) : Calls Tryz.prog 42 #[.int .i64 k] w fun e w' => e = .returned (.string ⟨(opsL k).toArray⟩) ∧ Below w.heap.size w w' := by
  have HT := Lib.hid fun W => table_any W
  have HI := tab_index k hk
  have hp := pair_index (.string ⟨(fmtN k).1.toArray⟩) (.string ⟨(opsL k).toArray⟩)
  generalize tabV = tv at *
  generalize opsL k = ol at *
  generalize (fmtN k).1 = fs at *
  go_enter Tryz.func42, Tryz.ntmps42
  go_wp2_with fail
  go_fit (HT.out _)
  rintro e w1 ⟨rfl, hb1⟩
  have HB := Lib.hid hb1
  clear hb1
  go_wp2
  go_ret
  exact ⟨rfl, HB.out⟩
end Go.Proofs.YtcmohijjpnebpaaGreatDoor
