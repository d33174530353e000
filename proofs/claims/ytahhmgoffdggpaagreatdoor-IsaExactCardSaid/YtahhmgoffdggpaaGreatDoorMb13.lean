/-
  isa.Validate, at whatever program.
  Conditions: the table of formats lies as the program's start lays it; Imm is a number of 32 bits.
  The assembler's method resolve.
  Conditions: as the assembler's statements leave the lists (Rw).
  The closure that assemble defers: where nothing has been thrown, and where a failure has.
  Conditions: none beyond what each theorem says.
-/
import Derived.Test.YtahhmgoffdggpaaGreatDoorMb3
import Derived.Test.YtahhmgoffdggpaaGreatDoorMb7
import Derived.Test.YtahhmgoffdggpaaGreatDoorMb12
import Derived.Test.YtahhmgoffdggpaaGreatDoorMb8
import Derived.Defers
import Derived.Recover
import Derived.Tactics2
import Derived.Laws.Pointers
namespace Go.Proofs.YtahhmgoffdggpaaGreatDoor

open Go.RowKit

def ImmOk (x : GIns) : Prop := -2147483648 ≤ x.imm ∧ x.imm ≤ 2147483647
theorem GRow.ins {w : World} {B : Nat} {A : Option Addr} {ps : List GIns} (h : GRow GIns.cells 5 w B A ps) {k : Nat} (hk : k < ps.length) : ∃ b off, A = some ⟨b, off, none⟩ ∧ b < B ∧
    w.cell? ⟨b, off + k * 5, none⟩ = some (.int .i64 ps[k].op) ∧ w.cell? ⟨b, off + k * 5 + 1, none⟩ = some (.int .i64 ps[k].a) ∧ w.cell? ⟨b, off + k * 5 + 2, none⟩ = some (.int .i64 ps[k].b) ∧ w.cell? ⟨b, off + k * 5 + 3, none⟩ = some (.int .i64 ps[k].c) ∧ w.cell? ⟨b, off + k * 5 + 4, none⟩ = some (.int .i32 ps[k].imm) := by
  obtain ⟨b, off, rfl, hb, hc⟩ := h (by omega)
  exact ⟨b, off, rfl, hb, hc k hk 0 _ rfl, hc k hk 1 _ rfl, hc k hk 2 _ rfl, hc k hk 3 _ rfl, hc k hk 4 _ rfl⟩
set_option maxRecDepth 50000 in
set_option maxHeartbeats 1000000 in
theorem validate_any (ps : List GIns) (A : Option Addr) (c : Nat) (w : World) (hG : GlobF w) (h : GRow GIns.cells 5 w w.heap.size A ps) (hi : ∀ x ∈ ps, ImmOk x) :
    Calls Tryz.prog 11 #[.slice A ps.length c] w fun e w' => e = .returned (.int .i64 (valP ps)) ∧ Below w.heap.size w w' := by
  have HG := Lib.hid hG
  have HR := Lib.hid h
  have HI := Lib.hid hi
  have HD : Hid (valP ps = if ps.length = 0 ∨ 4096 < ps.length then 15 else valL ps.length ps) := Lib.hid rfl
  generalize valP ps = er at *
  clear hG h hi
  by_cases h0 : ps.length = 0
  · have HE : Hid (er = 15) := Lib.hid (by rw [HD.out, if_pos (.inl h0)])
    have f0 : ((ps.length : Int) == 0) = true := by simp [h0]
    have H0 := Lib.hid h0
    clear h0
    generalize ps.length = n at *
    go_enter Tryz.func11, Tryz.ntmps11
    go_wp2
    go_ret
    exact ⟨ret_int HE.out.symm, Below.refl _ _⟩
  have f0 : ¬ (ps.length : Int) = 0 := by omega
  by_cases h1 : 4096 < ps.length
  · have HE : Hid (er = 15) := Lib.hid (by rw [HD.out, if_pos (.inr h1)])
    have f1 : decide ((4096 : Int) < ps.length) = true := by simp; omega
    have f1' : (4096 : Int) < ps.length := by omega
    generalize ps.length = n at *
    go_enter Tryz.func11, Tryz.ntmps11
    go_wp2
    go_ret
    exact ⟨ret_int HE.out.symm, Below.refl _ _⟩
  have f1 : decide ((4096 : Int) < ps.length) = false := by simp; omega
  have f1' : ¬ (4096 : Int) < ps.length := by omega
  rw [if_neg (by omega)] at HD
  have HL : Hid (ps.length ≤ 4096) := Lib.hid (by omega)
  go_enter Tryz.func11, Tryz.ntmps11
  go_wp2
  clear f0 f1 f1' h0 h1
  go_loopw [16] (fun vi wr => ∃ k : Nat, vi = .int .i64 k ∧ k ≤ ps.length ∧ Hid (er = valL ps.length (ps.drop k)) ∧ Hid (Below w.heap.size w wr)) (fun vi _ => ps.length - (intOf vi).toNat)
  case atStart => exact ⟨0, rfl, Nat.zero_le _, Lib.hid (by simpa using HD.out), Lib.hid (Below.refl _ _)⟩
  case round =>
    obtain ⟨k, rfl, hk, HT, HB⟩ := hrel
    have hL := HL.out
    rcases Nat.lt_or_ge k ps.length with hlt | hge
    · obtain ⟨b, off, rfl, hb, x0, x1, x2, x3, x4⟩ := (HR.out.keep (w' := wr) (fun g hg => HB.out.block g hg)).ins hlt
      have HT2 : Hid (er = if chkI ps[k] ps.length ≠ 0 then chkI ps[k] ps.length else valL ps.length (ps.drop (k + 1))) := Lib.hid (by rw [HT.out, List.drop_eq_getElem_cons hlt, valL])
      have HC := Lib.hid fun W hW => check_any ps[k] ps.length W hW (HI.out _ (List.getElem_mem hlt))
      have hbw : b < wr.heap.size := by have := HB.out.size; omega
      have HGW := Lib.hid (HG.out.next HB.out)
      have hs := HB.out.size
      generalize chkI ps[k] ps.length = q at *
      generalize ps[k] = x at *
      obtain ⟨xo, xa, xb, xc, xi⟩ := x
      simp only [GIns.val] at *
      clear HT
      go_wp2_with fail
      go_fit (HC.out _ (HGW.out.next ((Below.refl _ _).alloc (Nat.le_refl _) _)))
      rintro e w2 ⟨rfl, hb2⟩
      have HB2 := Lib.hid (HB.out.trans ((bel_alloc (Below.refl _ wr) hb2).mono hs))
      clear hb2 HC x0 x1 x2 x3 x4 HGW
      by_cases hq : q = 0
      · have f2 : (q != 0) = false := by simp [hq]
        have HT3 : Hid (er = valL ps.length (ps.drop (k + 1))) := Lib.hid (by rw [HT2.out, if_neg (by omega)])
        clear hq
        go_wp2
        go_round
        case rel => exact ⟨k + 1, by go_num, by omega, HT3, HB2⟩
        case measure => simp [intOf]; omega
      · have f2 : (q != 0) = true := by simp [hq]
        have HT3 : Hid (er = q) := Lib.hid (by rw [HT2.out, if_pos hq])
        clear hq
        go_wp2
        go_ret
        exact ⟨ret_int HT3.out.symm, HB2.out⟩
    · have HE : Hid (er = 0) := Lib.hid (by rw [HT.out, List.drop_eq_nil_of_le hge]; rfl)
      go_wp2
      go_ret
      exact ⟨ret_int HE.out.symm, HB.out⟩
end Go.Proofs.YtahhmgoffdggpaaGreatDoor


namespace Go.Proofs.YtahhmgoffdggpaaGreatDoor

open Go.RowKit

theorem gcells_imm (v : Int) : ∀ (l : List GIns) (i : Nat), gcells GIns.cells (l.modify i fun x => { x with imm := v }) = if i < l.length then (gcells GIns.cells l).set (i * 5 + 4) (.int .i32 v) else gcells GIns.cells l
  | [], i => by simp
  | x :: r, 0 => rfl
  | x :: r, i + 1 => by
    have ih := gcells_imm v r i
    show x.cells ++ gcells GIns.cells (r.modify i _) = if i + 1 < r.length + 1 then (x.cells ++ gcells GIns.cells r).set ((i + 1) * 5 + 4) _ else x.cells ++ gcells GIns.cells r
    rw [ih]
    by_cases h : i < r.length
    · rw [if_pos h, if_pos (by omega), show (i + 1) * 5 + 4 = i * 5 + 4 + 5 by omega]; rfl
    · rw [if_neg h, if_neg (by omega)]
theorem OwnG.setImm {T : TypeId} {w : World} {base g cap n : Nat} {l : List GIns} (h : OwnG GIns.cells T 5 w base (.slice (some ⟨g, 0, none⟩) n cap) l) {i : Nat} (hi : i < l.length) (v : Int) :
    OwnG GIns.cells T 5 (w.setCell ⟨g, i * 5 + 4, none⟩ (.int .i32 v)) base (.slice (some ⟨g, 0, none⟩) n cap) (l.modify i fun x => { x with imm := v }) := by
  refine ⟨gcells_len GIns.len _, ?_⟩
  rcases h.2 with ⟨hh, _⟩ | ⟨g', cap', cur, e, hb, hh, hn', hm, hs, ht⟩
  · cases hh
  · cases e
    refine .inr ⟨g, cap, _, by rw [List.length_modify], hb, heap_set hh _, by rw [List.length_modify]; exact hn', hm, by simp [hs], ?_⟩
    rw [List.length_modify, gcells_imm, if_pos hi, ← ht]
    simp [List.take_set]
theorem StX.pvA {base p : Nat} {O : Nat → Prop} {w : World} {s : ASt} {A : Option Addr} {c m : Nat} {pv ov : Value} (h : StX base p O w s A c pv m ov) (hp : 0 < s.prog.length) : ∃ g cP, pv = .slice (some ⟨g, 0, none⟩) s.prog.length cP := by
  rcases h.prog.2 with ⟨_, h0⟩ | ⟨g, cap, cur, e, _⟩
  · omega
  · exact ⟨g, cap, e⟩
/-- Imm of an instruction is stored anew. -/
theorem StX.setImm {base p : Nat} {O : Nat → Prop} {w : World} {s : ASt} {A : Option Addr} {c m g cP n : Nat} {ov : Value} (h : StX base p O w s A c (.slice (some ⟨g, 0, none⟩) n cP) m ov) {i : Nat} (hi : i < s.prog.length) (v : Int) :
    StX base p O (w.setCell ⟨g, i * 5 + 4, none⟩ (.int .i32 v)) { s with prog := s.prog.modify i fun x => { x with imm := v } } A c (.slice (some ⟨g, 0, none⟩) n cP) m ov := by
  have hgO : O g := h.opv g rfl
  have hgb : base ≤ g := h.lo g hgO
  have hgp : p ≠ g := fun e => h.hpv.1 (by rw [e]; rfl)
  have hgm : m ≠ g := fun e => h.hpv.2 (by rw [e]; rfl)
  have hk : ∀ x, x ≠ g → (w.setCell ⟨g, i * 5 + 4, none⟩ (.int .i32 v)).heap[x]? = w.heap[x]? := fun x hx => Below.heap_setCell _ _ _ x hx
  exact { h with
    hi := fun x hx => by have := h.hi x hx; simpa using this
    bw := by simpa using h.bw
    hh := (hk p hgp).trans h.hh
    row := h.row.keep fun x hx => hk x (by omega)
    prog := h.prog.setImm hi v
    refs := h.refs.keep fun x hx => hk x (fun e => h.hpo g rfl (by rw [hx, e]))
    labs := h.labs.keep (hk m hgm) }
theorem GRow.ref {w : World} {B : Nat} {A : Option Addr} {rs : List GRef} (h : GRow GRef.cells 6 w B A rs) {k : Nat} (hk : k < rs.length) : ∃ b off, A = some ⟨b, off, none⟩ ∧ b < B ∧
    w.cell? ⟨b, off + k * 6, none⟩ = some (.int .i64 rs[k].tok.kind) ∧ w.cell? ⟨b, off + k * 6 + 1, none⟩ = some (.string ⟨rs[k].tok.text.toArray⟩) ∧ w.cell? ⟨b, off + k * 6 + 2, none⟩ = some (.int .u64 rs[k].tok.value) ∧ w.cell? ⟨b, off + k * 6 + 3, none⟩ = some (.int .i64 rs[k].tok.line) ∧ w.cell? ⟨b, off + k * 6 + 4, none⟩ = some (.int .i64 rs[k].tok.col) ∧ w.cell? ⟨b, off + k * 6 + 5, none⟩ = some (.int .i64 rs[k].ix) := by
  obtain ⟨b, off, rfl, hb, hc⟩ := h (by omega)
  exact ⟨b, off, rfl, hb, hc k hk 0 _ rfl, hc k hk 1 _ rfl, hc k hk 2 _ rfl, hc k hk 3 _ rfl, hc k hk 4 _ rfl, hc k hk 5 _ rfl⟩
structure RsI (base p : Nat) (O : Nat → Prop) (w : World) (s : ASt) (A : Option Addr) (c : Nat) (pv : Value) (m : Nat) (ov : Value) (k : Nat) (sk : ASt) (wr : World) : Prop where
  stx : StX base p O wr sk A c pv m ov
  frm : Fr w O wr O
  len : sk.prog.length = s.prog.length
  refs : sk.refs = s.refs
  labs : sk.labs = s.labs
  ts : sk.ts = s.ts
  eqn : aResolve s.refs s = aResolve (s.refs.drop k) sk
set_option maxRecDepth 50000 in
set_option maxHeartbeats 1000000 in
theorem resolve_any (base p : Nat) (O : Nat → Prop) (s : ASt) (w : World) (h : St base p O w s) (hr : Rw s) (hm : mu s ≤ 300000) :
    Calls Tryz.prog 54 #[.pointer (some ⟨p, 0, none⟩)] w (MEnd base p O w s (fun _ => .tuple #[]) (aResolve s.refs s)) := by
  have HBB := Lib.hid h.lo
  have HR := Lib.hid hr
  have HRL : Hid (s.refs.length ≤ 300000) := Lib.hid (by unfold mu at hm; omega)
  obtain ⟨A, c, pv, m, ov, hX⟩ := h
  have HX := Lib.hid hX
  have HI0 : Hid (RsI base p O w s A c pv m ov 0 s w) := Lib.hid ⟨hX, Fr.refl _ _, rfl, rfl, rfl, rfl, rfl⟩
  obtain ⟨q, HQ0⟩ : ∃ q, Hid (aResolve s.refs s = q) := ⟨_, Lib.hid rfl⟩
  rw [HQ0.out]
  obtain ⟨p0, p1, p2, p3, z0, z1, z2, z3⟩ := hX.cells
  obtain ⟨AO, cO, hov, _⟩ := hX.refs.row GRef.len
  subst hov
  obtain ⟨hbp, hpw⟩ := hX.lt
  clear hX hr hm
  go_enter Tryz.func54, Tryz.ntmps54
  go_wp2
  clear p0 p1 p2 p3 z0 z1 z2 z3
  go_loopw [11] (fun vi wr => ∃ (k : Nat) (sk : ASt), vi = .int .i64 k ∧ k ≤ s.refs.length ∧ Hid (RsI base p O w s A c pv m (.slice AO s.refs.length cO) k sk wr)) (fun vi _ => s.refs.length - (intOf vi).toNat)
  case atStart => exact ⟨0, s, rfl, Nat.zero_le _, HI0⟩
  case round =>
    obtain ⟨k, sk, rfl, hk, HI⟩ := hrel
    clear HI0
    have hkb : k ≤ 300000 := by have := HRL.out; omega
    rcases Nat.lt_or_ge k s.refs.length with hlt | hge
    · have f0 : decide ((k : Int) < s.refs.length) = true := by simp; omega
      have hX := HI.out.stx
      obtain ⟨AO2, cO2, e2, _, _, hrow⟩ := hX.refs.row GRef.len
      rw [HI.out.refs] at e2 hrow
      cases e2
      obtain ⟨b, off, rfl, hb, x0, x1, x2, x3, x4, x5⟩ := hrow.ref hlt
      have HRR := Lib.hid (HR.out.refs _ (List.getElem_mem hlt))
      have HE : Hid (q = aResolve (s.refs[k] :: s.refs.drop (k + 1)) sk) := Lib.hid (by rw [← HQ0.out, HI.out.eqn, List.drop_eq_getElem_cons hlt])
      have HEK : Hid (∀ sk2, q = aResolve (s.refs.drop (k + 1)) sk2 → aResolve s.refs s = aResolve (s.refs.drop (k + 1)) sk2) := Lib.hid fun _ e => HQ0.out.trans e
      generalize s.refs[k] = rf at *
      obtain ⟨⟨tk, tt, tv, tl, tc⟩, ix⟩ := rf
      obtain ⟨i0, i1, i2⟩ := HRR.out
      simp only at i0 i1 i2 x0 x1 x2 x3 x4 x5
      obtain ⟨j, rfl⟩ : ∃ j : Nat, ix = j := ⟨ix.toNat, by omega⟩
      have hj : j < s.prog.length := by omega
      clear hrow hX HRR i0 i1
      have hbw : b < wr.heap.size := hb
      have hsl := HI.out.len
      have hXn := (HI.out.stx.lit (.cells #[.int .i64 tk, .string ⟨tt.toArray⟩, .int .u64 tv, .int .i64 tl, .int .i64 tc, .int .i64 (j : Int)] 126)).next ((Below.refl _ _).drew)
      have HXN := Lib.hid hXn
      have HFN := Lib.hid ((HI.out.frm.lit (.cells #[.int .i64 tk, .string ⟨tt.toArray⟩, .int .u64 tv, .int .i64 tl, .int .i64 tc, .int .i64 (j : Int)] 126)).next ((Below.refl _ _).drew))
      have HBW := Lib.hid hXn.bw
      have hn : ∀ i : Nat, (wr.alloc (.cells #[.int .i64 tk, .string ⟨tt.toArray⟩, .int .u64 tv, .int .i64 tl, .int .i64 tc, .int .i64 (j : Int)] 126)).drew.cell? ⟨wr.heap.size, i, none⟩ = (#[.int .i64 tk, .string ⟨tt.toArray⟩, .int .u64 tv, .int .i64 tl, .int .i64 tc, .int .i64 (j : Int)] : Array Value)[i]? := fun i => World.cell?_alloc_new _ _ _ _
      have y0 := hn 0
      have y1 := hn 1
      have y2 := hn 2
      have y3 := hn 3
      have y4 := hn 4
      have y5 := hn 5
      simp only [List.getElem?_toArray, List.getElem?_cons_zero, List.getElem?_cons_succ] at y0 y1 y2 y3 y4 y5
      have HTH := Lib.hid fun W n => throw_any ⟨tk, tt, tv, tl, tc⟩ n W
      simp only [GTok.tval] at HTH
      obtain ⟨g, cP, hpv⟩ := hXn.pvA (by omega)
      subst hpv
      obtain ⟨p0, p1, p2, p3, z0, z1, z2, z3⟩ := HI.out.stx.cells
      have hpw2 : p < wr.heap.size := HI.out.stx.lt.2
      have HSL := Lib.hid hsl
      clear hsl
      by_cases hk1 : tk = 1
      · subst hk1
        have hlk := hXn.look (l := tt) (by unfold maxLen; omega)
        have HE2 : Hid (q = match labOf sk.labs tt with
          | none => thrAt ⟨1, tt, tv, tl, tc⟩ 72
          | some n => aResolve (s.refs.drop (k + 1)) { sk with prog := sk.prog.modify j fun x => { x with imm := (n : Int) } }) := Lib.hid HE.out
        have HLM : Hid (∀ n, labOf sk.labs tt = some n → n ≤ 4096) := Lib.hid fun n hn => by
          obtain ⟨x, hx, e⟩ := labOf_mem hn
          rw [HI.out.labs] at hx
          rw [← e]; exact HR.out.labs x hx
        clear hn HE
        generalize labOf sk.labs tt = ln at *
        cases ln with
        | none =>
          have HQ : Hid (q = thrAt ⟨1, tt, tv, tl, tc⟩ 72) := Lib.hid HE2.out
          simp only [Option.getD_none, Option.isSome_none] at hlk
          go_upto_region 4 with fail
          go_region
          generalize (wr.alloc (.cells (#[.int .i64 1, .string ⟨tt.toArray⟩, .int .u64 tv, .int .i64 tl, .int .i64 tc, .int .i64 (j : Int)]) 126)).drew = w2 at *
          clear hlk hXn p0 p1 p2 p3 z0 z1 z2 z3 x0 x1 x2 x3 x4 x5 HX HLM HE2 HEK HI
          go_wp2_with fail
          go_fit (HTH.out _ 72)
          rintro e w3 ⟨rfl, hb3⟩
          have HB3 := Lib.hid ((HFN.out.bel HBB.out.1 HBB.out.2.2).trans (hb3.mono HBW.out))
          clear hb3
          go_wp2
          refine ⟨rfl, ?_⟩
          rw [HQ.out]
          exact ⟨rfl, HB3.out⟩
        | some n =>
          have HE3 : Hid (q = aResolve (s.refs.drop (k + 1)) { sk with prog := sk.prog.modify j fun x => { x with imm := (n : Int) } }) := Lib.hid HE2.out
          have hn4 := HLM.out n rfl
          have HW : IntKind.i32.wrap (n : Int) = n := IntWalk.i32_in _ (by omega)
          simp only [Option.getD_some, Option.isSome_some] at hlk
          have hjk : j < sk.prog.length := by have := HSL.out; omega
          have hji : (j : Int) < sk.prog.length := by omega
          go_upto_region 4 with fail
          go_region
          generalize hw2 : (wr.alloc (.cells (#[.int .i64 1, .string ⟨tt.toArray⟩, .int .u64 tv, .int .i64 tl, .int .i64 tc, .int .i64 (j : Int)]) 126)).drew = w2 at *
          clear hlk p0 p1 p2 p3 z0 z1 z2 z3 x0 x1 x2 x3 x4 x5 HX HLM HE2 hw2 hXn HTH
          have hX3 := HXN.out.next ((Below.refl _ _).drew)
          obtain ⟨p0, p1, p2, p3, z0, z1, z2, z3⟩ := hX3.cells
          have hpw3 : p < w2.heap.size := HXN.out.lt.2
          obtain ⟨AP, cP2, ePv, hcc, hcm, hPR⟩ := hX3.prog.row GIns.len
          injection ePv with ea eb ec
          subst ea ec
          obtain ⟨b9, off9, e9, hb9, _, _, _, _, w4⟩ := hPR.ins hjk
          cases e9
          have hgf : w2.drew.frozen? ⟨g, j * 5 + 4, none⟩ = false := by
            rcases hX3.prog.2 with ⟨hq, _⟩ | ⟨g', cap', cur, e, hb8, hh8, _⟩
            · cases hq
            · cases e
              exact Lib.frozen_of_heap hh8 _
          simp only [Nat.zero_add] at w4
          have hset := hX3.setImm hjk (n : Int)
          have HI3 : Hid (RsI base p O w s A c (.slice (some ⟨g, 0, none⟩) sk.prog.length cP) m (.slice (some ⟨b, off, none⟩) s.refs.length cO) (k + 1) { sk with prog := sk.prog.modify j fun x => { x with imm := (n : Int) } } (w2.drew.setCell ⟨g, j * 5 + 4, none⟩ (.int .i32 n))) := Lib.hid
            ⟨hset, (HFN.out.next ((Below.refl _ _).drew)).set _ _ (.inl (hX3.opv g rfl)), by rw [← HI.out.len]; exact List.length_modify _ _ _, HI.out.refs, HI.out.labs, HI.out.ts, HEK.out _ HE3.out⟩
          clear hset hX3 hPR
          go_upto_region 7 with fail
          go_region
          go_wp2
          go_round
          case rel => exact ⟨k + 1, _, by go_num, by omega, HI3⟩
          case measure => simp [intOf]; omega
      · have f1 : (tk == 1) = false := by simp [hk1]
        have HE2 : Hid (q = if (sk.prog.length : Int) ≤ tv then thrAt ⟨tk, tt, tv, tl, tc⟩ 71 else aResolve (s.refs.drop (k + 1)) sk) := Lib.hid (by rw [HE.out, aResolve, if_neg hk1])
        have HU : IntKind.u64.wrap (sk.prog.length : Int) = sk.prog.length := by
          have := HR.out.few
          have := HSL.out
          show (sk.prog.length : Int) % 18446744073709551616 = _
          omega
        have hXd := HXN.out.next ((Below.refl _ _).drew)
        obtain ⟨r0, r1, r2, r3, u0, u1, u2, u3⟩ := hXd.cells
        clear hn HE p0 p1 p2 p3 z0 z1 z2 z3
        obtain ⟨p0, p1, p2, p3, z0, z1, z2, z3⟩ := HI.out.stx.cells
        by_cases hle : (sk.prog.length : Int) ≤ tv
        · have HQ : Hid (q = thrAt ⟨tk, tt, tv, tl, tc⟩ 71) := Lib.hid (by rw [HE2.out, if_pos hle])
          have f2 : decide ((sk.prog.length : Int) ≤ tv) = true := by simp [hle]
          go_upto_region 8 with fail
          go_region
          generalize (wr.alloc (.cells (#[.int .i64 tk, .string ⟨tt.toArray⟩, .int .u64 tv, .int .i64 tl, .int .i64 tc, .int .i64 (j : Int)]) 126)).drew = w2 at *
          clear hXn hXd r0 r1 r2 r3 u0 u1 u2 u3 p0 p1 p2 p3 z0 z1 z2 z3 x0 x1 x2 x3 x4 x5 HX HE2 HEK HI
          go_wp2_with fail
          go_fit (HTH.out _ 71)
          rintro e w3 ⟨rfl, hb3⟩
          have HB3 := Lib.hid ((HFN.out.bel HBB.out.1 HBB.out.2.2).trans (hb3.mono HBW.out))
          clear hb3
          go_wp2
          refine ⟨rfl, ?_⟩
          rw [HQ.out]
          exact ⟨rfl, HB3.out⟩
        · have HE3 : Hid (q = aResolve (s.refs.drop (k + 1)) sk) := Lib.hid (by rw [HE2.out, if_neg hle])
          have f2 : decide ((sk.prog.length : Int) ≤ tv) = false := by simp; omega
          have HI3 : Hid (RsI base p O w s A c (.slice (some ⟨g, 0, none⟩) sk.prog.length cP) m (.slice (some ⟨b, off, none⟩) s.refs.length cO) (k + 1) sk (wr.alloc (.cells (#[.int .i64 tk, .string ⟨tt.toArray⟩, .int .u64 tv, .int .i64 tl, .int .i64 tc, .int .i64 (j : Int)]) 126)).drew) := Lib.hid
            ⟨HXN.out, HFN.out, HI.out.len, HI.out.refs, HI.out.labs, HI.out.ts, HEK.out _ HE3.out⟩
          clear hXn hXd r0 r1 r2 r3 u0 u1 u2 u3
          go_upto_region 8 with fail
          go_region
          go_wp2
          go_round
          case rel => exact ⟨k + 1, sk, by go_num, by omega, HI3⟩
          case measure => simp [intOf]; omega
    · have HE : Hid (q = .ok () sk) := Lib.hid (by rw [← HQ0.out, HI.out.eqn, List.drop_eq_nil_of_le hge]; rfl)
      have HEND : Hid (MEnd base p O w s (fun _ => .tuple #[]) q (.returned (.tuple #[])) wr) := Lib.hid (by
        rw [HE.out]
        refine ⟨rfl, ?_, O, ⟨_, _, _, _, _, HI.out.stx⟩, HI.out.frm⟩
        unfold mu
        rw [HI.out.len, HI.out.refs, HI.out.labs, HI.out.ts]; exact Nat.le_refl _)
      go_wp2
      go_end0
      exact HEND.out
end Go.Proofs.YtahhmgoffdggpaaGreatDoor


namespace Go.Proofs.YtahhmgoffdggpaaGreatDoor

open Go.RowKit

theorem wp_cast {P : Program} {c : Code} {Q : Exit → Act → World → Prop} {a : Act} {w : World} {tm : Array Value} (h : a.tmps = tm) (hd : a.defers = []) (h2 : Code.wp P c Q { tmps := tm, defers := [] } w) : Code.wp P c Q a w := by
  cases a; simp only at h hd; subst h hd; exact h2
theorem ta_nil (w : World) : (Instr.typeAssert .nilIface 20 103 true).run Tryz.prog w = .ok (.tuple #[.agg #[.int .i64 0, .int .i64 0, .int .i64 0], .bool false]) w := by kernel_rfl
theorem ta_fail (l c x : Int) (w : World) : (Instr.typeAssert (failV l c x) 20 103 true).run Tryz.prog w = .ok (.tuple #[.agg #[.int .i64 l, .int .i64 c, .int .i64 x], .bool true]) w := by kernel_rfl
set_option maxRecDepth 50000 in
set_option maxHeartbeats 1000000 in
theorem catch_idle (p0 p1 p2 : Addr) (w : World) :
    CallsD Tryz.prog 52 #[.pointer (some p0), .pointer (some p1), .pointer (some p2)] .returning w fun e u' w' => e = .returned (.tuple #[]) ∧ u' = .returning ∧ Below w.heap.size w w' := by
  refine callsD_of_wpS Tryz.func52 rfl fun c₀ cs hu => ?_
  have hta := ta_nil
  apply wpS_seq
  apply wpS_region
  simp [wpOpsS, go_sem, recoverD, hu, Tryz.ntmps52, Exit.thenS, hta]
  apply wpS_seq
  apply wpS_region
  simp [wpOpsS, go_sem, Exit.thenS]
  refine wpS_cond (t := false) (by simp [Act.eval, Array.replicate]) ?_
  simp only [Bool.false_eq_true, if_false]
  refine wpS_of_wp (wp_skip ?_)
  have hb : Below w.heap.size w (w.alloc (.cells #[.int .i64 0, .int .i64 0, .int .i64 0] 103)) := (Below.refl _ _).alloc (Nat.le_refl _) _
  cases c₀
  simp_all [bodyPostS, results, Tryz.results52]
/-- The world behind the closure where a failure has been thrown: the results are stored. -/
def Caught (w : World) (p0 p1 p2 : Nat) (l c x : Int) (w' : World) : Prop :=
  w'.os = w.os ∧ w'.tape = w.tape ∧ w'.output = w.output ∧ w.heap.size ≤ w'.heap.size ∧ (∀ g, g < w.heap.size → g ≠ p0 → g ≠ p1 → g ≠ p2 → w'.heap[g]? = w.heap[g]?) ∧
    w'.cell? ⟨p0, 0, none⟩ = some (.slice none 0 0) ∧ w'.cell? ⟨p1, 0, none⟩ = some (.int .i64 l) ∧ w'.cell? ⟨p1, 1, none⟩ = some (.int .i64 c) ∧ w'.cell? ⟨p2, 0, none⟩ = some (.int .i64 x)
set_option maxRecDepth 50000 in
set_option maxHeartbeats 1000000 in
theorem catch_failure (p0 p1 p2 : Nat) (l c x : Int) (v0 v1 v2 v3 : Value) (older : List PanicEntry) (w : World) (h01 : p0 ≠ p1) (h02 : p0 ≠ p2) (h12 : p1 ≠ p2) (c0 : w.cell? ⟨p0, 0, none⟩ = some v0) (c1 : w.cell? ⟨p1, 0, none⟩ = some v1) (c2 : w.cell? ⟨p1, 1, none⟩ = some v2) (c3 : w.cell? ⟨p2, 0, none⟩ = some v3)
    (z0 : w.frozen? ⟨p0, 0, none⟩ = false) (z1 : w.frozen? ⟨p1, 0, none⟩ = false) (z2 : w.frozen? ⟨p1, 1, none⟩ = false) (z3 : w.frozen? ⟨p2, 0, none⟩ = false) :
    CallsD Tryz.prog 52 #[.pointer (some ⟨p0, 0, none⟩), .pointer (some ⟨p1, 0, none⟩), .pointer (some ⟨p2, 0, none⟩)] (.panicking ({ v := failV l c x, recovered := false } :: older)) w fun e u' w' =>
      e = .returned (.tuple #[]) ∧ u' = .panicking ({ v := failV l c x, recovered := true } :: older) ∧ Caught w p0 p1 p2 l c x w' := by
  refine callsD_of_wpS Tryz.func52 rfl fun c₀ cs hu => ?_
  have hta := ta_fail l c x
  apply wpS_seq
  apply wpS_region
  simp [wpOpsS, go_sem, recoverD, hu, Tryz.ntmps52, Exit.thenS, hta]
  apply wpS_seq
  apply wpS_region
  simp [wpOpsS, go_sem, Exit.thenS]
  refine wpS_cond (t := true) (by simp [Act.eval, Array.replicate]) ?_
  simp only [if_true]
  refine wpS_of_wp ?_
  have hl0 : p0 < w.heap.size := World.block_lt_of_cell? w ⟨p0, 0, none⟩ c0
  have hl1 : p1 < w.heap.size := World.block_lt_of_cell? w ⟨p1, 0, none⟩ c1
  have hl2 : p2 < w.heap.size := World.block_lt_of_cell? w ⟨p2, 0, none⟩ c3
  refine wp_cast (tm := #[.pointer (some ⟨p0, 0, none⟩), .pointer (some ⟨p1, 0, none⟩), .pointer (some ⟨p2, 0, none⟩), .pointer (some ⟨w.heap.size, 0, none⟩), .bool true, .tuple #[.agg #[.int .i64 l, .int .i64 c, .int .i64 x], .bool true], failV l c x, .tuple #[.agg #[.int .i64 l, .int .i64 c, .int .i64 x], .bool true], .agg #[.int .i64 l, .int .i64 c, .int .i64 x], .bool true, .bool true, undef, undef, undef, undef]) (by kernel_rfl) (by kernel_rfl) ?_
  have hC : Caught w p0 p1 p2 l c x (((((w.setCell ⟨p0, 0, none⟩ (.slice none 0 0)).setCell ⟨p1, 0, none⟩ (.int .i64 l)).setCell ⟨p1, 1, none⟩ (.int .i64 c)).setCell ⟨p2, 0, none⟩ (.int .i64 x)).alloc (.cells #[.int .i64 l, .int .i64 c, .int .i64 x] 103)).drew := by
    refine ⟨rfl, rfl, rfl, by simp, fun g hg n0 n1 n2 => ?_, ?_, ?_, ?_, ?_⟩
    · show (World.alloc _ _).heap[g]? = _
      rw [Below.heap_alloc _ _ _ (by simp; omega), Below.heap_setCell _ _ _ g n2, Below.heap_setCell _ _ _ g n1, Below.heap_setCell _ _ _ g n1, Below.heap_setCell _ _ _ g n0]
    · go_simp
    · go_simp
    · go_simp
    · go_simp
  go_region
  generalize (((((w.setCell ⟨p0, 0, none⟩ (.slice none 0 0)).setCell ⟨p1, 0, none⟩ (.int .i64 l)).setCell ⟨p1, 1, none⟩ (.int .i64 c)).setCell ⟨p2, 0, none⟩ (.int .i64 x)).alloc (.cells #[.int .i64 l, .int .i64 c, .int .i64 x] 103)).drew = w9 at *
  clear hta c0 c1 c2 c3 z0 z1 z2 z3 h01 h02 h12 hl0 hl1 hl2
  cases c₀
  simp only at hu
  subst hu
  exact ⟨rfl, _, rfl, .tuple #[], by simp [results, Tryz.results52], rfl, rfl, hC⟩
end Go.Proofs.YtahhmgoffdggpaaGreatDoor
