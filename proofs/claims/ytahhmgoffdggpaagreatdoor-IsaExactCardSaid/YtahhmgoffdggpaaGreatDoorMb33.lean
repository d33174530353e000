/-
  The law IsaLabels returns true, whatever the numbers and the prefix.
  Conditions: the listed variables lie as the program's start lays them.
  The reference's Jumps; lists changed in place, element by element; parts of a row.
  Conditions: as each theorem says.
  A region that leaves its order open, whose calls only make new memory: it may be walked in ONE order that is written out. What is read or computed is read as soon as it can be; its value holds in every later world, since later calls turn nothing that is there.
  Conditions: none beyond what each theorem says.
-/
import Derived.Test.YtahhmgoffdggpaaGreatDoorMb32
import Derived.Test.YtahhmgoffdggpaaGreatDoorMb31
import Derived.Test.YtahhmgoffdggpaaGreatDoorMb28
import Derived.OrdersHeld
import Derived.Below
import Derived.Deep.RegionHeld
namespace Go.Proofs.YtahhmgoffdggpaaGreatDoor

open Go.RowKit Go.Shelf

/-- The loop of IsaLabels, at the token i. -/
structure LbJ (w0 : World) (p : List UInt8) (T : List GTok) (i : Nat) (vu vw : Value) (wr : World) : Prop where
  two : Two2 w0.heap.size wr vu vw ((T.map (renG p)).take i) ((ren2G msW T).take i)
  bel : Below w0.heap.size w0 wr
theorem scan9 (ps : List GIns) (h : AllOk ps.length ps) (h2 : ps.length ≤ 12) (w : World) (hG : GlobP w) :
    Calls Tryz.prog 33 #[.string ⟨(disF ps ps.length).toArray⟩] w fun e w' => ∃ A c T, e = .returned (.tuple #[.slice A T.length c, .agg #[.int .i64 0, .int .i64 0], .int .i64 0]) ∧ GRow GTok.cells 5 w' w'.heap.size A T ∧ T.map GTok.bare = progB nmW nmW (tgt ps) 0 ps ∧ T.length ≤ 156 ∧ Below w.heap.size w w' := by
  have hlex := disF_lex h (by omega) ps.length (Nat.le_refl _)
  rw [List.take_length] at hlex
  have hl := disF_len ps h.imm (by omega) ps.length (Nat.le_refl _)
  obtain ⟨q, us, e, hb⟩ := hlex [] trivial (1, 1)
  rw [List.append_nil] at e
  have hsc : scan (disF ps ps.length) = .ok us := by
    unfold scan
    rw [if_neg (by omega), e]
    simp [lex, Res.app]
  have hS := scan_any (disF ps ps.length) w hG.1.1 (by unfold maxLen; omega)
  rw [hsc] at hS
  refine hS.mono ?_
  rintro e w' ⟨v, rfl, hown, hbl⟩
  have hown' : OwnK w' (w.heap.size + 1) v (us.map Tok.g) := hown
  obtain ⟨A, c, rfl, _, _, hrow⟩ := hown'.row GTok.len5
  have hbare : (us.map Tok.g).map GTok.bare = progB nmW nmW (tgt ps) 0 ps := by rw [List.map_map, ← hb]; rfl
  have hf := progB_few (dfn := nmW) (use := nmW) (tg := tgt ps) ps 0
  refine ⟨A, c, us.map Tok.g, rfl, hrow, hbare, ?_, hbl⟩
  have := congrArg List.length hbare
  rw [List.length_map] at this
  omega
/-- The block N holds the token t. -/
def TkB (w : World) (N : Nat) (t : GTok) : Prop := w.heap[N]? = some (.cells #[.int .i64 t.kind, .string ⟨t.text.toArray⟩, .int .u64 t.value, .int .i64 t.line, .int .i64 t.col] 80 (0, 0))
theorem TkB.cells {w : World} {N : Nat} {t : GTok} (h : TkB w N t) : w.cell? ⟨N, 0, none⟩ = some (.int .i64 t.kind) ∧ w.cell? ⟨N, 1, none⟩ = some (.string ⟨t.text.toArray⟩) ∧ w.cell? ⟨N, 2, none⟩ = some (.int .u64 t.value) ∧ w.cell? ⟨N, 3, none⟩ = some (.int .i64 t.line) ∧ w.cell? ⟨N, 4, none⟩ = some (.int .i64 t.col) := by
  refine ⟨?_, ?_, ?_, ?_, ?_⟩ <;> rw [Lib.cell_of_heap h] <;> rfl
theorem TkB.frz {w : World} {N : Nat} {t : GTok} (h : TkB w N t) (j : Nat) : w.frozen? ⟨N, j, none⟩ = false := Lib.frozen_of_heap h j
theorem TkB.lt {w : World} {N : Nat} {t : GTok} (h : TkB w N t) : N < w.heap.size := heap_lt h
/-- Two tokens in blocks of their own beside the two lists. -/
structure St9 (w4 : World) (vu vw : Value) (us ws : List GTok) (N M : Nat) (t1 t2 : GTok) (wz : World) : Prop where
  two : Two2 w4.heap.size wz vu vw us ws
  bel : Below w4.heap.size w4 wz
  tN : TkB wz N t1
  tM : TkB wz M t2
  ne : N ≠ M
  gN : w4.heap.size ≤ N
  gM : w4.heap.size ≤ M
  o1 : ∀ g, vu.ownBlock = some g → g ≠ N ∧ g ≠ M
  o2 : ∀ g, vw.ownBlock = some g → g ≠ N ∧ g ≠ M
theorem set_blk {w : World} {N k : Nat} (j : Nat) (v : Value) (h : k ≠ N) : (w.setCell ⟨N, j, none⟩ v).heap[k]? = w.heap[k]? := Below.heap_setCell w ⟨N, j, none⟩ v k h
theorem TkB.put {w : World} {N : Nat} {t : GTok} (h : TkB w N t) (x : List UInt8) : TkB (w.setCell ⟨N, 1, none⟩ (.string ⟨x.toArray⟩)) N { t with text := x } := by
  unfold TkB at *
  rw [Lib.heap_setCell_same h]
  rfl
theorem St9.put1 {w4 : World} {vu vw : Value} {us ws : List GTok} {N M : Nat} {t1 t2 : GTok} {wz : World} (h : St9 w4 vu vw us ws N M t1 t2 wz) (x : List UInt8) : St9 w4 vu vw us ws N M { t1 with text := x } t2 (wz.setCell ⟨N, 1, none⟩ (.string ⟨x.toArray⟩)) :=
  ⟨⟨h.two.u.keep fun g hg => set_blk _ _ (h.o1 g hg).1, h.two.v.keep fun g hg => set_blk _ _ (h.o2 g hg).1, h.two.ne⟩, h.bel.setCell (p := ⟨N, 1, none⟩) h.gN _, h.tN.put x, (set_blk _ _ (Ne.symm h.ne)).trans h.tM, h.ne, h.gN, h.gM, h.o1, h.o2⟩
theorem St9.put2 {w4 : World} {vu vw : Value} {us ws : List GTok} {N M : Nat} {t1 t2 : GTok} {wz : World} (h : St9 w4 vu vw us ws N M t1 t2 wz) (x : List UInt8) : St9 w4 vu vw us ws N M t1 { t2 with text := x } (wz.setCell ⟨M, 1, none⟩ (.string ⟨x.toArray⟩)) :=
  ⟨⟨h.two.u.keep fun g hg => set_blk _ _ (h.o1 g hg).2, h.two.v.keep fun g hg => set_blk _ _ (h.o2 g hg).2, h.two.ne⟩, h.bel.setCell (p := ⟨M, 1, none⟩) h.gM _, (set_blk _ _ h.ne).trans h.tN, h.tM.put x, h.ne, h.gN, h.gM, h.o1, h.o2⟩
theorem St9.app {w4 : World} {vu vw : Value} {us ws : List GTok} {N M : Nat} {t1 t2 : GTok} {wz : World} (h : St9 w4 vu vw us ws N M t1 t2 wz) (h1 : us.length ≤ 100000) (h2 : ws.length ≤ 100000) :
    ∃ v' w' v'' w'', (Builtin.append_ #[74, 74] 74 #[vu, .slice (some ⟨wz.heap.size, 0, none⟩) 1 1]).run Tryz.prog (wz.alloc (.cells #[.int .i64 t1.kind, .string ⟨t1.text.toArray⟩, .int .u64 t1.value, .int .i64 t1.line, .int .i64 t1.col] 80)) = .ok v' w' ∧
      TkB w' M t2 ∧
      (Builtin.append_ #[74, 74] 74 #[vw, .slice (some ⟨w'.heap.size, 0, none⟩) 1 1]).run Tryz.prog (w'.alloc (.cells #[.int .i64 t2.kind, .string ⟨t2.text.toArray⟩, .int .u64 t2.value, .int .i64 t2.line, .int .i64 t2.col] 80)) = .ok v'' w'' ∧
      Two2 w4.heap.size w'' v' v'' (us ++ [t1]) (ws ++ [t2]) ∧ Below w4.heap.size w4 w'' := by
  obtain ⟨v', w', r1, t', b1, k1⟩ := h.two.app h.bel.size h1 t1
  have hM : TkB w' M t2 := (k1 M (.inr fun e => (h.o1 M e).2 rfl) h.tM.lt).trans h.tM
  obtain ⟨v'', w'', r2, t'', b2, _⟩ := t'.swap.app (h.bel.trans b1).size h2 t2
  exact ⟨v', w', v'', w'', r1, hM, r2, t''.swap, (h.bel.trans b1).trans b2⟩
theorem old2 (w : World) (o1 o2 : Obj) {b : Nat} (k : Nat) (h : b < w.heap.size) : ((w.alloc o1).alloc o2).drew.cell? ⟨b, k, none⟩ = w.cell? ⟨b, k, none⟩ := by
  have h1 : ((w.alloc o1).alloc o2).heap[b]? = w.heap[b]? := by
    rw [heap_alloc_old _ _ (by simp; omega), heap_alloc_old _ _ h]
  have h2 : ((w.alloc o1).alloc o2).drew.heap[b]? = w.heap[b]? := h1
  simp only [World.cell?, h2]
theorem St9.start {w4 wr : World} {vu vw : Value} {us ws : List GTok} (h : Two2 w4.heap.size wr vu vw us ws) (hb : Below w4.heap.size w4 wr) (t : GTok) {N M : Nat} {wx : World} (hN : TkB wx N t) (hM : TkB wx M t) (hne : N ≠ M) (gN : wr.heap.size ≤ N) (gM : wr.heap.size ≤ M) (hbx : Below wr.heap.size wr wx) : St9 w4 vu vw us ws N M t t wx :=
  ⟨h.next hbx, hb.trans (Below.mono hbx hb.size), hN, hM, hne, Nat.le_trans hb.size gN, Nat.le_trans hb.size gM, fun g hg => by have := (h.u.lt g hg).2; omega, fun g hg => by have := (h.v.lt g hg).2; omega⟩
/-- What region 12 leaves. -/
def Lt9 (wr wx : World) (t : GTok) (a b : Value) : Prop := ∃ N M, a = .pointer (some ⟨N, 0, none⟩) ∧ b = .pointer (some ⟨M, 0, none⟩) ∧ TkB wx N t ∧ TkB wx M t ∧ N ≠ M ∧ wr.heap.size ≤ N ∧ wr.heap.size ≤ M ∧ Below wr.heap.size wr wx
theorem lt9_a (wr : World) (t : GTok) : Lt9 wr ((wr.alloc (.cells #[.int .i64 t.kind, .string ⟨t.text.toArray⟩, .int .u64 t.value, .int .i64 t.line, .int .i64 t.col] 80)).alloc (.cells #[.int .i64 t.kind, .string ⟨t.text.toArray⟩, .int .u64 t.value, .int .i64 t.line, .int .i64 t.col] 80)).drew t (.pointer (some ⟨wr.heap.size, 0, none⟩)) (.pointer (some ⟨wr.heap.size + 1, 0, none⟩)) := by
  refine ⟨_, _, rfl, rfl, ?_, ?_, by omega, Nat.le_refl _, by omega, (bel_lit (bel_lit (Below.refl _ _) _) _).drew⟩
  · show (World.alloc _ _).heap[_]? = _
    rw [heap_alloc_old _ _ (by simp)]
    exact heap_alloc_new wr _
  · have := heap_alloc_new (wr.alloc (.cells #[.int .i64 t.kind, .string ⟨t.text.toArray⟩, .int .u64 t.value, .int .i64 t.line, .int .i64 t.col] 80)) (.cells #[.int .i64 t.kind, .string ⟨t.text.toArray⟩, .int .u64 t.value, .int .i64 t.line, .int .i64 t.col] 80)
    simpa [TkB, World.drew] using this
theorem lt9_b (wr : World) (t : GTok) : Lt9 wr ((wr.alloc (.cells #[.int .i64 t.kind, .string ⟨t.text.toArray⟩, .int .u64 t.value, .int .i64 t.line, .int .i64 t.col] 80)).alloc (.cells #[.int .i64 t.kind, .string ⟨t.text.toArray⟩, .int .u64 t.value, .int .i64 t.line, .int .i64 t.col] 80)).drew t (.pointer (some ⟨wr.heap.size + 1, 0, none⟩)) (.pointer (some ⟨wr.heap.size, 0, none⟩)) := by
  obtain ⟨N, M, h1, h2, h3, h4, h5, h6, h7, h8⟩ := lt9_a wr t
  exact ⟨M, N, h2, h1, h4, h3, Ne.symm h5, h7, h6, h8⟩
theorem ba_app9 (a b : List UInt8) : ((⟨a.toArray⟩ : ByteArray) ++ ⟨b.toArray⟩) = ⟨(a ++ b).toArray⟩ := by
  apply ByteArray.ext
  simp [ByteArray.data_append]
theorem bok_w {y z t : Int} {w : List UInt8} (h : BOk (GTok.bare ⟨1, w, y, z, t⟩)) : ∃ c r, w = c :: r := by
  have := h.wf
  cases w with
  | nil => simp [wf, GTok.bare, wordB] at this
  | cons c r => exact ⟨c, r, rfl⟩
theorem asm9g (l : List UInt8) (ps : List GIns) {s : ASt} (hs : asmAll l = .ok () s) (hp : s.prog = ps) (hl : l.length ≤ maxLen) (w : World) (hG : GlobP w) :
    Calls Tryz.prog 15 #[.string ⟨l.toArray⟩] w fun e w' => ∃ A c, e = .returned (.tuple #[.slice A ps.length c, .agg #[.int .i64 0, .int .i64 0], .int .i64 0]) ∧ GRow GIns.cells 5 w' w'.heap.size A ps ∧ Below w.heap.size w w' := by
  have ha := asm_any l w hl hG.1.1 hG.1.2
  rw [hs] at ha
  refine ha.mono ?_
  intro e w' hE
  obtain ⟨pv, rfl, hown, hb⟩ := hE
  rw [hp] at hown
  obtain ⟨A1, c1, hv, _, _, hrow⟩ := hown.row GIns.len
  subst hv
  exact ⟨A1, c1, rfl, hrow, hb⟩
theorem asm9o (l : List UInt8) {s : ASt} (hs : asmAll l = .ok () s) (hl : l.length ≤ maxLen) (w : World) (hG : GlobP w) :
    Calls Tryz.prog 15 #[.string ⟨l.toArray⟩] w fun e w' => ∃ A n c, e = .returned (.tuple #[.slice A n c, .agg #[.int .i64 0, .int .i64 0], .int .i64 0]) ∧ Below w.heap.size w w' := by
  refine (asm9g l s.prog hs rfl hl w hG).mono ?_
  rintro e w' ⟨A, c, rfl, _, hb⟩
  exact ⟨A, _, c, rfl, hb⟩
theorem asm9t (l : List UInt8) {a b : Int} (hs : asmAll l = .thr a b 72) (hl : l.length ≤ maxLen) (w : World) (hG : GlobP w) :
    Calls Tryz.prog 15 #[.string ⟨l.toArray⟩] w fun e w' => ∃ x y : Int, e = .returned (.tuple #[.slice none 0 0, .agg #[.int .i64 x, .int .i64 y], .int .i64 72]) ∧ Below w.heap.size w w' := by
  have ha := asm_any l w hl hG.1.1 hG.1.2
  rw [hs] at ha
  refine ha.mono ?_
  intro e w' hE
  obtain ⟨rfl, hb⟩ := hE
  exact ⟨_, _, rfl, hb⟩
end Go.Proofs.YtahhmgoffdggpaaGreatDoor


namespace Go.Proofs.YtahhmgoffdggpaaGreatDoor

open Go.RowKit Go.Shelf

theorem mem_116 {k : Nat} (hk : k < 28) : decide ((116 : UInt8) ∈ opsL k) = decide ((fmtN k).2.2 = 2) := by
  have : ∀ k : Fin 28, decide ((116 : UInt8) ∈ opsL k.val) = decide ((fmtN k.val).2.2 = 2) := by decide +kernel
  exact this ⟨k, hk⟩
theorem ops_short {k : Nat} (hk : k < 28) : (opsL k).length ≤ 5 := by
  have : ∀ k : Fin 28, (opsL k.val).length ≤ 5 := by decide +kernel
  exact this ⟨k, hk⟩
set_option maxRecDepth 50000 in
set_option maxHeartbeats 1000000 in
theorem uses_any (k : Nat) (hk : k < 28) (w : World) : Calls Tryz.prog 22 #[.int .i64 k, .int .u8 116] w fun e w' => e = .returned (.bool (decide ((fmtN k).2.2 = 2))) ∧ Below w.heap.size w w' := by
  have HO := Lib.hid (operands_ref k hk w)
  rw [← mem_116 hk]
  have HL := Lib.hid (ops_short hk)
  have hd : Hid (decide ((116 : UInt8) ∈ opsL k) = decide ((116 : UInt8) ∈ opsL k)) := Lib.hid rfl
  generalize hq : decide ((116 : UInt8) ∈ opsL k) = q at *
  have HQ := Lib.hid hq
  clear hq hd
  generalize opsL k = l at *
  go_enter Tryz.func22, Tryz.ntmps22
  go_wp2_with fail
  go_fit HO.out
  rintro e w1 ⟨rfl, hb1⟩
  have HB1 := Lib.hid hb1
  clear hb1 HO
  have hsz : (⟨l.toArray⟩ : ByteArray).size = l.length := ba_size l
  have hl5 := HL.out
  go_wp2
  go_loopw [6] (fun vi wr => ∃ i : Nat, vi = .int .i64 i ∧ i ≤ l.length ∧ wr = w1 ∧ Hid (∀ j, j < i → ∀ h : j < l.length, l[j] ≠ 116)) (fun vi _ => l.length - (intOf vi).toNat)
  case atStart => exact ⟨0, rfl, Nat.zero_le _, rfl, Lib.hid fun j hj => absurd hj (by omega)⟩
  case round =>
    obtain ⟨i, rfl, hi, rfl, HN⟩ := hrel
    rcases Nat.lt_or_ge i l.length with hlt | hge
    · have hix := fun W => str_index l i hlt W
      by_cases hc : l[i] = 116
      · have HF : Hid (q = true) := Lib.hid (by rw [← HQ.out, decide_eq_true_eq]; rw [← hc]; exact List.getElem_mem hlt)
        have g0 : (((l[i].toNat : Nat) : Int) == 116) = true := by rw [hc]; rfl
        clear hc
        go_wp2
        go_ret
        exact ⟨congrArg (fun b => Ending.returned (Value.bool b)) HF.out.symm, HB1.out⟩
      · have HN2 : Hid (∀ j, j < i + 1 → ∀ h : j < l.length, l[j] ≠ 116) := Lib.hid fun j hj h => by
          rcases Nat.lt_or_ge j i with h1 | h1
          · exact HN.out j h1 h
          · obtain rfl : j = i := by omega
            exact hc
        have g0 : (((l[i].toNat : Nat) : Int) == 116) = false := by
          have : l[i].toNat ≠ 116 := fun e => hc (UInt8.toNat_inj.1 e)
          simp; omega
        clear hc HN
        go_wp2
        go_roundw
        case rel => exact ⟨i + 1, by go_num, by omega, by first | rfl | trivial, HN2⟩
        case measure => simp [intOf]; omega
    · have HF : Hid (q = false) := Lib.hid (by
        rw [← HQ.out, decide_eq_false_iff_not]
        intro hm
        obtain ⟨j, hj, e⟩ := List.getElem_of_mem hm
        exact HN.out j (by omega) hj e)
      go_wp2
      go_ret
      exact ⟨congrArg (fun b => Ending.returned (Value.bool b)) HF.out.symm, HB1.out⟩
set_option maxRecDepth 50000 in
set_option maxHeartbeats 1000000 in
theorem jumps_any (x : GIns) (k : Nat) (hk : k < 28) (hx : x.op = k) (w : World) : Calls Tryz.prog 23 #[x.val] w fun e w' => e = .returned (.bool (decide ((fmtN x.op.toNat).2.2 = 2))) ∧ Below w.heap.size w w' := by
  have HU := Lib.hid fun W => uses_any k hk W
  have e : x.op.toNat = k := by rw [hx]; rfl
  rw [e]
  obtain ⟨xo, xa, xb, xc, xi⟩ := x
  simp only at hx
  subst hx
  generalize decide ((fmtN k).2.2 = 2) = q at *
  clear e
  unfold GIns.val
  simp only
  have g0 : decide ((0 : Int) ≤ (k : Int)) = true := by simp
  have g1 : decide ((k : Int) < 28) = true := by simp; omega
  go_enter Tryz.func23, Tryz.ntmps23
  go_wp2_with fail
  go_fit (HU.out _)
  rintro e w1 ⟨rfl, hb1⟩
  have HB1 := Lib.hid (bel_alloc (Below.refl _ w) hb1)
  clear hb1 HU
  go_wp2
  go_ret
  exact ⟨rfl, HB1.out⟩
theorem GRow.setE {α : Type} {enc : α → List Value} {m : Nat} (hk5 : ∀ x, (enc x).length = m) {w : World} {B g : Nat} {xs : List α} (h : GRow enc m w B (some ⟨g, 0, none⟩) xs) {k j0 : Nat} (hk : k < xs.length) (hj0 : j0 < m) (u : Value) (x : α) (hx : enc x = (enc xs[k]).set j0 u) :
    GRow enc m (w.setCell ⟨g, k * m + j0, none⟩ u) B (some ⟨g, 0, none⟩) (xs.set k x) := fun hn => by
  rw [List.length_set] at hn
  obtain ⟨b, o, e, hb, hc⟩ := h hn
  cases e
  refine ⟨g, 0, rfl, hb, fun i hi j v hv => ?_⟩
  have hj : j < m := by
    rcases Nat.lt_or_ge j m with h1 | h1
    · exact h1
    · rw [List.getElem?_eq_none (by rw [hk5]; exact h1)] at hv; cases hv
  have hi2 : i < xs.length := by simpa using hi
  rw [Nat.zero_add]
  by_cases hik : i = k
  · subst hik
    rw [List.getElem_set_self, hx] at hv
    by_cases hjj : j = j0
    · subst hjj
      rw [List.getElem?_set_self (by rw [hk5]; exact hj)] at hv
      injection hv with hv
      subst hv
      have hold := hc i hi2 j ((enc xs[i])[j]'(by rw [hk5]; exact hj)) (List.getElem?_eq_getElem _)
      rw [Nat.zero_add] at hold
      exact World.cell?_setCell_same w _ _ hold
    · rw [List.getElem?_set_ne (fun e => hjj e.symm)] at hv
      have hold := hc i hi2 j v hv
      rw [Nat.zero_add] at hold
      rw [World.cell?_setCell_other w _ _ _ (fun e => by have h9 := congrArg Addr.off e; simp only at h9; omega)]
      exact hold
  · rw [List.getElem_set_ne (fun e => hik e.symm)] at hv
    have hold := hc i hi2 j v hv
    rw [Nat.zero_add] at hold
    rw [World.cell?_setCell_other w _ _ _ (fun e => by
      have h9 := congrArg Addr.off e
      simp only at h9
      rcases Nat.lt_or_gt_of_ne hik with h1 | h1
      · have := Nat.mul_le_mul_right m (show i + 1 ≤ k by omega)
        rw [Nat.succ_mul] at this
        omega
      · have := Nat.mul_le_mul_right m (show k + 1 ≤ i by omega)
        rw [Nat.succ_mul] at this
        omega)]
    exact hold
/-- The first i elements changed. -/
def mixR {α : Type} (f : α → α) (i : Nat) (xs : List α) : List α := (xs.take i).map f ++ xs.drop i
theorem mixR_len {α : Type} (f : α → α) (i : Nat) (xs : List α) : (mixR f i xs).length = xs.length := by unfold mixR; simp; omega
theorem mixR_get {α : Type} (f : α → α) (i : Nat) (xs : List α) (h : i < xs.length) : (mixR f i xs)[i]'(by rw [mixR_len]; exact h) = xs[i] := by
  unfold mixR
  rw [List.getElem_append_right (by simp; omega)]
  simp [Nat.min_eq_left (Nat.le_of_lt h)]
theorem mixR_set {α : Type} (f : α → α) (i : Nat) (xs : List α) (h : i < xs.length) : (mixR f i xs).set i (f xs[i]) = mixR f (i + 1) xs := by
  unfold mixR
  have hl : ((xs.take i).map f).length = i := by simp; omega
  rw [List.set_append_right _ _ (by omega), hl, Nat.sub_self, List.drop_eq_getElem_cons h, List.set_cons_zero, List.take_succ_eq_append_getElem h, List.map_append]
  simp
theorem mixR_same {α : Type} (f : α → α) (i : Nat) (xs : List α) (h : i < xs.length) (he : f xs[i] = xs[i]) : mixR f (i + 1) xs = mixR f i xs := by
  rw [← mixR_set f i xs h, he]
  have := mixR_get f i xs h
  conv => lhs; rw [← this]
  exact List.set_getElem_self _
theorem mixR_zero {α : Type} (f : α → α) (xs : List α) : mixR f 0 xs = xs := by simp [mixR]
theorem mixR_all {α : Type} (f : α → α) (xs : List α) : mixR f xs.length xs = xs.map f := by simp [mixR]
theorem GRow.left {α : Type} {enc : α → List Value} {k : Nat} {w : World} {B : Nat} {A : Option Addr} {xs ys : List α} (h : GRow enc k w B A (xs ++ ys)) : GRow enc k w B A xs := fun hn => by
  obtain ⟨b, o, e, hb, hc⟩ := h (by rw [List.length_append]; omega)
  exact ⟨b, o, e, hb, fun i hi j u hu => hc i (by rw [List.length_append]; omega) j u (by rw [List.getElem_append_left hi]; exact hu)⟩
theorem GRow.right {α : Type} {enc : α → List Value} {k : Nat} {w : World} {B g o : Nat} {xs ys : List α} (h : GRow enc k w B (some ⟨g, o, none⟩) (xs ++ ys)) : GRow enc k w B (some ⟨g, o + xs.length * k, none⟩) ys := fun hn => by
  obtain ⟨b, o', e, hb, hc⟩ := h (by rw [List.length_append]; omega)
  cases e
  refine ⟨g, _, rfl, hb, fun i hi j u hu => ?_⟩
  have := hc (xs.length + i) (by rw [List.length_append]; omega) j u (by rw [List.getElem_append_right (by omega)]; simpa using hu)
  rw [← this]
  congr 2
  rw [Nat.add_mul]; omega
end Go.Proofs.YtahhmgoffdggpaaGreatDoor


namespace Go.Proofs.YtahhmgoffdggpaaGreatDoor

open Go.RowKit

/-- w' is a later world: nothing that was there in w has turned. -/
def Fut (w w' : World) : Prop := Below w.heap.size w w'
theorem Fut.refl (w : World) : Fut w w := Below.refl _ _
theorem Fut.trans {a b c : World} (h : Fut a b) (k : Fut b c) : Fut a c := Below.trans h (Below.mono k (Below.size h))
theorem Fut.drew {a b : World} (h : Fut a b) : Fut a b.drew := Below.drew h

section

variable {P : Program} {ops : Array Oper} {Q : Exit → Act → World → Prop} {md : Region.Mode}

theorem held_weaker {S T : World → Prop} (hST : ∀ w, S w → T w) : ∀ (fuel : Nat) (listed : Array Bool) (a : Act) (w : World), wpAnyH P md ops Q S fuel listed a w → wpAnyH P md ops Q T fuel listed a w
  | 0, _, _, _, h => h
  | fuel + 1, _, _, _, h => ⟨h.1, fun i hi => wpOp_mono (fun a' w' h' => ⟨hST _ h'.1, held_weaker hST fuel _ a' w' h'.2⟩) (h.2 i hi)⟩

/-- The walk in one order. 'true': what is computed or read, taken first; 'false': a call, when nothing else may come up. -/
def wpGrow (P : Program) (ops : Array Oper) (Q : Exit → Act → World → Prop) : List (Nat × Bool) → Act → World → Prop
  | [], a, w => Q .normal a w
  | (i, true) :: rest, a, w => ∃ oi v, ops[i]? = some oi ∧ YieldsIf P ops (Fut w) oi v a ∧ wpGrow P ops Q rest (a.put oi.dst v) w
  | (i, false) :: rest, a, w => wpOp P ops Q i (fun a' w' => Fut w w' ∧ wpGrow P ops Q rest a' w') a w

/-- That the order may be walked so: a closed fact on the region's edges. -/
def growOk (md : Region.Mode) (ops : Array Oper) : List (Nat × Bool) → Array Bool → Bool
  | [], listed => (Region.ready md ops listed).isEmpty
  | (i, true) :: rest, listed => (Region.ready md ops listed).contains i && Region.free md ops listed i && growOk md ops rest (listed.setIfInBounds i true)
  | (i, false) :: rest, listed => Region.ready md ops listed == [i] && growOk md ops rest (listed.setIfInBounds i true)

theorem grow_sound (hs : Region.noSelect ops = true) (hQ : ∀ c a d v w, Q (.panic c) (Act.put a d v) w → Q (.panic c) a w) : ∀ (ord : List (Nat × Bool)) (listed : Array Bool) (a : Act) (w : World),
    growOk md ops ord listed = true → wpGrow P ops Q ord a w → wpAnyH P md ops Q (Fut w) ord.length listed a w
  | [], listed, a, w, hok, h => wpAnyH_done (by simpa [growOk] using hok) h 0
  | (i, true) :: rest, listed, a, w, hok, h => by
    simp only [growOk, Bool.and_eq_true] at hok
    obtain ⟨oi, v, hi, hy, h⟩ := h
    exact wpAnyH_take hi hs hok.1.2 hok.1.1 (fun c a w => hQ c a _ _ w) hy (Fut.refl w) (grow_sound hs hQ rest _ _ _ hok.2 h)
  | (i, false) :: rest, listed, a, w, hok, h => by
    simp only [growOk, Bool.and_eq_true, beq_iff_eq] at hok
    refine wpAnyH_all hok.1 (by simp) fun j hj => ?_
    obtain rfl : j = i := by simpa using hj
    exact wpOp_mono (fun a' w' h' => ⟨h'.1, held_weaker (fun _ hk => h'.1.trans hk) _ _ _ _ (grow_sound hs hQ rest _ _ _ hok.2 h'.2)⟩) h

/-- THE BEGINNING: the order is written out by the prover, and checked. -/
theorem wp_region_grow {id : Nat} {a : Act} {w : World} (ord : List (Nat × Bool)) (hm : P.follows .mixedOrders = true) (hs : Region.noSelect ops = true)
    (hok : growOk .any ops ord (Array.replicate ops.size false) = true) (hn : ord.length = ops.size) (hQ : ∀ c a d v w, Q (.panic c) (Act.put a d v) w → Q (.panic c) a w)
    (h : wpGrow P ops Q ord a w.drew) : (Code.region id ops true).wp P Q a w := by
  have h1 := grow_sound hs hQ ord _ a w.drew hok h
  rw [hn] at h1
  exact wp_region_held hm h1

theorem wpGrow_nil {a : Act} {w : World} (h : Q .normal a w) : wpGrow P ops Q [] a w := h
theorem wpGrow_float {i : Nat} {oi : Oper} {v : Value} {rest : List (Nat × Bool)} {a : Act} {w : World} (hi : ops[i]? = some oi) (hw : Region.wanted oi (yielded ops a.tmps) = true)
    (hy : ∀ w', Fut w w' → (execOp a.eval oi).run P w' = .ok (.value v) w') (h : wpGrow P ops Q rest (a.put oi.dst v) w) : wpGrow P ops Q ((i, true) :: rest) a w :=
  ⟨oi, v, hi, .inl ⟨hw, hy⟩, h⟩
theorem wpGrow_skip {i : Nat} {oi : Oper} {rest : List (Nat × Bool)} {a : Act} {w : World} (hi : ops[i]? = some oi) (hw : Region.wanted oi (yielded ops a.tmps) = false)
    (h : wpGrow P ops Q rest (a.put oi.dst undef) w) : wpGrow P ops Q ((i, true) :: rest) a w :=
  ⟨oi, undef, hi, .inr ⟨hw, rfl⟩, h⟩
/-- A call that its guard passes over. -/
theorem wpGrow_pass {i : Nat} {oi : Oper} {rest : List (Nat × Bool)} {a : Act} {w : World} (hi : ops[i]? = some oi) (hw : Region.wanted oi (yielded ops a.tmps) = false)
    (h : wpGrow P ops Q rest (a.put oi.dst undef) w) : wpGrow P ops Q ((i, false) :: rest) a w := by
  show wpOp P ops Q i _ a w
  unfold wpOp
  simp only [hi, hw]
  exact ⟨Fut.refl w, h⟩
theorem wpGrow_call {i : Nat} {oi : Oper} {rest : List (Nat × Bool)} {a : Act} {w : World} (hi : ops[i]? = some oi) (hw : Region.wanted oi (yielded ops a.tmps) = true)
    (h : ∀ K : Act → World → Prop, (∀ a' w', Fut w w' → wpGrow P ops Q rest a' w' → K a' w') → oi.wp P a w K Q) : wpGrow P ops Q ((i, false) :: rest) a w := by
  show wpOp P ops Q i _ a w
  unfold wpOp
  simp only [hi, hw, if_true]
  exact .inl (h _ fun a' w' h1 h2 => ⟨h1, h2⟩)
end

end Go.Proofs.YtahhmgoffdggpaaGreatDoor
