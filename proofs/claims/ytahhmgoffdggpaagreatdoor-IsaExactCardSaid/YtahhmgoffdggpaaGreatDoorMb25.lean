/-
  The law IsaImmediates returns true, whatever the number.
  Conditions: the listed variables lie as the program's start lays them.
  What the row's listed variables give the walk of IsaImmediates: the table of powers of ten besides.
  Conditions: none.
  isa.Decode, at whatever bytes.
  Conditions: the table of formats lies as the program's start lays it; at most 2^32 bytes.
-/
import Derived.Test.YtahhmgoffdggpaaGreatDoorMb14
import Derived.Test.YtahhmgoffdggpaaGreatDoorMb15
import Derived.Test.YtahhmgoffdggpaaGreatDoorMb21
import Derived.Test.YtahhmgoffdggpaaGreatDoorMb24
import Derived.Test.YtahhmgoffdggpaaGreatDoorMb7
import Derived.Lib.LaidTab
namespace Go.Proofs.YtahhmgoffdggpaaGreatDoor

open Go.RowKit Go.Shelf

def GlobP (w : World) : Prop := GlobI w ∧ Pow w
theorem GlobP.next {w w' : World} (h : GlobP w) (hb : Below w.heap.size w w') : GlobP w' := ⟨h.1.next hb, h.2.next hb⟩

theorem text_put (sg : Bool) (S : List UInt8) : ((⟨#[108, 105, 32, 114, 51, 44, 32]⟩ : ByteArray) ++ (if sg then ⟨#[45]⟩ else ⟨#[]⟩) ++ ⟨S.toArray⟩ ++ ⟨#[59]⟩ : ByteArray) = ⟨(imT sg S).toArray⟩ := by
  apply ByteArray.ext
  cases sg <;> simp [ByteArray.data_append, imT]
theorem asm_ok9 (sg : Bool) (S : List UInt8) (x : Nat) (h : Numl S x) (hx : x ≤ if sg then 2147483648 else 2147483647) (W : World) (hG : GlobP W) :
    Calls Tryz.prog 15 #[.string ⟨(imT sg S).toArray⟩] W fun e w' => ∃ g c, e = .returned (.tuple #[.slice (some ⟨g, 0, none⟩) 1 c, .agg #[.int .i64 0, .int .i64 0], .int .i64 0]) ∧ 1 ≤ c ∧ W.heap.size ≤ g ∧ g < w'.heap.size ∧ (w'.cell? ⟨g, 0, none⟩ = some (.int .i64 1) ∧ w'.cell? ⟨g, 1, none⟩ = some (.int .i64 3) ∧ w'.cell? ⟨g, 2, none⟩ = some (.int .i64 0) ∧ w'.cell? ⟨g, 3, none⟩ = some (.int .i64 0) ∧ w'.cell? ⟨g, 4, none⟩ = some (.int .i32 (if sg then -x else x))) ∧ Below W.heap.size W w' := by
  obtain ⟨s, hs, hp⟩ := imm_ok h sg hx
  have hl := h.len
  have ha := asm_any (imT sg S) W (by unfold imT maxLen; cases sg <;> simp <;> omega) hG.1.1 hG.1.2
  rw [hs] at ha
  refine ha.mono ?_
  intro e w' hE
  obtain ⟨pv, rfl, hown, hb⟩ := hE
  rw [hp] at hown
  obtain ⟨A1, c1, hv, hcap1, _, hrow⟩ := hown.row GIns.len
  subst hv
  obtain ⟨g, c9, ev9⟩ : ∃ g c9, Value.slice A1 1 c1 = .slice (some ⟨g, 0, none⟩) 1 c9 := by
    rcases hown.2 with ⟨_, h0⟩ | ⟨g, cap, cur, e, _⟩
    · simp at h0
    · exact ⟨g, cap, e⟩
  injection ev9 with ea _ ec
  subst ea ec
  have hg1 := (hown.lt g rfl).1
  have hg2 := (hown.lt g rfl).2
  obtain ⟨b0, o0, e0, hb0, x0, x1, x2, x3, x4⟩ := hrow.ins (k := 0) (by simp)
  cases e0
  exact ⟨g, c1, rfl, hcap1, hg1, hg2, ⟨x0, x1, x2, x3, x4⟩, hb⟩
theorem asm_big9 (sg : Bool) (S : List UInt8) (x : Nat) (h : Numl S x) (hx : (if sg then 2147483648 else 2147483647) < x) (W : World) (hG : GlobP W) :
    Calls Tryz.prog 15 #[.string ⟨(imT sg S).toArray⟩] W fun e w' => e = .returned (.tuple #[.slice none 0 0, .agg #[.int .i64 1, .int .i64 (if sg then 9 else 8)], .int .i64 6]) ∧ Below W.heap.size W w' := by
  have hl := h.len
  have ha := asm_any (imT sg S) W (by unfold imT maxLen; cases sg <;> simp <;> omega) hG.1.1 hG.1.2
  rw [imm_big h sg hx] at ha
  refine ha.mono ?_
  intro e w' hE
  obtain ⟨rfl, hb⟩ := hE
  refine ⟨?_, hb⟩
  cases sg <;> rfl
-- WALKS
end Go.Proofs.YtahhmgoffdggpaaGreatDoor


namespace Go.Proofs.YtahhmgoffdggpaaGreatDoor

open Go.ChangeShapes Go.WideShapes Go.ChangeAt Go.RowKit

theorem tPow9 : (Tryz.prog.globals[2]?).map (·.type) = some 157 := by kernel_rfl
theorem laidPow9 {H : Type} : (Rows.laid_internal_strconv_uint64pow10 : DataW H) = Lib.tabData .u64 Lib.pow10Tab := rfl
theorem globp_of_laid {W : World} (h : laidMetH Tryz.prog Rows.isaExactRow.laid W) : GlobP W := by
  refine ⟨globi_of_laid h, ?_⟩
  rw [MakeChecks.laidMetH_plain _ _ _ (by kernel_rfl)] at h
  obtain ⟨ps, ⟨g0, t0, cs0, f0, p0, q0, hg0, ht0, hv0, hd0, ⟨g1, t1, cs1, f1, p1, q1, hg1, ht1, hv1, hd1, ⟨g2, t2, cs2, f2, p2, q2, hg2, ht2, hv2, hd2, ⟨g3, t3, cs3, f3, p3, q3, hg3, ht3, hv3, hd3, _⟩, _⟩, _⟩, _⟩, _, _⟩ := h
  obtain rfl := Option.some.inj (gPow.symm.trans hg2)
  obtain rfl := Option.some.inj (tPow9.symm.trans ht2)
  unfold Pow Lib.TabIs
  rw [laidPow9] at hd2
  rw [hv2, ← Lib.cells_of_tab Tryz.underlying157 Tryz.underlying46 (by kernel_rfl) (by kernel_rfl) hd2]
end Go.Proofs.YtahhmgoffdggpaaGreatDoor


namespace Go.Proofs.YtahhmgoffdggpaaGreatDoor

open Go.RowKit

/-- The instruction that eight bytes are. -/
def decI (l : List UInt8) (i : Nat) : GIns := ⟨(bt l (8 * i) : Nat), (bt l (8 * i + 1) : Nat), (bt l (8 * i + 2) : Nat), (bt l (8 * i + 3) : Nat), IntKind.i32.wrap (uintV l ((8 * i + 4 : Nat) : Int) 4 : Nat)⟩
def decN (l : List UInt8) : Nat := min (l.length / 8) 4097
def decP (l : List UInt8) : List GIns := (List.range (decN l)).map (decI l)
theorem decP_len (l : List UInt8) : (decP l).length = decN l := by simp [decP]
theorem decP_get (l : List UInt8) {i : Nat} (h : i < (decP l).length) : (decP l)[i] = decI l i := by simp [decP]
theorem decI_imm (l : List UInt8) (i : Nat) : ImmOk (decI l i) := by
  unfold ImmOk decI
  have h := IntKind.wrap_i32 (uintV l ((8 * i + 4 : Nat) : Int) 4 : Nat)
  simp only
  rw [h]
  omega
/-- A block of n instructions, of which the first k are those that the bytes are. -/
def DecB (l : List UInt8) (n k g : Nat) (w : World) : Prop := ∃ cur : Array Value, w.heap[g]? = some (.cells cur 40 (0, 0)) ∧ cur.size = n * 5 ∧ ∀ i < k, ∀ j u, (decI l i).cells[j]? = some u → cur[i * 5 + j]? = some u
theorem make_ins (n : Nat) (hn : n ≤ 100000) (W : World) : ∃ cur : Array Value, cur.size = n * 5 ∧ (Instr.makeSlice 22 (.int .i64 (n : Int)) (.int .i64 (n : Int))).run Tryz.prog W = .ok (.slice (some ⟨W.heap.size, 0, none⟩) n n) (W.alloc (.cells cur 40)) := by
  obtain ⟨i, hi, hz0, hz1, hz2⟩ := info_parts (show (Tryz.prog.info? 40).map (fun i => (i.zero, i.size, i.bytes)) = some (some (.agg #[.int .i64 0, .int .i64 0, .int .i64 0, .int .i64 0, .int .i32 0]), 5, 40) from by kernel_rfl)
  have h := run_make W 22 40 i _ Tryz.underlying22 hi hz0 .i64 .i64 (n : Int) (n : Int) (by omega) (by omega) (by rw [hz2]; omega) (by omega)
  rw [Int.toNat_natCast, hz1] at h
  exact ⟨_, size_madeCells _ _, h⟩
/-- An instruction put in its place. -/
theorem sets_upto {g : Nat} {T : TypeId} : ∀ (vs : List Value) (o : Nat) (w : World) (cur : Array Value), w.heap[g]? = some (.cells cur T (0, 0)) → o + vs.length ≤ cur.size → ∃ cur', (w.setCells g o vs).heap[g]? = some (.cells cur' T (0, 0)) ∧ cur'.size = cur.size ∧ (∀ t, t < o → cur'[t]? = cur[t]?) ∧ ∀ j u, vs[j]? = some u → cur'[o + j]? = some u
  | [], o, w, cur, h, _ => ⟨cur, h, rfl, fun _ _ => rfl, fun j u h => by simp at h⟩
  | v :: r, o, w, cur, h, hn => by
    have hset : (w.setCell ⟨g, o, none⟩ v).heap[g]? = some (.cells (cur.set! o v) T (0, 0)) := by
      simp [World.setCell, Array.getElem?_modify, h]
    simp only [List.length_cons] at hn
    obtain ⟨cur', h1, h2, h3, h4⟩ := sets_upto r (o + 1) (w.setCell ⟨g, o, none⟩ v) (cur.set! o v) hset (by simp; omega)
    refine ⟨cur', h1, by rw [h2]; simp, fun t ht => ?_, fun j u hj => ?_⟩
    · rw [h3 t (by omega)]
      simp [Array.getElem?_setIfInBounds]
      omega
    · match j, hj with
      | 0, hj =>
        rw [Nat.add_zero, h3 o (by omega)]
        simp at hj
        subst hj
        simp [Array.getElem?_setIfInBounds]
        omega
      | j + 1, hj =>
        have := h4 j u (by simpa using hj)
        rw [show o + (j + 1) = o + 1 + j by omega]; exact this
theorem DecB.put {l : List UInt8} {n k g : Nat} {w : World} (h : DecB l n k g w) (hk : k < n) : DecB l n (k + 1) g (w.setCells g (k * 5) (decI l k).cells) := by
  obtain ⟨cur, h1, h2, h3⟩ := h
  obtain ⟨cur', a1, a2, a3, a4⟩ := sets_upto (decI l k).cells (k * 5) w cur h1 (by rw [GIns.len, h2]; omega)
  refine ⟨cur', a1, by rw [a2, h2], fun i hi j u hj => ?_⟩
  have hj5 : j < 5 := by
    rcases Nat.lt_or_ge j 5 with h | h
    · exact h
    · rw [List.getElem?_eq_none (by rw [GIns.len]; exact h)] at hj; cases hj
  rcases Nat.lt_or_ge i k with h | h
  · rw [a3 _ (by omega)]; exact h3 i h j u hj
  · obtain rfl : i = k := by omega
    exact a4 j u hj
theorem DecB.keep {l : List UInt8} {n k g : Nat} {w w' : World} (h : DecB l n k g w) (hh : w'.heap[g]? = w.heap[g]?) : DecB l n k g w' := by
  obtain ⟨cur, h1, h2, h3⟩ := h
  exact ⟨cur, hh.trans h1, h2, h3⟩
theorem sets5 (w : World) (g o : Nat) (a b c d e : Value) : w.setCells g o [a, b, c, d, e] = ((((w.setCell ⟨g, o, none⟩ a).setCell ⟨g, o + 1, none⟩ b).setCell ⟨g, o + 2, none⟩ c).setCell ⟨g, o + 3, none⟩ d).setCell ⟨g, o + 4, none⟩ e := rfl
theorem DecB.put5 {l : List UInt8} {n k g : Nat} {w : World} (h : DecB l n k g w) (hk : k < n) : DecB l n (k + 1) g (((((w.setCell ⟨g, k * 5, none⟩ (.int .i64 (bt l (8 * k) : Nat))).setCell ⟨g, k * 5 + 1, none⟩ (.int .i64 (bt l (8 * k + 1) : Nat))).setCell ⟨g, k * 5 + 2, none⟩ (.int .i64 (bt l (8 * k + 2) : Nat))).setCell ⟨g, k * 5 + 3, none⟩ (.int .i64 (bt l (8 * k + 3) : Nat))).setCell ⟨g, k * 5 + 4, none⟩ (.int .i32 (wrap32 (uintV l ((8 * k + 4 : Nat) : Int) 4 : Nat)))).drew := by
  have h1 := h.put hk
  unfold decI GIns.cells at h1
  rw [sets5] at h1
  have e : ∀ x : Int, IntKind.i32.wrap x = wrap32 x := fun x => by first | rfl | (rw [IntKind.wrap_i32]; unfold wrap32; omega)
  simp only [e] at h1
  have hd : ∀ W : World, W.drew.heap[g]? = W.heap[g]? := fun W => rfl
  exact h1.keep (hd _)
theorem DecB.row {l : List UInt8} {g : Nat} {w : World} (h : DecB l (decN l) (decN l) g w) : GRow GIns.cells 5 w w.heap.size (some ⟨g, 0, none⟩) (decP l) := fun hn => by
  obtain ⟨cur, h1, h2, h3⟩ := h
  have hg : g < w.heap.size := by
    rcases Nat.lt_or_ge g w.heap.size with h | h
    · exact h
    · rw [Array.getElem?_eq_none h] at h1; cases h1
  refine ⟨g, 0, rfl, hg, fun i hi j u hu => ?_⟩
  rw [decP_get l hi] at hu
  rw [Nat.zero_add, Lib.cell_of_heap h1]
  exact h3 i (by rw [decP_len] at hi; exact hi) j u hu
def DecEnd (l : List UInt8) (w : World) (e : Ending) (w' : World) : Prop :=
  Below w.heap.size w w' ∧ if l.length % 8 ≠ 0 then e = .returned (.tuple #[.slice none 0 0, .int .i64 52]) else if valP (decP l) = 0 then ∃ g, e = .returned (.tuple #[.slice (some ⟨g, 0, none⟩) (decN l) (decN l), .int .i64 0]) ∧ w.heap.size ≤ g ∧ DecB l (decN l) (decN l) g w' else e = .returned (.tuple #[.slice none 0 0, .int .i64 (valP (decP l))])
set_option maxRecDepth 50000 in
set_option maxHeartbeats 2000000 in
theorem decode_any (l : List UInt8) (A : Option Addr) (c : Nat) (w : World) (h : Byt w w.heap.size A l.length l) (hl : l.length ≤ 4294967296) (hG : GlobF w) :
    Calls Tryz.prog 8 #[.slice A l.length c] w (DecEnd l w) := by
  by_cases hm : l.length % 8 ≠ 0
  · have HE : Hid (DecEnd l w (.returned (.tuple #[.slice none 0 0, .int .i64 52])) w) := Lib.hid ⟨Below.refl _ w, by rw [if_pos hm]⟩
    have hm1 : ¬ (l.length : Int) % 8 = 0 := by omega
    generalize DecEnd l w = EE at *
    clear h hG hm
    generalize l.length = n at *
    go_enter Tryz.func8, Tryz.ntmps8
    go_wp2
    exact HE.out
  · have hm1 : (l.length : Int) % 8 = 0 := by omega
    have HG := Lib.hid hG
    have HD : Hid (∀ e w', DecEnd l w e w' ↔ (Below w.heap.size w w' ∧ if valP (decP l) = 0 then ∃ g, e = .returned (.tuple #[.slice (some ⟨g, 0, none⟩) (decN l) (decN l), .int .i64 0]) ∧ w.heap.size ≤ g ∧ DecB l (decN l) (decN l) g w' else e = .returned (.tuple #[.slice none 0 0, .int .i64 (valP (decP l))]))) := Lib.hid fun e w' => by unfold DecEnd; rw [if_neg hm]
    generalize DecEnd l w = EE at *
    have HB := Lib.hid h
    have HL := Lib.hid hl
    have HV := Lib.hid fun g W (hW : Below w.heap.size w W) (hd : DecB l (decN l) (decN l) g W) => (by
      have h := validate_any (decP l) (some ⟨g, 0, none⟩) (decN l) W (hG.next hW) hd.row (fun x hx => by
        obtain ⟨i, hi, rfl⟩ := List.getElem_of_mem hx
        rw [decP_get l hi]; exact decI_imm l i)
      rw [decP_len] at h
      exact h : Calls Tryz.prog 11 #[.slice (some ⟨g, 0, none⟩) (decN l) (decN l)] W fun e w' => e = .returned (.int .i64 (valP (decP l))) ∧ Below W.heap.size W w')
    have hN : decN l = min (l.length / 8) 4097 := rfl
    have hNi : min (wrap64 ((l.length : Int) / 8)) 4097 = (decN l : Int) := by rw [IntWalk.wrap64_in _ (by omega)]; omega
    obtain ⟨n, hn⟩ : ∃ n, decN l = n := ⟨_, rfl⟩
    rw [hn] at HD HV hN hNi
    have hn1 : n ≤ 4097 := by omega
    have hn8 : n * 8 ≤ l.length := by omega
    obtain ⟨cur0, hc0, hmk⟩ := make_ins n (by omega) w
    have HDB0 : Hid (DecB l n 0 w.heap.size (w.alloc (.cells cur0 40))) := Lib.hid ⟨cur0, heap_alloc_new w _, hc0, fun i hi => by omega⟩
    clear h hG hm hl hN
    go_enter Tryz.func8, Tryz.ntmps8
    go_wp2
    clear hmk hNi hm1
    have hb0 : Below w.heap.size w (w.alloc (.cells cur0 40)) := bel_lit (Below.refl _ w) _
    have HB0 := Lib.hid hb0
    generalize w.alloc (.cells cur0 40) = w1 at *
    have hgw : w.heap.size ≤ w.heap.size := Nat.le_refl _
    go_loopw [21] (fun vi wr => ∃ k : Nat, vi = .int .i64 k ∧ k ≤ n ∧ Hid (DecB l n k w.heap.size wr) ∧ Hid (Below w.heap.size w wr)) (fun vi _ => n - (intOf vi).toNat)
    case atStart => exact ⟨0, rfl, by omega, HDB0, HB0⟩
    case round =>
      obtain ⟨k, rfl, hk, HDB, HBL⟩ := hrel
      clear HDB0 HB0 hb0
      rcases Nat.lt_or_ge k n with hlt | hge
      · have f0 : decide ((k : Int) < n) = true := by simp; omega
        have hk8 : wrap64 (8 * (k : Int)) = 8 * (k : Int) := IntWalk.wrap64_in _ (by omega)
        have HBR := Lib.hid (HB.out.below HBL.out)
        have hU := uint32_any A l.length c wr.heap.size ((8 * k + 4 : Nat) : Int) l wr (HBR.out.wide HBL.out.size) HL.out
        have HPUT := Lib.hid (HDB.out.put5 hlt)
        obtain ⟨b, off, rfl, hb, hc⟩ := HBR.out.at_ (by omega)
        have x0 := hc (8 * k) (by omega)
        have x1 := hc (8 * k + 1) (by omega)
        have x2 := hc (8 * k + 2) (by omega)
        have x3 := hc (8 * k + 3) (by omega)
        have q0 := bt_lt l (8 * k)
        have q1 := bt_lt l (8 * k + 1)
        have q2 := bt_lt l (8 * k + 2)
        have q3 := bt_lt l (8 * k + 3)
        clear hc HBR
        generalize bt l (8 * k) = b0 at *
        generalize bt l (8 * k + 1) = b1 at *
        generalize bt l (8 * k + 2) = b2 at *
        generalize bt l (8 * k + 3) = b3 at *
        generalize uintV l ((8 * k + 4 : Nat) : Int) 4 = im at *
        generalize uintE l ((8 * k + 4 : Nat) : Int) 4 = ie at *
        rw [show ((8 * k + 4 : Nat) : Int) = 8 * (k : Int) + 4 by omega] at hU
        have HU := Lib.hid hU
        clear hU
        obtain ⟨cur, c1, c2, _⟩ := HDB.out
        have z0 := Lib.frozen_of_heap c1 (k * 5)
        have z1 := Lib.frozen_of_heap c1 (k * 5 + 1)
        have z2 := Lib.frozen_of_heap c1 (k * 5 + 2)
        have z3 := Lib.frozen_of_heap c1 (k * 5 + 3)
        have z4 := Lib.frozen_of_heap c1 (k * 5 + 4)
        obtain ⟨u0, v0⟩ : ∃ u, wr.cell? ⟨w.heap.size, k * 5, none⟩ = some u := ⟨_, by rw [Lib.cell_of_heap c1]; exact Array.getElem?_eq_getElem (by omega)⟩
        obtain ⟨u1, v1⟩ : ∃ u, wr.cell? ⟨w.heap.size, k * 5 + 1, none⟩ = some u := ⟨_, by rw [Lib.cell_of_heap c1]; exact Array.getElem?_eq_getElem (by omega)⟩
        obtain ⟨u2, v2⟩ : ∃ u, wr.cell? ⟨w.heap.size, k * 5 + 2, none⟩ = some u := ⟨_, by rw [Lib.cell_of_heap c1]; exact Array.getElem?_eq_getElem (by omega)⟩
        obtain ⟨u3, v3⟩ : ∃ u, wr.cell? ⟨w.heap.size, k * 5 + 3, none⟩ = some u := ⟨_, by rw [Lib.cell_of_heap c1]; exact Array.getElem?_eq_getElem (by omega)⟩
        obtain ⟨u4, v4⟩ : ∃ u, wr.cell? ⟨w.heap.size, k * 5 + 4, none⟩ = some u := ⟨_, by rw [Lib.cell_of_heap c1]; exact Array.getElem?_eq_getElem (by omega)⟩
        clear c1 c2
        go_wp2_with fail
        go_fit HU.out
        rintro e w2 ⟨rfl, rfl⟩
        have hgl : w.heap.size ≤ w.heap.size := Nat.le_refl _
        have hgs := HBL.out.size
        go_wp2
        have HBL2 : Hid (Below w.heap.size w (((((wr.setCell ⟨w.heap.size, k * 5, none⟩ (.int .i64 b0)).setCell ⟨w.heap.size, k * 5 + 1, none⟩ (.int .i64 b1)).setCell ⟨w.heap.size, k * 5 + 2, none⟩ (.int .i64 b2)).setCell ⟨w.heap.size, k * 5 + 3, none⟩ (.int .i64 b3)).setCell ⟨w.heap.size, k * 5 + 4, none⟩ (.int .i32 (wrap32 im))).drew) := Lib.hid (((((HBL.out.setCell (p := ⟨w.heap.size, _, none⟩) hgl _).setCell (p := ⟨w.heap.size, _, none⟩) hgl _).setCell (p := ⟨w.heap.size, _, none⟩) hgl _).setCell (p := ⟨w.heap.size, _, none⟩) hgl _).setCell (p := ⟨w.heap.size, _, none⟩) hgl _).drew
        go_region
        generalize (((((wr.setCell ⟨w.heap.size, k * 5, none⟩ (.int .i64 b0)).setCell ⟨w.heap.size, k * 5 + 1, none⟩ (.int .i64 b1)).setCell ⟨w.heap.size, k * 5 + 2, none⟩ (.int .i64 b2)).setCell ⟨w.heap.size, k * 5 + 3, none⟩ (.int .i64 b3)).setCell ⟨w.heap.size, k * 5 + 4, none⟩ (.int .i32 (wrap32 im))).drew = w3 at *
        clear HU HV HD z0 z1 z2 z3 z4 v0 v1 v2 v3 v4 x0 x1 x2 x3 HG
        go_wp2
        go_round
        case rel => exact ⟨k + 1, by go_num, by omega, HPUT, HBL2⟩
        case measure => simp [intOf]; omega
      · obtain rfl : k = n := by omega
        have f0 : decide ((k : Int) < k) = false := by simp
        have HVV := Lib.hid (HV.out _ _ HBL.out HDB.out)
        clear HV
        go_wp2_with fail
        go_fit HVV.out
        rintro e w2 ⟨rfl, hb2⟩
        have HB2 := Lib.hid (bel_next HBL.out hb2)
        have hgl : w.heap.size < wr.heap.size := by
          obtain ⟨cur, c1, _, _⟩ := HDB.out
          rcases Nat.lt_or_ge w.heap.size wr.heap.size with h | h
          · exact h
          · rw [Array.getElem?_eq_none h] at c1; cases c1
        have HDB2 := Lib.hid (HDB.out.keep (hb2.block _ hgl))
        clear hb2 HDB
        have hE : Hid (EE (if valP (decP l) = 0 then .returned (.tuple #[.slice (some ⟨w.heap.size, 0, none⟩) k k, .int .i64 0]) else .returned (.tuple #[.slice none 0 0, .int .i64 (valP (decP l))])) w2) := Lib.hid ((HD.out _ _).2 ⟨HB2.out, by
          by_cases hv : valP (decP l) = 0
          · rw [if_pos hv, if_pos hv]; exact ⟨_, rfl, Nat.le_refl _, HDB2.out⟩
          · rw [if_neg hv, if_neg hv]⟩)
        clear HD HDB2
        generalize valP (decP l) = ev at *
        by_cases hv : ev = 0
        · subst hv
          go_wp2
          exact hE.out
        · rw [if_neg hv] at hE
          go_wp2
          exact hE.out
end Go.Proofs.YtahhmgoffdggpaaGreatDoor
