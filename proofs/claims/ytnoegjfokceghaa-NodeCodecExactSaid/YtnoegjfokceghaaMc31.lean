/-
  The reference's reader: Id and Take; SameBytes.
  Conditions: as each says.
  The reference's DecodeNode.
  Conditions: at most a thousand bytes.
-/
import Derived.Test.YtnoegjfokceghaaMc30
import Derived.Test.YtnoegjfokceghaaMc29
namespace Go.Proofs.Ytnoegjfokceghaa
open Go.RowKit

theorem RF.ko {R : Nat} {s : RS12} {W W' : World} (h : RF W R s) {N : Nat} (hN : N ≠ R) (hl : R ≤ N) (j : Nat) (v : Value) (e : W' = W.setCell ⟨N, j, none⟩ v) : RF W' R s := by
  subst e
  obtain ⟨A, m, c, h, hb2, hm⟩ := h
  exact ⟨A, m, c, (Below.heap_setCell W ⟨N, j, none⟩ v R (fun e => hN e.symm)).trans h, hb2.below ((Below.refl R W).setCell (p := ⟨N, j, none⟩) hl _), hm⟩
set_option maxRecDepth 20000 in
set_option maxHeartbeats 2000000 in
theorem rRid_any (R : Nat) (s : RS12) (w : World) (hr : RF w R s) : Calls Try.prog 58 #[.pointer (some ⟨R, 0, none⟩)] w fun e w' => e = .returned (idS s).1.val ∧ RF w' R (idS s).2 ∧ Ko R w w' := by
  have HN := Lib.hid fun s' W (h : RF W R s') => rNum_any R s' W h
  have HR := Lib.hid (hr.next (belt (Below.refl _ w) (.cells #[.int .i64 0, .int .i64 0, .int .i64 0] 23)))
  have HK : Hid (Ko R w (w.alloc (.cells #[.int .i64 0, .int .i64 0, .int .i64 0] 23))) := Lib.hid (Ko.bel (belt (Below.refl _ w) _))
  have HI := Lib.hid (IB.new w ⟨0, 0, 0⟩)
  have HRL := Lib.hid hr.lt
  have HQ : Hid (idS s = (⟨((numS s).1 : Int), ((numS (numS s).2).1 : Int), ((numS (numS (numS s).2).2).1 : Int)⟩, (numS (numS (numS s).2).2).2)) := Lib.hid rfl
  rw [HQ.out]
  clear HQ hr
  simp only [GId.val]
  generalize h1 : numS s = a1
  generalize h2 : numS a1.2 = a2
  generalize h3 : numS a2.2 = a3
  have HN1 := Lib.hid (HN.out s)
  have HN2 := Lib.hid (HN.out a1.2)
  have HN3 := Lib.hid (HN.out a2.2)
  rw [h1] at HN1
  rw [h2] at HN2
  rw [h3] at HN3
  clear h1 h2 h3 HN
  go_enter Try.func58, Try.ntmps58
  go_wp2_with fail
  go_fit (HN1.out _ HR.out)
  rintro e w1 ⟨rfl, hr1, hk1⟩
  have HI1 := Lib.hid (show IB w1 w.heap.size ⟨0, 0, 0⟩ from (hk1.block _ (by simp) (fun e => by cases e; have := HRL.out; omega)).trans HI.out)
  have HR1 := Lib.hid hr1
  have HK1 := Lib.hid (HK.out.trans hk1)
  clear hr1 hk1 HI HR HK HN1
  go_wp2_with fail
  go_fit (HN2.out _ HR1.out)
  rintro e w2 ⟨rfl, hr2, hk2⟩
  have HI2 := Lib.hid (show IB w2 w.heap.size ⟨0, 0, 0⟩ from (hk2.block _ HI1.out.lt (fun e => by cases e; have := HRL.out; omega)).trans HI1.out)
  have HR2 := Lib.hid hr2
  have HK2 := Lib.hid (HK1.out.trans hk2)
  clear hr2 hk2 HI1 HR1 HK1 HN2
  go_wp2_with fail
  go_fit (HN3.out _ HR2.out)
  rintro e w3 ⟨rfl, hr3, hk3⟩
  have HI3 := Lib.hid (show IB w3 w.heap.size ⟨0, 0, 0⟩ from (hk3.block _ HI2.out.lt (fun e => by cases e; have := HRL.out; omega)).trans HI2.out)
  have HR3 := Lib.hid hr3
  have HK3 := Lib.hid (HK2.out.trans hk3)
  clear hr3 hk3 HI2 HR2 HK2 HN3
  obtain ⟨z0, z1, z2⟩ := HI3.out.cells
  have zf := HI3.out.frz
  have zl := HI3.out.lt
  simp only at z0 z1 z2
  have HKA : Hid (∀ (W : World) j v, Ko R w W → Ko R w (W.setCell ⟨w.heap.size, j, none⟩ v)) := Lib.hid fun W j v h => ⟨h.os, h.tape, h.output, Nat.le_trans h.size (by simp), fun i hi hne => (Below.heap_setCell W ⟨w.heap.size, j, none⟩ v i (by show i ≠ w.heap.size; omega)).trans (h.block i hi hne)⟩
  have HRA : Hid (∀ (W : World) j v, RF W R a3.2 → RF (W.setCell ⟨w.heap.size, j, none⟩ v) R a3.2) := Lib.hid fun W j v h => h.ko (N := w.heap.size) (by have := HRL.out; omega) (by have := HRL.out; omega) j v rfl
  go_wp2
  refine bodyPost_ret (v := .agg #[.int .i64 (a1.1 : Nat), .int .i64 (a2.1 : Nat), .int .i64 (a3.1 : Nat)]) (by simp [results, Try.results58, go_sem, z0, z1, z2]) rfl ?_
  refine ⟨rfl, ?_, ?_⟩
  · repeat (refine HRA.out _ _ _ ?_)
    exact HR3.out
  · repeat (refine HKA.out _ _ _ ?_)
    exact HK3.out
/-- Take(10). -/
def tkL (s : RS12) : List UInt8 := if s.bad = true ∨ s.l.length < 10 then [] else s.l.take 10
def tkS (s : RS12) : RS12 := if s.bad = true ∨ s.l.length < 10 then ⟨s.l, true⟩ else ⟨s.l.drop 10, false⟩
def TkEnd (R : Nat) (s : RS12) (w : World) (e : Ending) (w' : World) : Prop := ∃ A' c', e = .returned (.slice A' (tkL s).length c') ∧ Byt w' R A' (tkL s).length (tkL s) ∧ RF w' R (tkS s) ∧ Ko R w w'
set_option maxRecDepth 20000 in
set_option maxHeartbeats 2000000 in
theorem rTake_any (R : Nat) (s : RS12) (w : World) (hr : RF w R s) : Calls Try.prog 61 #[.pointer (some ⟨R, 0, none⟩), .int .i64 10] w (TkEnd R s w) := by
  have HEND : Hid (∀ e W, TkEnd R s w e W ↔ ∃ A' c', e = .returned (.slice A' (tkL s).length c') ∧ Byt W R A' (tkL s).length (tkL s) ∧ RF W R (tkS s) ∧ Ko R w W) := Lib.hid fun e W => Iff.rfl
  have HS := Lib.hid hr
  have HK0 : Hid (Ko R w w) := Lib.hid (Ko.bel (Below.refl _ _))
  obtain ⟨l, bad⟩ := s
  obtain ⟨A, m, c, hh, hby, hmc⟩ := hr
  have r0 : w.cell? ⟨R, 0, none⟩ = some (.slice A m c) := by rw [Lib.cell_of_heap hh]; rfl
  have r1 : w.cell? ⟨R, 1, none⟩ = some (.bool bad) := by rw [Lib.cell_of_heap hh]; rfl
  have rf := Lib.frozen_of_heap hh
  have rl := HS.out.lt
  have HF := Lib.hid HS.out.fail
  simp only at HF hby
  generalize TkEnd R ⟨l, bad⟩ w = EE at *
  go_enter Try.func61, Try.ntmps61
  by_cases hb : bad = true ∨ l.length < 10
  · have hL : tkL ⟨l, bad⟩ = [] := if_pos hb
    have hT : tkS ⟨l, bad⟩ = ⟨l, true⟩ := if_pos hb
    have HX : Hid (EE (.returned (.slice none 0 0)) (w.setCell ⟨R, 1, none⟩ (.bool true))) := Lib.hid (by
      rw [HEND.out, hL, hT]
      exact ⟨none, 0, rfl, Byt.nil, HF.out, HK0.out.set _ _⟩)
    clear hL hT
    rcases bad with _ | _
    · have f2 : decide ((m : Int) < 10) = true := by
        have h := hby.1
        simp at hb ⊢
        omega
      clear hb
      go_wp2
      exact HX.out
    · clear hb
      go_wp2
      exact HX.out
  · have hbad : bad = false := by simpa using fun h => hb (.inl h)
    subst hbad
    have h10 : 10 ≤ m := by
      have h := hby.1
      simp at hb
      omega
    have f2 : decide ((m : Int) < 10) = false := by simp; omega
    have hL : tkL ⟨l, false⟩ = l.take 10 := if_neg hb
    have hT : tkS ⟨l, false⟩ = ⟨l.drop 10, false⟩ := if_neg hb
    have hlen : (l.take 10).length = 10 := by rw [List.length_take, hby.1]; omega
    have hcut : ∀ W : World, (Instr.sliceAt 45 (.slice A m c) (some (.int .i64 10)) none none).run Try.prog W = .ok (.slice (cutA A c 10) (m - 10) (c - 10)) W := fun W => cut_from A m c 10 h10 W
    have hcut2 : ∀ W : World, (Instr.slice 45 (.slice A m c) (some (.int .i64 10)) none none).run Try.prog W = .ok (.slice (cutA A c 10) (m - 10) (c - 10)) W := fun W => by
      have h := hcut W
      rw [run_sliceAt_slice _ _ _ _ _ _ byte_elem] at h
      exact h
    have hto : ∀ W : World, (Instr.sliceAt 45 (.slice A m c) none (some (.int .i64 10)) none).run Try.prog W = .ok (.slice A 10 c) W := fun W => cut_to A m c 10 (by omega) W
    have hto2 : ∀ W : World, (Instr.slice 45 (.slice A m c) none (some (.int .i64 10)) none).run Try.prog W = .ok (.slice A 10 c) W := fun W => by
      have h := hto W
      rw [run_sliceAt_slice _ _ _ _ _ _ byte_elem] at h
      exact h
    have HE := Lib.hid (RF.eat hh hby hmc 10 h10)
    have HX : Hid (EE (.returned (.slice A 10 c)) (w.setCell ⟨R, 0, none⟩ (.slice (cutA A c 10) (m - 10) (c - 10)))) := Lib.hid (by
      rw [HEND.out, hL, hT, hlen]
      exact ⟨A, c, rfl, (hby.to h10).below ((Below.refl R w).setCell (p := ⟨R, 0, none⟩) (Nat.le_refl _) _), HE.out, HK0.out.set _ _⟩)
    generalize cutA A c 10 = AC at *
    clear hb hL hT hlen HE
    go_wp2
    exact HX.out
set_option maxRecDepth 20000 in
theorem rSby_any (A B : Option Addr) (c d : Nat) (la lb : List UInt8) (w : World) (h1 : Byt w w.heap.size A la.length la) (h2 : Byt w w.heap.size B lb.length lb) : Calls Try.prog 62 #[.slice A la.length c, .slice B lb.length d] w fun e w' => e = .returned (.bool (decide (la = lb))) ∧ w' = w := by
  have hk1 := h1.str c
  have hk2 := h2.str d
  have HQ : Hid (((bs la).toList == (bs lb).toList) = decide (la = lb)) := Lib.hid (by
    rw [bs_list, bs_list, Bool.eq_iff_iff]
    simp)
  generalize decide (la = lb) = q at *
  generalize bs la = sa at *
  generalize bs lb = sb at *
  clear h1 h2
  go_enter Try.func62, Try.ntmps62
  go_wp2
  go_ret
  exact ⟨congrArg (fun b => Ending.returned (Value.bool b)) HQ.out, rfl⟩
end Go.Proofs.Ytnoegjfokceghaa


namespace Go.Proofs.Ytnoegjfokceghaa
open Go.RowKit

theorem RF.keep {W W' : World} {R B : Nat} {s : RS12} (h : RF W R s) (hb : Below B W W') (hB : R < B) : RF W' R s := by
  obtain ⟨A, m, c, h, hb2, hm⟩ := h
  exact ⟨A, m, c, (hb.block R hB).trans h, hb2.below (hb.mono (by omega)), hm⟩
theorem numS_len (s : RS12) : (numS s).2.l.length ≤ s.l.length ∧ ((numS s).2.bad = false → (numS s).2.l.length < s.l.length ∧ s.bad = false) := numR_len 5 1 0 s
theorem idS_len {s : RS12} (h : (idS s).2.bad = false) : s.bad = false ∧ (idS s).2.l.length + 1 ≤ s.l.length := by
  unfold idS at h ⊢
  simp only at h ⊢
  obtain ⟨a, b⟩ := (numS_len _).2 h
  obtain ⟨a2, b2⟩ := (numS_len _).2 b
  obtain ⟨a3, b3⟩ := (numS_len _).2 b2
  exact ⟨b3, by omega⟩
theorem numS_max (s : RS12) : (numS s).1 < 9223372036854775807 := by
  have h : ∀ (f m a : Nat) (s : RS12), (numR f m a s).1 + m ≤ a + 128 ^ f * m := by
    intro f
    induction f with
    | zero => intro m a s; rw [num_end, Nat.pow_zero]; omega
    | succ f ih =>
      intro m a s
      obtain ⟨l, bad⟩ := s
      have hp0 : 1 * m ≤ 128 ^ (f + 1) * m := Nat.mul_le_mul_right _ (Nat.pow_pos (by omega))
      rcases bad with _ | _
      · rcases l with _ | ⟨x, r⟩
        · rw [num_bad (.inr rfl)]; simp only; omega
        · have hx : x.toNat % 128 * m ≤ 127 * m := Nat.mul_le_mul_right _ (by omega)
          have hp : 1 * m ≤ 128 ^ f * m := Nat.mul_le_mul_right _ (Nat.pow_pos (by omega))
          have he : 128 ^ (f + 1) * m = 128 * (128 ^ f * m) := by rw [Nat.pow_succ, Nat.mul_comm (128 ^ f) 128, Nat.mul_assoc]
          by_cases h1 : x.toNat < 128
          · rw [num_last h1]; simp only; omega
          · rw [num_more h1]
            have h2 := ih (m * 128) (a + x.toNat % 128 * m) ⟨r, false⟩
            have h3 : 128 ^ f * (m * 128) = 128 * (128 ^ f * m) := by rw [Nat.mul_comm m 128, ← Nat.mul_assoc, Nat.mul_comm (128 ^ f) 128, Nat.mul_assoc]
            omega
      · rw [num_bad (.inl rfl)]; simp only; omega
  have h5 := h 5 1 0 s
  have e : (128 : Nat) ^ 5 = 34359738368 := by decide
  rw [e] at h5
  unfold numS
  omega
theorem idsS_bad (k : Nat) {s : RS12} (h : s.bad = true) : idsS k s = ([], s) := by
  cases k with
  | zero => rfl
  | succ k => rw [idsS, if_pos h]
/-- What DecodeNode makes of bytes. -/
def ren1 (l : List UInt8) : GId × RS12 := idS ⟨l, false⟩
def ren2 (l : List UInt8) : Nat × RS12 := numS (ren1 l).2
def ren3 (l : List UInt8) : List GId × RS12 := idsS (ren2 l).1 (ren2 l).2
def renN (l : List UInt8) : GN := ⟨(ren1 l).1, (ren3 l).1, decC (tkL (ren3 l).2)⟩
def okR (l : List UInt8) : Prop := (tkS (ren3 l).2).bad = false ∧ decE (tkL (ren3 l).2) = 0 ∧ vN (renN l) = true ∧ encN (renN l) = l
theorem enc_okR {x : GN} (hv : vN x = true) : okR (encN x) := by
  obtain ⟨f1, f2, f3, f4, f5, f6⟩ := vN_facts hv
  have e0 : encN x = idL x.id ++ (uvar x.path.length ++ (x.path.flatMap idL ++ encC x.cap)) := by simp [encN, hdN]
  have h1 : ren1 (encN x) = (x.id, ⟨uvar x.path.length ++ (x.path.flatMap idL ++ encC x.cap), false⟩) := by unfold ren1; rw [e0]; exact idS_idL f1 _
  have h2 : ren2 (encN x) = (x.path.length, ⟨x.path.flatMap idL ++ encC x.cap, false⟩) := by unfold ren2; rw [h1]; exact numS_uvar (by omega) _
  have h3 : ren3 (encN x) = (x.path, ⟨encC x.cap, false⟩) := by unfold ren3; rw [h2]; exact idsS_flat x.path f4 _
  have h10 : (encC x.cap).length = 10 := rfl
  have ht : tkL ⟨encC x.cap, false⟩ = encC x.cap := by unfold tkL; rw [if_neg (by simp [h10])]; rfl
  obtain ⟨q1, q2⟩ := dec_enc f2
  have hn : renN (encN x) = x := by unfold renN; rw [h1, h3]; simp only; rw [ht, q1]
  refine ⟨?_, ?_, by rw [hn]; exact hv, by rw [hn]⟩
  · rw [h3]; unfold tkS; rw [if_neg (by simp [h10])]
  · rw [h3]; simp only; rw [ht, q2]
theorem DecOk.of_okR {l : List UInt8} (h : okR l) : DecOk l (renN l) 0 := .inl ⟨rfl, h.2.2.1, h.2.2.2⟩
theorem DecOk.of_notR {l : List UInt8} (h : ¬ okR l) : DecOk l ⟨⟨0, 0, 0⟩, [], ⟨0, 0, 0, 0, 0, 0, false⟩⟩ 14 := .inr ⟨rfl, rfl, fun y hy e => h (by rw [← e]; exact enc_okR hy)⟩
theorem rend_bad {l : List UInt8} (h : ¬ okR l) (w W : World) (hb : Below w.heap.size w W) : DEnd l w (.returned (.tuple #[.agg #[.int .i64 0, .int .i64 0, .int .i64 0, .slice none 0 0, .int .i64 0, .int .i64 0, .int .i64 0, .int .i64 0, .int .i64 0, .int .i64 0, .bool false], .int .i64 14])) W :=
  ⟨_, 14, DecOk.of_notR h, none, 0, rfl, by simp, OwnG.nil _ _, hb⟩
theorem rend_ok {l : List UInt8} (h : okR l) (w W : World) (A : Option Addr) (c : Nat) (hc : (renN l).path.length ≤ c) (ho : OwnG GId.cells 23 3 W w.heap.size (.slice A (renN l).path.length c) (renN l).path) (hb : Below w.heap.size w W) : DEnd l w (.returned (.tuple #[(renN l).val A c, .int .i64 0])) W :=
  ⟨_, 0, DecOk.of_okR h, A, c, rfl, hc, ho, hb⟩
set_option maxRecDepth 20000 in
set_option maxHeartbeats 8000000 in
theorem rDecN_any (l : List UInt8) (A : Option Addr) (c : Nat) (w : World) (h : Byt w w.heap.size A l.length l) (hn : l.length ≤ 1000) (hc : l.length ≤ c) : Calls Try.prog 31 #[.slice A l.length c] w (DEnd l w) := by
  have HBY := Lib.hid fun W (hW : Below w.heap.size w W) => h.below hW
  have HBAD1 : Hid (¬ okR l → ∀ W, Below w.heap.size w W → DEnd l w (.returned (.tuple #[.agg #[.int .i64 0, .int .i64 0, .int .i64 0, .slice none 0 0, .int .i64 0, .int .i64 0, .int .i64 0, .int .i64 0, .int .i64 0, .int .i64 0, .bool false], .int .i64 14])) W) := Lib.hid fun h W hb => rend_bad h w W hb
  have HOK0 : Hid (okR l → ∀ W A' c', (renN l).path.length ≤ c' → OwnG GId.cells 23 3 W w.heap.size (.slice A' (renN l).path.length c') (renN l).path → Below w.heap.size w W → DEnd l w (.returned (.tuple #[(renN l).val A' c', .int .i64 0])) W) := Lib.hid fun h W A' c' hcc ho hb => rend_ok h w W A' c' hcc ho hb
  have HOKN : Hid (okR l ↔ ((tkS (ren3 l).2).bad = false ∧ decE (tkL (ren3 l).2) = 0 ∧ vN (renN l) = true ∧ encN (renN l) = l)) := Lib.hid Iff.rfl
  have HD1 : Hid (ren1 l = idS ⟨l, false⟩) := Lib.hid rfl
  have HD2 : Hid (ren2 l = numS (ren1 l).2) := Lib.hid rfl
  have HD3 : Hid (ren3 l = idsS (ren2 l).1 (ren2 l).2) := Lib.hid rfl
  have HDN : Hid (renN l = ⟨(ren1 l).1, (ren3 l).1, decC (tkL (ren3 l).2)⟩) := Lib.hid rfl
  have HMX : Hid ((ren2 l).1 < 9223372036854775807) := Lib.hid (numS_max _)
  have HL2 : Hid ((ren2 l).2.bad = false → (ren2 l).2.l.length ≤ l.length) := Lib.hid fun _ => by
    have h1 := (numS_len (ren1 l).2).1
    have h2 : (ren1 l).2.l.length ≤ l.length := by
      unfold ren1 idS
      simp only
      have a := (numS_len ⟨l, false⟩).1
      have b := (numS_len (numS ⟨l, false⟩).2).1
      have d := (numS_len (numS (numS ⟨l, false⟩).2).2).1
      simp only at a
      omega
    unfold ren2
    omega
  generalize DEnd l w = EE at *
  generalize okR l = okk at *
  have HSC : Hid (∀ (W : World) (p : Value) (k : Nat), w.heap.size ≤ k → Below w.heap.size w W → ∀ j, Below w.heap.size w (W.setCell ⟨k, j, none⟩ p)) := Lib.hid fun W p k hk hb j => hb.setCell (p := ⟨k, j, none⟩) hk p
  have HZ0 := Lib.hid ((NB.new w ⟨0, 0, 0⟩ none 0 0 ⟨0, 0, 0, 0, 0, 0, false⟩).next (belt (Below.refl _ _) (.cells #[.slice A l.length c, .bool false] 83)))
  have HR0 : Hid (RF ((w.alloc (.cells #[.int .i64 0, .int .i64 0, .int .i64 0, .slice none 0 0, .int .i64 0, .int .i64 0, .int .i64 0, .int .i64 0, .int .i64 0, .int .i64 0, .bool false] 28)).alloc (.cells #[.slice A l.length c, .bool false] 83)) (w.heap.size + 1) ⟨l, false⟩) := Lib.hid (by
    have h9 := heap_alloc_new (w.alloc (.cells #[.int .i64 0, .int .i64 0, .int .i64 0, .slice none 0 0, .int .i64 0, .int .i64 0, .int .i64 0, .int .i64 0, .int .i64 0, .int .i64 0, .bool false] 28)) (.cells #[.slice A l.length c, .bool false] 83)
    rw [World.size_alloc] at h9
    exact ⟨A, l.length, c, h9, (h.below (belt (belt (Below.refl _ w) _) _)).wide (by omega), hc⟩)
  have HB0 := Lib.hid (belt (belt (Below.refl _ w) (.cells #[.int .i64 0, .int .i64 0, .int .i64 0, .slice none 0 0, .int .i64 0, .int .i64 0, .int .i64 0, .int .i64 0, .int .i64 0, .int .i64 0, .bool false] 28)) (.cells #[.slice A l.length c, .bool false] 83))
  clear h
  go_enter Try.func31, Try.ntmps31
  have HC1 := Lib.hid (rRid_any (w.heap.size + 1) ⟨l, false⟩ _ HR0.out)
  rw [← HD1.out] at HC1
  go_wp2_with fail
  generalize (w.alloc (.cells #[.int .i64 0, .int .i64 0, .int .i64 0, .slice none 0 0, .int .i64 0, .int .i64 0, .int .i64 0, .int .i64 0, .int .i64 0, .int .i64 0, .bool false] 28)).alloc (.cells #[.slice A l.length c, .bool false] 83) = w0 at *
  go_fit HC1.out
  rintro e w1 ⟨rfl, hr1, hk1⟩
  have HR1 := Lib.hid hr1
  have HZ1 : Hid (NB w1 w.heap.size ⟨0, 0, 0⟩ none 0 0 ⟨0, 0, 0, 0, 0, 0, false⟩) := Lib.hid ((hk1.block _ HZ0.out.lt (fun e => by simp at e)).trans HZ0.out)
  have HB1 := Lib.hid (hk1.below HB0.out HB0.out.size (by omega))
  have HRL1 := Lib.hid hr1.lt
  clear hr1 hk1 HR0 HZ0 HB0 HC1
  generalize ren1 l = d1 at *
  obtain ⟨⟨i0, i1, i2⟩, s1⟩ := d1
  simp only [GId.val] at *
  have HN2 := Lib.hid (NB.new w1 ⟨i0, i1, i2⟩ none 0 0 ⟨0, 0, 0, 0, 0, 0, false⟩)
  have HR2 := Lib.hid (HR1.out.next (belt (Below.refl _ _) (.cells #[.int .i64 i0, .int .i64 i1, .int .i64 i2, .slice none 0 0, .int .i64 0, .int .i64 0, .int .i64 0, .int .i64 0, .int .i64 0, .int .i64 0, .bool false] 28)))
  have HZ2 := Lib.hid (HZ1.out.next (belt (Below.refl _ _) (.cells #[.int .i64 i0, .int .i64 i1, .int .i64 i2, .slice none 0 0, .int .i64 0, .int .i64 0, .int .i64 0, .int .i64 0, .int .i64 0, .int .i64 0, .bool false] 28)))
  have HB2 := Lib.hid (belt HB1.out (.cells #[.int .i64 i0, .int .i64 i1, .int .i64 i2, .slice none 0 0, .int .i64 0, .int .i64 0, .int .i64 0, .int .i64 0, .int .i64 0, .int .i64 0, .bool false] 28))
  have HC2 := Lib.hid (rNum_any (w.heap.size + 1) s1 _ HR2.out)
  rw [← HD2.out] at HC2
  simp only at HN2
  go_wp2_with fail
  generalize w1.alloc (.cells #[.int .i64 i0, .int .i64 i1, .int .i64 i2, .slice none 0 0, .int .i64 0, .int .i64 0, .int .i64 0, .int .i64 0, .int .i64 0, .int .i64 0, .bool false] 28) = w2 at *
  generalize hM : w1.heap.size = M at *
  go_fit HC2.out
  rintro e w3 ⟨rfl, hr3, hk3⟩
  have HRW : Hid (w.heap.size < w.heap.size + 1) := Lib.hid (by omega)
  have HRM : Hid (w.heap.size + 1 < M) := Lib.hid HRL1.out
  have HM : Hid (w.heap.size ≤ M) := Lib.hid (by have := HRM.out; omega)
  have HR3 := Lib.hid hr3
  have HZ3 : Hid (NB w3 w.heap.size ⟨0, 0, 0⟩ none 0 0 ⟨0, 0, 0, 0, 0, 0, false⟩) := Lib.hid ((hk3.block _ HZ2.out.lt (fun e => by simp at e)).trans HZ2.out)
  have HN3 : Hid (NB w3 M ⟨i0, i1, i2⟩ none 0 0 ⟨0, 0, 0, 0, 0, 0, false⟩) := Lib.hid ((hk3.block _ HN2.out.lt (fun e => by have := HRM.out; simp at e; omega)).trans HN2.out)
  have HB3 := Lib.hid (hk3.below HB2.out HB2.out.size (by omega))
  clear hr3 hk3 HR2 HZ2 HB2 HN2 HC2 HR1 HZ1 HB1 HRL1 hM
  generalize ren2 l = d2 at *
  obtain ⟨cn, s2⟩ := d2
  simp only at *
  have HS0 : Hid (idsS cn s2 = (([] : List GId) ++ (idsS (cn - 0) s2).1, (idsS (cn - 0) s2).2)) := Lib.hid rfl
  have HL0 : Hid (([] : List GId).length ≤ l.length + 1 ∧ (s2.bad = false → ([] : List GId).length + s2.l.length ≤ l.length)) := Lib.hid ⟨by simp, fun h => by have := HL2.out h; simpa using this⟩
  clear HL2
  go_wp2
  go_loopw [7] (fun vi wr => ∃ (k : Nat) (ys : List GId) (sk : RS12) (A5 : Option Addr) (c5 : Nat), vi = .int .i64 k ∧ k ≤ cn ∧ Hid (idsS cn s2 = (ys ++ (idsS (cn - k) sk).1, (idsS (cn - k) sk).2)) ∧ Hid (ys.length ≤ l.length + 1 ∧ (sk.bad = false → ys.length + sk.l.length ≤ l.length)) ∧ Hid (ys.length ≤ c5) ∧ Hid (RF wr (w.heap.size + 1) sk) ∧ Hid (NB wr M ⟨i0, i1, i2⟩ A5 ys.length c5 ⟨0, 0, 0, 0, 0, 0, false⟩) ∧ Hid (OwnG GId.cells 23 3 wr (M + 1) (.slice A5 ys.length c5) ys) ∧ Hid (NB wr w.heap.size ⟨0, 0, 0⟩ none 0 0 ⟨0, 0, 0, 0, 0, 0, false⟩) ∧ Hid (Below w.heap.size w wr)) (fun vi _ => cn - (intOf vi).toNat)
  case atStart => exact ⟨0, [], s2, none, 0, rfl, Nat.zero_le _, HS0, HL0, Lib.hid (Nat.le_refl _), HR3, HN3, Lib.hid (OwnG.nil _ _), HZ3, HB3⟩
  case round =>
    obtain ⟨k, ys, sk, A5, c5, rfl, hk, HY, HLY, HC5, HR, HNM, HO, HZ, HB⟩ := hrel
    clear HR3 HN3 HZ3 HB3 HS0 HL0
    generalize wr = w9 at *
    obtain ⟨A1, m1, c1, hh, _, _⟩ := HR.out
    have r1 : w9.cell? ⟨w.heap.size + 1, 1, none⟩ = some (.bool sk.bad) := by rw [Lib.cell_of_heap hh]; rfl
    have rl := HR.out.lt
    clear hh
    by_cases hgo : k < cn ∧ sk.bad = false
    · obtain ⟨hlt, hsb⟩ := hgo
      have f3 : decide ((k : Int) < (cn : Int)) = true := by simp; omega
      rw [hsb] at r1
      have HWK : Hid (wrap64 ((k : Int) + 1) = ((k + 1 : Nat) : Int)) := Lib.hid (by have := HMX.out; unfold wrap64; omega)
      have HYL : Hid (ys.length ≤ 1001) := Lib.hid (by have := HLY.out.1; omega)
      have HIX := Lib.hid (rRid_any (w.heap.size + 1) sk w9.drew (HR.out.next (Below.refl _ _).drew))
      have HSX : Hid (idsS cn s2 = ((ys ++ [(idS sk).1]) ++ (idsS (cn - (k + 1)) (idS sk).2).1, (idsS (cn - (k + 1)) (idS sk).2).2)) := Lib.hid (by
        rw [HY.out, show cn - k = (cn - (k + 1)) + 1 by omega, idsS, if_neg (by rw [hsb]; simp)]
        simp)
      have HLX : Hid ((ys ++ [(idS sk).1]).length ≤ l.length + 1 ∧ ((idS sk).2.bad = false → (ys ++ [(idS sk).1]).length + (idS sk).2.l.length ≤ l.length)) := Lib.hid (by
        have h1 := HLY.out.2 hsb
        refine ⟨by simp; omega, fun h => ?_⟩
        have h2 := (idS_len h).2
        simp
        omega)
      clear HY HLY hsb
      generalize idS sk = dk at *
      obtain ⟨⟨zc, zo, zp⟩, s1⟩ := dk
      simp only [GId.val] at HIX HSX HLX
      have HID := HIX
      have HSTEP := HSX
      have HLN := HLX
      generalize w.heap.size + 1 = R at *
      obtain ⟨d0, d1, d2, d3, d4, d5, d6, d7, d8, d9, d10⟩ := HNM.out.cells
      have hMl := HNM.out.lt
      simp only at d0 d1 d2 d3 d4 d5 d6 d7 d8 d9 d10
      go_upto_region 7 with fail
      refine wp_region_gt (S := fun _ => True) (.fl 0 (.fl 2 (.two 1 3 (.op 3 (.op 4 (.op 5 (.fl 6 (.op 7 .nil))))) (.two 1 4 (.op 4 (.op 5 (.fl 6 (.op 7 .nil)))) (.op 1 (.op 5 (.fl 6 (.op 7 .nil)))))))) (by kernel_rfl) (by kernel_rfl) (by kernel_rfl) (by kernel_rfl) (by intro c a d v w h; cases d <;> exact h) trivial ?_
      iterate 2
        (first
          | (refine wpGT_float (v := ?_) (by simp only [List.getElem?_toArray, List.getElem?_cons_succ, List.getElem?_cons_zero]; rfl) (by rfl) ?_ ?_
             rotate_left
             · (intro W _; skip; go_simp; try with_reducible rfl)
             simp only [Act.put, List.setIfInBounds_toArray, List.set_cons_zero, List.set_cons_succ])
          | (refine wpGT_skip (by simp only [List.getElem?_toArray, List.getElem?_cons_succ, List.getElem?_cons_zero]; rfl) (by rfl) ?_
             simp only [Act.put, List.setIfInBounds_toArray, List.set_cons_zero, List.set_cons_succ]))
      refine wpGT_two ?_ ?_
      · refine wpOp_call (by simp only [List.getElem?_toArray, List.getElem?_cons_succ, List.getElem?_cons_zero]; rfl) (by rfl) fun K hK => ?_
        go_simp
        refine hK _ _ trivial ?_
        clear hK K
        try simp only [Act.put, List.setIfInBounds_toArray, List.set_cons_zero, List.set_cons_succ]
        refine wpGT_call (by simp only [List.getElem?_toArray, List.getElem?_cons_succ, List.getElem?_cons_zero]; rfl) (by rfl) fun K hK => ?_
        go_simp
        go_fit HID.out
        rintro e wn ⟨rfl, hr1, hk1⟩
        have HK1 := Lib.hid hk1
        have HR1 := Lib.hid hr1
        have hMn : M < wn.heap.size := by have := hk1.size; have := HNM.out.lt; simp at *; omega
        have HN1 : Hid (NB wn M ⟨i0, i1, i2⟩ A5 ys.length c5 ⟨0, 0, 0, 0, 0, 0, false⟩) := Lib.hid ((hk1.block M HNM.out.lt (fun e => by cases e; have := HRM.out; omega)).trans HNM.out)
        have HZ1 : Hid (NB wn w.heap.size ⟨0, 0, 0⟩ none 0 0 ⟨0, 0, 0, 0, 0, 0, false⟩) := Lib.hid ((hk1.block _ HZ.out.lt (fun e => by cases e; have := HRW.out; omega)).trans HZ.out)
        have HO1 := Lib.hid (HO.out.keep (w' := wn) fun g hg => hk1.block g (HO.out.lt g hg).2 (fun e => by have h5 := (HO.out.lt g hg).1; have := HRM.out; simp at e; omega))
        have HB1 := Lib.hid (hk1.below HB.out.drew (by have := HB.out.size; exact this) (by have := HRW.out; omega))
        obtain ⟨dn0, dn1, dn2, dn3, dn4, dn5, dn6, dn7, dn8, dn9, dn10⟩ := HN1.out.cells
        clear dn0 dn1 dn2 dn4 dn5 dn6 dn7 dn8 dn9 dn10
        clear hr1 hk1
        go_simp
        refine hK _ _ trivial ?_
        clear hK K
        try simp only [Act.put, List.setIfInBounds_toArray, List.set_cons_zero, List.set_cons_succ]
        refine wpGT_call (by simp only [List.getElem?_toArray, List.getElem?_cons_succ, List.getElem?_cons_zero]; rfl) (by rfl) fun K hK => ?_
        go_simp
        refine hK _ _ trivial ?_
        clear hK K
        try simp only [Act.put, List.setIfInBounds_toArray, List.set_cons_zero, List.set_cons_succ]
        obtain ⟨v9, w7, hrun9, hown9, hg9, hlow9⟩ := OwnI.lit HO1.out (by omega) ⟨zc, zo, zp⟩ (by have := HYL.out; omega)
        have HB7 : Hid (Below w.heap.size w w7) := Lib.hid ((belt HB1.out _).grown hg9 (by have := HB1.out.size; simp; omega) (fun g e => by have := hlow9 g e; have := HM.out; omega))
        have HKB : Hid (∀ k, k ≤ M → w7.heap[k]? = wn.heap[k]?) := Lib.hid fun k hk => (hg9.block k (by simp; omega) (fun e => by have := hlow9 k e.symm; omega)).trans (Below.heap_alloc wn _ k (by omega))
        have HR7 : Hid (RF w7 R s1) := Lib.hid (HR1.out.keep (show Below (M + 1) wn w7 from ((Below.refl (M + 1) wn).alloc (by omega) _).grown hg9 (by simp; omega) (fun g e => hlow9 g e)) (by have := HRM.out; omega))
        have HN7 : Hid (NB w7 M ⟨i0, i1, i2⟩ A5 ys.length c5 ⟨0, 0, 0, 0, 0, 0, false⟩) := Lib.hid ((HKB.out M (Nat.le_refl _)).trans HN1.out)
        have HZ7 : Hid (NB w7 w.heap.size ⟨0, 0, 0⟩ none 0 0 ⟨0, 0, 0, 0, 0, 0, false⟩) := Lib.hid ((HKB.out _ (by have := HRW.out; have := HRM.out; omega)).trans HZ1.out)
        refine wpGT_call (by simp only [List.getElem?_toArray, List.getElem?_cons_succ, List.getElem?_cons_zero]; rfl) (by rfl) fun K hK => ?_
        refine oper_app10 (R := fun v W => v = v9 ∧ W = w7) ⟨v9, w7, hrun9, rfl, rfl⟩ rfl rfl rfl rfl ?_
        rintro v8 w8 ⟨rfl, rfl⟩
        obtain ⟨A9, c9, rfl, hc9, _, _⟩ := hown9.row GId.len
        rw [List.length_append, List.length_singleton] at hown9 hc9 ⊢
        have HO7 := Lib.hid hown9
        have HC9 := Lib.hid hc9
        refine hK _ _ trivial ?_
        clear hK K hc9 hown9 hg9 hlow9 hrun9
        try simp only [Act.put, List.setIfInBounds_toArray, List.set_cons_zero, List.set_cons_succ]
        iterate 1
          (first
            | (refine wpGT_float (v := ?_) (by simp only [List.getElem?_toArray, List.getElem?_cons_succ, List.getElem?_cons_zero]; rfl) (by rfl) ?_ ?_
               rotate_left
               · (intro W _; skip; go_simp; try with_reducible rfl)
               simp only [Act.put, List.setIfInBounds_toArray, List.set_cons_zero, List.set_cons_succ])
            | (refine wpGT_skip (by simp only [List.getElem?_toArray, List.getElem?_cons_succ, List.getElem?_cons_zero]; rfl) (by rfl) ?_
               simp only [Act.put, List.setIfInBounds_toArray, List.set_cons_zero, List.set_cons_succ]))
        obtain ⟨e0, e1, e2, e3, e4, e5, e6, e7, e8, e9, e10⟩ := HN7.out.cells
        have ef := HN7.out.frz
        have el := HN7.out.lt
        simp only at e0 e1 e2 e3 e4 e5 e6 e7 e8 e9 e10
        refine wpGT_call (by simp only [List.getElem?_toArray, List.getElem?_cons_succ, List.getElem?_cons_zero]; rfl) (by rfl) fun K hK => ?_
        go_simp
        refine hK _ _ trivial ?_
        clear hK K
        try simp only [Act.put, List.setIfInBounds_toArray, List.set_cons_zero, List.set_cons_succ]
        refine wpGT_nil ?_
        have HN9 := Lib.hid (HN7.out.setPath A9 (ys.length + 1) c9)
        have HO9 := Lib.hid (HO7.out.setOther (Nat.lt_succ_self M) 3 (.slice A9 (ys.length + 1) c9))
        have HR9 : Hid (RF (w8.setCell ⟨M, 3, none⟩ (.slice A9 (ys.length + 1) c9)) R s1) := Lib.hid (HR7.out.ko (N := M) (by have := HRM.out; omega) (by have := HRM.out; omega) 3 _ rfl)
        have HZ9 : Hid (NB (w8.setCell ⟨M, 3, none⟩ (.slice A9 (ys.length + 1) c9)) w.heap.size ⟨0, 0, 0⟩ none 0 0 ⟨0, 0, 0, 0, 0, 0, false⟩) := Lib.hid ((Below.heap_setCell w8 ⟨M, 3, none⟩ _ w.heap.size (by have := HRM.out; have := HRW.out; show w.heap.size ≠ M; omega)).trans HZ7.out)
        have HB9 : Hid (Below w.heap.size w (w8.setCell ⟨M, 3, none⟩ (.slice A9 (ys.length + 1) c9))) := Lib.hid (HB7.out.setCell (p := ⟨M, 3, none⟩) (by have := HM.out; show w.heap.size ≤ M; omega) _)
        clear HN7 HO7 HR7 HZ7 HB7 HKB HK1 HR1 HN1 HZ1 HO1 HB1 e0 e1 e2 e3 e4 e5 e6 e7 e8 e9 e10 ef el dn3
        go_wp2
        go_roundw
        case rel => exact ⟨k + 1, ys ++ [⟨zc, zo, zp⟩], s1, A9, c9, by rw [HWK.out], by omega, HSTEP, by simpa using HLN, by simpa using HC9, HR9, by simpa using HN9, by simpa using HO9, HZ9, HB9⟩
        case measure => rw [HWK.out]; simp [intOf]; omega
      · refine wpOp_call (by simp only [List.getElem?_toArray, List.getElem?_cons_succ, List.getElem?_cons_zero]; rfl) (by rfl) fun K hK => ?_
        go_simp
        go_fit HID.out
        rintro e wn ⟨rfl, hr1, hk1⟩
        have HK1 := Lib.hid hk1
        have HR1 := Lib.hid hr1
        have hMn : M < wn.heap.size := by have := hk1.size; have := HNM.out.lt; simp at *; omega
        have HN1 : Hid (NB wn M ⟨i0, i1, i2⟩ A5 ys.length c5 ⟨0, 0, 0, 0, 0, 0, false⟩) := Lib.hid ((hk1.block M HNM.out.lt (fun e => by cases e; have := HRM.out; omega)).trans HNM.out)
        have HZ1 : Hid (NB wn w.heap.size ⟨0, 0, 0⟩ none 0 0 ⟨0, 0, 0, 0, 0, 0, false⟩) := Lib.hid ((hk1.block _ HZ.out.lt (fun e => by cases e; have := HRW.out; omega)).trans HZ.out)
        have HO1 := Lib.hid (HO.out.keep (w' := wn) fun g hg => hk1.block g (HO.out.lt g hg).2 (fun e => by have h5 := (HO.out.lt g hg).1; have := HRM.out; simp at e; omega))
        have HB1 := Lib.hid (hk1.below HB.out.drew (by have := HB.out.size; exact this) (by have := HRW.out; omega))
        obtain ⟨dn0, dn1, dn2, dn3, dn4, dn5, dn6, dn7, dn8, dn9, dn10⟩ := HN1.out.cells
        clear dn0 dn1 dn2 dn4 dn5 dn6 dn7 dn8 dn9 dn10
        clear hr1 hk1
        go_simp
        refine hK _ _ trivial ?_
        clear hK K
        try simp only [Act.put, List.setIfInBounds_toArray, List.set_cons_zero, List.set_cons_succ]
        refine wpGT_two ?_ ?_
        · refine wpOp_call (by simp only [List.getElem?_toArray, List.getElem?_cons_succ, List.getElem?_cons_zero]; rfl) (by rfl) fun K hK => ?_
          go_simp
          refine hK _ _ trivial ?_
          clear hK K
          try simp only [Act.put, List.setIfInBounds_toArray, List.set_cons_zero, List.set_cons_succ]
          refine wpGT_call (by simp only [List.getElem?_toArray, List.getElem?_cons_succ, List.getElem?_cons_zero]; rfl) (by rfl) fun K hK => ?_
          go_simp
          refine hK _ _ trivial ?_
          clear hK K
          try simp only [Act.put, List.setIfInBounds_toArray, List.set_cons_zero, List.set_cons_succ]
          obtain ⟨v9, w7, hrun9, hown9, hg9, hlow9⟩ := OwnI.lit HO1.out (by omega) ⟨zc, zo, zp⟩ (by have := HYL.out; omega)
          have HB7 : Hid (Below w.heap.size w w7) := Lib.hid ((belt HB1.out _).grown hg9 (by have := HB1.out.size; simp; omega) (fun g e => by have := hlow9 g e; have := HM.out; omega))
          have HKB : Hid (∀ k, k ≤ M → w7.heap[k]? = wn.heap[k]?) := Lib.hid fun k hk => (hg9.block k (by simp; omega) (fun e => by have := hlow9 k e.symm; omega)).trans (Below.heap_alloc wn _ k (by omega))
          have HR7 : Hid (RF w7 R s1) := Lib.hid (HR1.out.keep (show Below (M + 1) wn w7 from ((Below.refl (M + 1) wn).alloc (by omega) _).grown hg9 (by simp; omega) (fun g e => hlow9 g e)) (by have := HRM.out; omega))
          have HN7 : Hid (NB w7 M ⟨i0, i1, i2⟩ A5 ys.length c5 ⟨0, 0, 0, 0, 0, 0, false⟩) := Lib.hid ((HKB.out M (Nat.le_refl _)).trans HN1.out)
          have HZ7 : Hid (NB w7 w.heap.size ⟨0, 0, 0⟩ none 0 0 ⟨0, 0, 0, 0, 0, 0, false⟩) := Lib.hid ((HKB.out _ (by have := HRW.out; have := HRM.out; omega)).trans HZ1.out)
          refine wpGT_call (by simp only [List.getElem?_toArray, List.getElem?_cons_succ, List.getElem?_cons_zero]; rfl) (by rfl) fun K hK => ?_
          refine oper_app10 (R := fun v W => v = v9 ∧ W = w7) ⟨v9, w7, hrun9, rfl, rfl⟩ rfl rfl rfl rfl ?_
          rintro v8 w8 ⟨rfl, rfl⟩
          obtain ⟨A9, c9, rfl, hc9, _, _⟩ := hown9.row GId.len
          rw [List.length_append, List.length_singleton] at hown9 hc9 ⊢
          have HO7 := Lib.hid hown9
          have HC9 := Lib.hid hc9
          refine hK _ _ trivial ?_
          clear hK K hc9 hown9 hg9 hlow9 hrun9
          try simp only [Act.put, List.setIfInBounds_toArray, List.set_cons_zero, List.set_cons_succ]
          iterate 1
            (first
              | (refine wpGT_float (v := ?_) (by simp only [List.getElem?_toArray, List.getElem?_cons_succ, List.getElem?_cons_zero]; rfl) (by rfl) ?_ ?_
                 rotate_left
                 · (intro W _; skip; go_simp; try with_reducible rfl)
                 simp only [Act.put, List.setIfInBounds_toArray, List.set_cons_zero, List.set_cons_succ])
              | (refine wpGT_skip (by simp only [List.getElem?_toArray, List.getElem?_cons_succ, List.getElem?_cons_zero]; rfl) (by rfl) ?_
                 simp only [Act.put, List.setIfInBounds_toArray, List.set_cons_zero, List.set_cons_succ]))
          obtain ⟨e0, e1, e2, e3, e4, e5, e6, e7, e8, e9, e10⟩ := HN7.out.cells
          have ef := HN7.out.frz
          have el := HN7.out.lt
          simp only at e0 e1 e2 e3 e4 e5 e6 e7 e8 e9 e10
          refine wpGT_call (by simp only [List.getElem?_toArray, List.getElem?_cons_succ, List.getElem?_cons_zero]; rfl) (by rfl) fun K hK => ?_
          go_simp
          refine hK _ _ trivial ?_
          clear hK K
          try simp only [Act.put, List.setIfInBounds_toArray, List.set_cons_zero, List.set_cons_succ]
          refine wpGT_nil ?_
          have HN9 := Lib.hid (HN7.out.setPath A9 (ys.length + 1) c9)
          have HO9 := Lib.hid (HO7.out.setOther (Nat.lt_succ_self M) 3 (.slice A9 (ys.length + 1) c9))
          have HR9 : Hid (RF (w8.setCell ⟨M, 3, none⟩ (.slice A9 (ys.length + 1) c9)) R s1) := Lib.hid (HR7.out.ko (N := M) (by have := HRM.out; omega) (by have := HRM.out; omega) 3 _ rfl)
          have HZ9 : Hid (NB (w8.setCell ⟨M, 3, none⟩ (.slice A9 (ys.length + 1) c9)) w.heap.size ⟨0, 0, 0⟩ none 0 0 ⟨0, 0, 0, 0, 0, 0, false⟩) := Lib.hid ((Below.heap_setCell w8 ⟨M, 3, none⟩ _ w.heap.size (by have := HRM.out; have := HRW.out; show w.heap.size ≠ M; omega)).trans HZ7.out)
          have HB9 : Hid (Below w.heap.size w (w8.setCell ⟨M, 3, none⟩ (.slice A9 (ys.length + 1) c9))) := Lib.hid (HB7.out.setCell (p := ⟨M, 3, none⟩) (by have := HM.out; show w.heap.size ≤ M; omega) _)
          clear HN7 HO7 HR7 HZ7 HB7 HKB HK1 HR1 HN1 HZ1 HO1 HB1 e0 e1 e2 e3 e4 e5 e6 e7 e8 e9 e10 ef el dn3
          go_wp2
          go_roundw
          case rel => exact ⟨k + 1, ys ++ [⟨zc, zo, zp⟩], s1, A9, c9, by rw [HWK.out], by omega, HSTEP, by simpa using HLN, by simpa using HC9, HR9, by simpa using HN9, by simpa using HO9, HZ9, HB9⟩
          case measure => rw [HWK.out]; simp [intOf]; omega
        · refine wpOp_call (by simp only [List.getElem?_toArray, List.getElem?_cons_succ, List.getElem?_cons_zero]; rfl) (by rfl) fun K hK => ?_
          go_simp
          refine hK _ _ trivial ?_
          clear hK K
          try simp only [Act.put, List.setIfInBounds_toArray, List.set_cons_zero, List.set_cons_succ]
          refine wpGT_call (by simp only [List.getElem?_toArray, List.getElem?_cons_succ, List.getElem?_cons_zero]; rfl) (by rfl) fun K hK => ?_
          go_simp
          refine hK _ _ trivial ?_
          clear hK K
          try simp only [Act.put, List.setIfInBounds_toArray, List.set_cons_zero, List.set_cons_succ]
          obtain ⟨v9, w7, hrun9, hown9, hg9, hlow9⟩ := OwnI.lit HO1.out (by omega) ⟨zc, zo, zp⟩ (by have := HYL.out; omega)
          have HB7 : Hid (Below w.heap.size w w7) := Lib.hid ((belt HB1.out _).grown hg9 (by have := HB1.out.size; simp; omega) (fun g e => by have := hlow9 g e; have := HM.out; omega))
          have HKB : Hid (∀ k, k ≤ M → w7.heap[k]? = wn.heap[k]?) := Lib.hid fun k hk => (hg9.block k (by simp; omega) (fun e => by have := hlow9 k e.symm; omega)).trans (Below.heap_alloc wn _ k (by omega))
          have HR7 : Hid (RF w7 R s1) := Lib.hid (HR1.out.keep (show Below (M + 1) wn w7 from ((Below.refl (M + 1) wn).alloc (by omega) _).grown hg9 (by simp; omega) (fun g e => hlow9 g e)) (by have := HRM.out; omega))
          have HN7 : Hid (NB w7 M ⟨i0, i1, i2⟩ A5 ys.length c5 ⟨0, 0, 0, 0, 0, 0, false⟩) := Lib.hid ((HKB.out M (Nat.le_refl _)).trans HN1.out)
          have HZ7 : Hid (NB w7 w.heap.size ⟨0, 0, 0⟩ none 0 0 ⟨0, 0, 0, 0, 0, 0, false⟩) := Lib.hid ((HKB.out _ (by have := HRW.out; have := HRM.out; omega)).trans HZ1.out)
          refine wpGT_call (by simp only [List.getElem?_toArray, List.getElem?_cons_succ, List.getElem?_cons_zero]; rfl) (by rfl) fun K hK => ?_
          refine oper_app10 (R := fun v W => v = v9 ∧ W = w7) ⟨v9, w7, hrun9, rfl, rfl⟩ rfl rfl rfl rfl ?_
          rintro v8 w8 ⟨rfl, rfl⟩
          obtain ⟨A9, c9, rfl, hc9, _, _⟩ := hown9.row GId.len
          rw [List.length_append, List.length_singleton] at hown9 hc9 ⊢
          have HO7 := Lib.hid hown9
          have HC9 := Lib.hid hc9
          refine hK _ _ trivial ?_
          clear hK K hc9 hown9 hg9 hlow9 hrun9
          try simp only [Act.put, List.setIfInBounds_toArray, List.set_cons_zero, List.set_cons_succ]
          iterate 1
            (first
              | (refine wpGT_float (v := ?_) (by simp only [List.getElem?_toArray, List.getElem?_cons_succ, List.getElem?_cons_zero]; rfl) (by rfl) ?_ ?_
                 rotate_left
                 · (intro W _; skip; go_simp; try with_reducible rfl)
                 simp only [Act.put, List.setIfInBounds_toArray, List.set_cons_zero, List.set_cons_succ])
              | (refine wpGT_skip (by simp only [List.getElem?_toArray, List.getElem?_cons_succ, List.getElem?_cons_zero]; rfl) (by rfl) ?_
                 simp only [Act.put, List.setIfInBounds_toArray, List.set_cons_zero, List.set_cons_succ]))
          obtain ⟨e0, e1, e2, e3, e4, e5, e6, e7, e8, e9, e10⟩ := HN7.out.cells
          have ef := HN7.out.frz
          have el := HN7.out.lt
          simp only at e0 e1 e2 e3 e4 e5 e6 e7 e8 e9 e10
          refine wpGT_call (by simp only [List.getElem?_toArray, List.getElem?_cons_succ, List.getElem?_cons_zero]; rfl) (by rfl) fun K hK => ?_
          go_simp
          refine hK _ _ trivial ?_
          clear hK K
          try simp only [Act.put, List.setIfInBounds_toArray, List.set_cons_zero, List.set_cons_succ]
          refine wpGT_nil ?_
          have HN9 := Lib.hid (HN7.out.setPath A9 (ys.length + 1) c9)
          have HO9 := Lib.hid (HO7.out.setOther (Nat.lt_succ_self M) 3 (.slice A9 (ys.length + 1) c9))
          have HR9 : Hid (RF (w8.setCell ⟨M, 3, none⟩ (.slice A9 (ys.length + 1) c9)) R s1) := Lib.hid (HR7.out.ko (N := M) (by have := HRM.out; omega) (by have := HRM.out; omega) 3 _ rfl)
          have HZ9 : Hid (NB (w8.setCell ⟨M, 3, none⟩ (.slice A9 (ys.length + 1) c9)) w.heap.size ⟨0, 0, 0⟩ none 0 0 ⟨0, 0, 0, 0, 0, 0, false⟩) := Lib.hid ((Below.heap_setCell w8 ⟨M, 3, none⟩ _ w.heap.size (by have := HRM.out; have := HRW.out; show w.heap.size ≠ M; omega)).trans HZ7.out)
          have HB9 : Hid (Below w.heap.size w (w8.setCell ⟨M, 3, none⟩ (.slice A9 (ys.length + 1) c9))) := Lib.hid (HB7.out.setCell (p := ⟨M, 3, none⟩) (by have := HM.out; show w.heap.size ≤ M; omega) _)
          clear HN7 HO7 HR7 HZ7 HB7 HKB HK1 HR1 HN1 HZ1 HO1 HB1 e0 e1 e2 e3 e4 e5 e6 e7 e8 e9 e10 ef el dn3
          go_wp2
          go_roundw
          case rel => exact ⟨k + 1, ys ++ [⟨zc, zo, zp⟩], s1, A9, c9, by rw [HWK.out], by omega, HSTEP, by simpa using HLN, by simpa using HC9, HR9, by simpa using HN9, by simpa using HO9, HZ9, HB9⟩
          case measure => rw [HWK.out]; simp [intOf]; omega
    · have HD3' : Hid (ren3 l = (ys, sk)) := Lib.hid (by
        rw [HD3.out, HY.out]
        have e : idsS (cn - k) sk = ([], sk) := by
          rcases Nat.lt_or_ge k cn with h | h
          · exact idsS_bad _ (by simpa using fun h2 => hgo ⟨h, h2⟩)
          · rw [show cn - k = 0 by omega]; rfl
        rw [e]; simp)
      rw [HD3'.out] at HDN HOKN
      clear HD3 HD3' HY HD1 HD2 HMX
      simp only at HDN HOKN
      have HTK := Lib.hid (rTake_any (w.heap.size + 1) sk w9 HR.out)
      unfold TkEnd at HTK
      have HDC := Lib.hid fun A' c' W (h : Byt W W.heap.size A' (tkL sk).length (tkL sk)) => rDec_any (tkL sk) A' c' W h
      generalize decE (tkL sk) = er at *
      generalize decC (tkL sk) = dc at *
      generalize tkL sk = tk at *
      generalize tkS sk = ts at *
      obtain ⟨q0, q1, q2, q3, q4, q5, q6⟩ := dc
      obtain ⟨tl, tb⟩ := ts
      simp only [GC.val] at HDC HOKN
      have hlen := tk.length
      have HGO : Hid (ys.length ≤ 1001) := Lib.hid (by have := HLY.out.1; omega)
      clear HLY hlen
      rcases Nat.lt_or_ge k cn with hkc | hkc
      · have hsk : sk.bad = true := by simpa using fun h2 => hgo ⟨hkc, h2⟩
        have f3 : decide ((k : Int) < (cn : Int)) = true := by simp; omega
        rw [hsk] at r1
        clear hgo hsk
        go_wp2_with fail
        go_fit HTK.out
        rintro e w4 ⟨A4, c4, rfl, hb4, hr4, hk4⟩
        have HN4 : Hid (NB w4 M ⟨i0, i1, i2⟩ A5 ys.length c5 ⟨0, 0, 0, 0, 0, 0, false⟩) := Lib.hid ((hk4.block M HNM.out.lt (fun e => by have := HRM.out; simp at e; omega)).trans HNM.out)
        have HZ4 : Hid (NB w4 w.heap.size ⟨0, 0, 0⟩ none 0 0 ⟨0, 0, 0, 0, 0, 0, false⟩) := Lib.hid ((hk4.block _ HZ.out.lt (fun e => by simp at e)).trans HZ.out)
        have HO4 := Lib.hid (HO.out.keep (w' := w4) fun g hg => hk4.block g (HO.out.lt g hg).2 (fun e => by have h5 := (HO.out.lt g hg).1; have := HRM.out; simp at e; omega))
        have HB4 := Lib.hid (hk4.below HB.out HB.out.size (by omega))
        have HR4 := Lib.hid hr4
        have HC4 := Lib.hid (HDC.out A4 c4 w4 (hb4.wide (by have := hr4.lt; omega)))
        clear hb4 hr4 hk4 HNM HZ HO HB HR HTK HDC r1 rl
        generalize tk.length = tkn at *
        go_wp2_with fail
        go_fit HC4.out
        rintro e w5 ⟨rfl, hb5⟩
        have HCB := Lib.hid (CB.new w5 ⟨q0, q1, q2, q3, q4, q5, q6⟩)
        have hbx := belt hb5 (.cells #[.int .i64 q0, .int .i64 q1, .int .i64 q2, .int .i64 q3, .int .i64 q4, .int .i64 q5, .bool q6] 26)
        have HR5 := Lib.hid (HR4.out.next hbx)
        have HN5 := Lib.hid (HN4.out.next hbx)
        have HO5 := Lib.hid (HO4.out.keep fun g hg => hbx.block g (HO4.out.lt g hg).2)
        have HZ5 := Lib.hid (HZ4.out.next hbx)
        have HB5 := Lib.hid (beln HB4.out hbx)
        clear hb5 hbx HR4 HN4 HO4 HZ4 HB4 HC4
        simp only at HCB
        obtain ⟨d0, d1, d2, d3, d4, d5, d6, d7, d8, d9, d10⟩ := HN5.out.cells
        have df := HN5.out.frz
        have dl := HN5.out.lt
        obtain ⟨k0, k1, k2, k3, k4, k5, k6⟩ := HCB.out.cells
        have kl := HCB.out.lt
        simp only at d0 d1 d2 d3 d4 d5 d6 d7 d8 d9 d10 k0 k1 k2 k3 k4 k5 k6
        have HN6 := Lib.hid (HN5.out.setCap ⟨q0, q1, q2, q3, q4, q5, q6⟩)
        have HS6 : Hid (∀ (W : World) j v, RF W (w.heap.size + 1) ⟨tl, tb⟩ ∧ OwnG GId.cells 23 3 W (M + 1) (.slice A5 ys.length c5) ys ∧ NB W w.heap.size ⟨0, 0, 0⟩ none 0 0 ⟨0, 0, 0, 0, 0, 0, false⟩ ∧ Below w.heap.size w W → RF (W.setCell ⟨M, j, none⟩ v) (w.heap.size + 1) ⟨tl, tb⟩ ∧ OwnG GId.cells 23 3 (W.setCell ⟨M, j, none⟩ v) (M + 1) (.slice A5 ys.length c5) ys ∧ NB (W.setCell ⟨M, j, none⟩ v) w.heap.size ⟨0, 0, 0⟩ none 0 0 ⟨0, 0, 0, 0, 0, 0, false⟩ ∧ Below w.heap.size w (W.setCell ⟨M, j, none⟩ v)) := Lib.hid fun W j v h =>
          ⟨h.1.ko (N := M) (by have := HRM.out; omega) (by have := HRM.out; omega) j v rfl, h.2.1.setOther (Nat.lt_succ_self M) j v, (Below.heap_setCell W ⟨M, j, none⟩ v w.heap.size (by have := HRM.out; show w.heap.size ≠ M; omega)).trans h.2.2.1, h.2.2.2.setCell (p := ⟨M, j, none⟩) (by have := HM.out; show w.heap.size ≤ M; omega) v⟩
        have HA6 := Lib.hid (HS6.out _ 10 (.bool q6) (HS6.out _ 9 (.int .i64 q5) (HS6.out _ 8 (.int .i64 q4) (HS6.out _ 7 (.int .i64 q3) (HS6.out _ 6 (.int .i64 q2) (HS6.out _ 5 (.int .i64 q1) (HS6.out _ 4 (.int .i64 q0) ⟨HR5.out, HO5.out, HZ5.out, HB5.out⟩)))))))
        clear HS6 HR5 HO5 HZ5 HB5
        simp only at HN6
        go_upto_region 10 with fail
        clear d0 d1 d2 d3 d4 d5 d6 d7 d8 d9 d10 df dl k0 k1 k2 k3 k4 k5 k6 kl HCB
        generalize (((((((w5.alloc (.cells #[.int .i64 q0, .int .i64 q1, .int .i64 q2, .int .i64 q3, .int .i64 q4, .int .i64 q5, .bool q6] 26)).setCell ⟨M, 4, none⟩ (.int .i64 q0)).setCell ⟨M, 5, none⟩ (.int .i64 q1)).setCell ⟨M, 6, none⟩ (.int .i64 q2)).setCell ⟨M, 7, none⟩ (.int .i64 q3)).setCell ⟨M, 8, none⟩ (.int .i64 q4)).setCell ⟨M, 9, none⟩ (.int .i64 q5)).setCell ⟨M, 10, none⟩ (.bool q6) = w6 at *
        have HR6 := Lib.hid HA6.out.1
        have HO6 := Lib.hid HA6.out.2.1
        have HZ6 := Lib.hid HA6.out.2.2.1
        have HB6 := Lib.hid HA6.out.2.2.2
        clear HA6 HN5
        obtain ⟨d0, d1, d2, d3, d4, d5, d6, d7, d8, d9, d10⟩ := HN6.out.cells
        have dl := HN6.out.lt
        simp only at d0 d1 d2 d3 d4 d5 d6 d7 d8 d9 d10
        have HRX := Lib.hid (OwnG.rowAt GId.len HO6.out).2
        have HV := Lib.hid (rEncN_any ⟨⟨i0, i1, i2⟩, ys, ⟨q0, q1, q2, q3, q4, q5, q6⟩⟩ A5 c5 w6 HRX.out (by simp only; have := HGO.out; omega) HC5.out)
        rw [HDN.out] at HOKN
        obtain ⟨xq, hxq⟩ : ∃ xq : Int, xq = if vN ⟨⟨i0, i1, i2⟩, ys, ⟨q0, q1, q2, q3, q4, q5, q6⟩⟩ = true then 0 else 1 := ⟨_, rfl⟩
        obtain ⟨lx, hlx⟩ : ∃ lx, lx = if vN ⟨⟨i0, i1, i2⟩, ys, ⟨q0, q1, q2, q3, q4, q5, q6⟩⟩ = true then encN ⟨⟨i0, i1, i2⟩, ys, ⟨q0, q1, q2, q3, q4, q5, q6⟩⟩ else [] := ⟨_, rfl⟩
        rw [← hxq, ← hlx] at HV
        have HOKX : Hid (okk ↔ (tb = false ∧ er = 0 ∧ xq = 0 ∧ lx = l)) := Lib.hid (by
          rw [HOKN.out, hxq, hlx]
          cases hvv : vN ⟨⟨i0, i1, i2⟩, ys, ⟨q0, q1, q2, q3, q4, q5, q6⟩⟩ <;> simp)
        clear hxq hlx HOKN
        simp only [GN.val] at HV
        unfold EncEnd at HV
        go_wp2_with fail
        go_fit HV.out
        rintro e w7 ⟨v7, rfl, ho7, hb7⟩
        obtain ⟨A7, c7, rfl, _, _, hby7⟩ := ho7.form
        have HZ7 := Lib.hid (HZ6.out.next hb7)
        have HB7 := Lib.hid (beln HB6.out hb7)
        have HN7 := Lib.hid (HN6.out.next hb7)
        have HR7 := Lib.hid (HR6.out.next hb7)
        have HO7 := Lib.hid (HO6.out.keep fun g hg => hb7.block g (HO6.out.lt g hg).2)
        have HSB := Lib.hid (rSby_any A7 A c7 c lx l w7 hby7 ((HBY.out _ HB7.out).wide HB7.out.size))
        clear ho7 hb7 hby7 HZ6 HB6 HN6 HO6 HR6 HRX HV d0 d1 d2 d3 d4 d5 d6 d7 d8 d9 d10 dl
        obtain ⟨A1, m1, c1, hh, _, _⟩ := HR7.out
        have r1 : w7.cell? ⟨w.heap.size + 1, 1, none⟩ = some (.bool tb) := by rw [Lib.cell_of_heap hh]; rfl
        have rl := HR7.out.lt
        clear hh
        have HLX : Hid (decide (lx = l) = true ↔ lx = l) := Lib.hid (by simp)
        generalize decide (lx = l) = eqb at *
        generalize lx.length = lxn at *
        generalize hln : l.length = ln at *
        rcases tb with _ | _
        rotate_left
        · have HBAD := HBAD1.out (fun hk => by have := (HOKX.out.1 hk).1; cases this)
          have HE := Lib.hid HBAD
          obtain ⟨z0, z1, z2, z3, z4, z5, z6, z7, z8, z9, z10⟩ := HZ7.out.cells
          have zf := HZ7.out.frz
          have zl := HZ7.out.lt
          simp only at z0 z1 z2 z3 z4 z5 z6 z7 z8 z9 z10
          go_wp2
          refine bodyPost_ret (v := .tuple #[.agg #[.int .i64 0, .int .i64 0, .int .i64 0, .slice none 0 0, .int .i64 0, .int .i64 0, .int .i64 0, .int .i64 0, .int .i64 0, .int .i64 0, .bool false], .int .i64 14]) (by simp [results, Try.results31, go_sem, z0, z1, z2, z3, z4, z5, z6, z7, z8, z9, z10]) rfl ?_
          refine HE.out _ ?_
          repeat (refine HSC.out _ _ _ (by omega) ?_ _)
          exact HB7.out
        by_cases he : er = 0
        rotate_left
        · have f4 : (er != 0) = true := by simp [he]
          have HBAD := HBAD1.out (fun hk => he (HOKX.out.1 hk).2.1)
          clear he
          have HE := Lib.hid HBAD
          obtain ⟨z0, z1, z2, z3, z4, z5, z6, z7, z8, z9, z10⟩ := HZ7.out.cells
          have zf := HZ7.out.frz
          have zl := HZ7.out.lt
          simp only at z0 z1 z2 z3 z4 z5 z6 z7 z8 z9 z10
          go_wp2
          refine bodyPost_ret (v := .tuple #[.agg #[.int .i64 0, .int .i64 0, .int .i64 0, .slice none 0 0, .int .i64 0, .int .i64 0, .int .i64 0, .int .i64 0, .int .i64 0, .int .i64 0, .bool false], .int .i64 14]) (by simp [results, Try.results31, go_sem, z0, z1, z2, z3, z4, z5, z6, z7, z8, z9, z10]) rfl ?_
          refine HE.out _ ?_
          repeat (refine HSC.out _ _ _ (by omega) ?_ _)
          exact HB7.out
        have f4 : (er != 0) = false := by simp [he]
        have HER := Lib.hid he
        clear he
        by_cases hx : xq = 0
        rotate_left
        · have f5 : (xq != 0) = true := by simp [hx]
          have HBAD := HBAD1.out (fun hk => hx (HOKX.out.1 hk).2.2.1)
          clear hx
          have HE := Lib.hid HBAD
          obtain ⟨z0, z1, z2, z3, z4, z5, z6, z7, z8, z9, z10⟩ := HZ7.out.cells
          have zf := HZ7.out.frz
          have zl := HZ7.out.lt
          simp only at z0 z1 z2 z3 z4 z5 z6 z7 z8 z9 z10
          go_wp2
          refine bodyPost_ret (v := .tuple #[.agg #[.int .i64 0, .int .i64 0, .int .i64 0, .slice none 0 0, .int .i64 0, .int .i64 0, .int .i64 0, .int .i64 0, .int .i64 0, .int .i64 0, .bool false], .int .i64 14]) (by simp [results, Try.results31, go_sem, z0, z1, z2, z3, z4, z5, z6, z7, z8, z9, z10]) rfl ?_
          refine HE.out _ ?_
          repeat (refine HSC.out _ _ _ (by omega) ?_ _)
          exact HB7.out
        have f5 : (xq != 0) = false := by simp [hx]
        have HXQ := Lib.hid hx
        clear hx
        go_wp2_with fail
        go_fit HSB.out
        rintro e w8 ⟨rfl, rfl⟩
        clear HSB r1 rl
        rcases eqb with _ | _
        · have HBAD := HBAD1.out (fun hk => by have h := HLX.out.2 (HOKX.out.1 hk).2.2.2; cases h)
          have HE := Lib.hid HBAD
          obtain ⟨z0, z1, z2, z3, z4, z5, z6, z7, z8, z9, z10⟩ := HZ7.out.cells
          have zf := HZ7.out.frz
          have zl := HZ7.out.lt
          simp only at z0 z1 z2 z3 z4 z5 z6 z7 z8 z9 z10
          go_wp2
          refine bodyPost_ret (v := .tuple #[.agg #[.int .i64 0, .int .i64 0, .int .i64 0, .slice none 0 0, .int .i64 0, .int .i64 0, .int .i64 0, .int .i64 0, .int .i64 0, .int .i64 0, .bool false], .int .i64 14]) (by simp [results, Try.results31, go_sem, z0, z1, z2, z3, z4, z5, z6, z7, z8, z9, z10]) rfl ?_
          refine HE.out _ ?_
          repeat (refine HSC.out _ _ _ (by omega) ?_ _)
          exact HB7.out
        have HOK := Lib.hid (HOK0.out (HOKX.out.2 ⟨by trivial, HER.out, HXQ.out, HLX.out.1 rfl⟩))
        rw [HDN.out] at HOK
        simp only [GN.val] at HOK
        obtain ⟨d0, d1, d2, d3, d4, d5, d6, d7, d8, d9, d10⟩ := HN7.out.cells
        have dl := HN7.out.lt
        obtain ⟨z0, z1, z2, z3, z4, z5, z6, z7, z8, z9, z10⟩ := HZ7.out.cells
        have zf := HZ7.out.frz
        have zl := HZ7.out.lt
        simp only at d0 d1 d2 d3 d4 d5 d6 d7 d8 d9 d10 z0 z1 z2 z3 z4 z5 z6 z7 z8 z9 z10
        go_wp2
        refine bodyPost_ret (v := .tuple #[.agg #[.int .i64 i0, .int .i64 i1, .int .i64 i2, .slice A5 ys.length c5, .int .i64 q0, .int .i64 q1, .int .i64 q2, .int .i64 q3, .int .i64 q4, .int .i64 q5, .bool q6], .int .i64 0]) (by simp [results, Try.results31, go_sem, z0, z1, z2, z3, z4, z5, z6, z7, z8, z9, z10]) rfl ?_
        refine HOK.out _ _ _ HC5.out ?_ ?_
        · refine OwnG.low (b := M + 1) ?_ (by have := HM.out; omega)
          repeat (refine OwnG.setOther ?_ (by have := HM.out; omega) _ _)
          exact HO7.out
        · repeat (refine HSC.out _ _ _ (by omega) ?_ _)
          exact HB7.out
      · have f3 : decide ((k : Int) < (cn : Int)) = false := by simp; omega
        clear hgo
        go_wp2_with fail
        go_fit HTK.out
        rintro e w4 ⟨A4, c4, rfl, hb4, hr4, hk4⟩
        have HN4 : Hid (NB w4 M ⟨i0, i1, i2⟩ A5 ys.length c5 ⟨0, 0, 0, 0, 0, 0, false⟩) := Lib.hid ((hk4.block M HNM.out.lt (fun e => by have := HRM.out; simp at e; omega)).trans HNM.out)
        have HZ4 : Hid (NB w4 w.heap.size ⟨0, 0, 0⟩ none 0 0 ⟨0, 0, 0, 0, 0, 0, false⟩) := Lib.hid ((hk4.block _ HZ.out.lt (fun e => by simp at e)).trans HZ.out)
        have HO4 := Lib.hid (HO.out.keep (w' := w4) fun g hg => hk4.block g (HO.out.lt g hg).2 (fun e => by have h5 := (HO.out.lt g hg).1; have := HRM.out; simp at e; omega))
        have HB4 := Lib.hid (hk4.below HB.out HB.out.size (by omega))
        have HR4 := Lib.hid hr4
        have HC4 := Lib.hid (HDC.out A4 c4 w4 (hb4.wide (by have := hr4.lt; omega)))
        clear hb4 hr4 hk4 HNM HZ HO HB HR HTK HDC r1 rl
        generalize tk.length = tkn at *
        go_wp2_with fail
        go_fit HC4.out
        rintro e w5 ⟨rfl, hb5⟩
        have HCB := Lib.hid (CB.new w5 ⟨q0, q1, q2, q3, q4, q5, q6⟩)
        have hbx := belt hb5 (.cells #[.int .i64 q0, .int .i64 q1, .int .i64 q2, .int .i64 q3, .int .i64 q4, .int .i64 q5, .bool q6] 26)
        have HR5 := Lib.hid (HR4.out.next hbx)
        have HN5 := Lib.hid (HN4.out.next hbx)
        have HO5 := Lib.hid (HO4.out.keep fun g hg => hbx.block g (HO4.out.lt g hg).2)
        have HZ5 := Lib.hid (HZ4.out.next hbx)
        have HB5 := Lib.hid (beln HB4.out hbx)
        clear hb5 hbx HR4 HN4 HO4 HZ4 HB4 HC4
        simp only at HCB
        obtain ⟨d0, d1, d2, d3, d4, d5, d6, d7, d8, d9, d10⟩ := HN5.out.cells
        have df := HN5.out.frz
        have dl := HN5.out.lt
        obtain ⟨k0, k1, k2, k3, k4, k5, k6⟩ := HCB.out.cells
        have kl := HCB.out.lt
        simp only at d0 d1 d2 d3 d4 d5 d6 d7 d8 d9 d10 k0 k1 k2 k3 k4 k5 k6
        have HN6 := Lib.hid (HN5.out.setCap ⟨q0, q1, q2, q3, q4, q5, q6⟩)
        have HS6 : Hid (∀ (W : World) j v, RF W (w.heap.size + 1) ⟨tl, tb⟩ ∧ OwnG GId.cells 23 3 W (M + 1) (.slice A5 ys.length c5) ys ∧ NB W w.heap.size ⟨0, 0, 0⟩ none 0 0 ⟨0, 0, 0, 0, 0, 0, false⟩ ∧ Below w.heap.size w W → RF (W.setCell ⟨M, j, none⟩ v) (w.heap.size + 1) ⟨tl, tb⟩ ∧ OwnG GId.cells 23 3 (W.setCell ⟨M, j, none⟩ v) (M + 1) (.slice A5 ys.length c5) ys ∧ NB (W.setCell ⟨M, j, none⟩ v) w.heap.size ⟨0, 0, 0⟩ none 0 0 ⟨0, 0, 0, 0, 0, 0, false⟩ ∧ Below w.heap.size w (W.setCell ⟨M, j, none⟩ v)) := Lib.hid fun W j v h =>
          ⟨h.1.ko (N := M) (by have := HRM.out; omega) (by have := HRM.out; omega) j v rfl, h.2.1.setOther (Nat.lt_succ_self M) j v, (Below.heap_setCell W ⟨M, j, none⟩ v w.heap.size (by have := HRM.out; show w.heap.size ≠ M; omega)).trans h.2.2.1, h.2.2.2.setCell (p := ⟨M, j, none⟩) (by have := HM.out; show w.heap.size ≤ M; omega) v⟩
        have HA6 := Lib.hid (HS6.out _ 10 (.bool q6) (HS6.out _ 9 (.int .i64 q5) (HS6.out _ 8 (.int .i64 q4) (HS6.out _ 7 (.int .i64 q3) (HS6.out _ 6 (.int .i64 q2) (HS6.out _ 5 (.int .i64 q1) (HS6.out _ 4 (.int .i64 q0) ⟨HR5.out, HO5.out, HZ5.out, HB5.out⟩)))))))
        clear HS6 HR5 HO5 HZ5 HB5
        simp only at HN6
        go_upto_region 10 with fail
        clear d0 d1 d2 d3 d4 d5 d6 d7 d8 d9 d10 df dl k0 k1 k2 k3 k4 k5 k6 kl HCB
        generalize (((((((w5.alloc (.cells #[.int .i64 q0, .int .i64 q1, .int .i64 q2, .int .i64 q3, .int .i64 q4, .int .i64 q5, .bool q6] 26)).setCell ⟨M, 4, none⟩ (.int .i64 q0)).setCell ⟨M, 5, none⟩ (.int .i64 q1)).setCell ⟨M, 6, none⟩ (.int .i64 q2)).setCell ⟨M, 7, none⟩ (.int .i64 q3)).setCell ⟨M, 8, none⟩ (.int .i64 q4)).setCell ⟨M, 9, none⟩ (.int .i64 q5)).setCell ⟨M, 10, none⟩ (.bool q6) = w6 at *
        have HR6 := Lib.hid HA6.out.1
        have HO6 := Lib.hid HA6.out.2.1
        have HZ6 := Lib.hid HA6.out.2.2.1
        have HB6 := Lib.hid HA6.out.2.2.2
        clear HA6 HN5
        obtain ⟨d0, d1, d2, d3, d4, d5, d6, d7, d8, d9, d10⟩ := HN6.out.cells
        have dl := HN6.out.lt
        simp only at d0 d1 d2 d3 d4 d5 d6 d7 d8 d9 d10
        have HRX := Lib.hid (OwnG.rowAt GId.len HO6.out).2
        have HV := Lib.hid (rEncN_any ⟨⟨i0, i1, i2⟩, ys, ⟨q0, q1, q2, q3, q4, q5, q6⟩⟩ A5 c5 w6 HRX.out (by simp only; have := HGO.out; omega) HC5.out)
        rw [HDN.out] at HOKN
        obtain ⟨xq, hxq⟩ : ∃ xq : Int, xq = if vN ⟨⟨i0, i1, i2⟩, ys, ⟨q0, q1, q2, q3, q4, q5, q6⟩⟩ = true then 0 else 1 := ⟨_, rfl⟩
        obtain ⟨lx, hlx⟩ : ∃ lx, lx = if vN ⟨⟨i0, i1, i2⟩, ys, ⟨q0, q1, q2, q3, q4, q5, q6⟩⟩ = true then encN ⟨⟨i0, i1, i2⟩, ys, ⟨q0, q1, q2, q3, q4, q5, q6⟩⟩ else [] := ⟨_, rfl⟩
        rw [← hxq, ← hlx] at HV
        have HOKX : Hid (okk ↔ (tb = false ∧ er = 0 ∧ xq = 0 ∧ lx = l)) := Lib.hid (by
          rw [HOKN.out, hxq, hlx]
          cases hvv : vN ⟨⟨i0, i1, i2⟩, ys, ⟨q0, q1, q2, q3, q4, q5, q6⟩⟩ <;> simp)
        clear hxq hlx HOKN
        simp only [GN.val] at HV
        unfold EncEnd at HV
        go_wp2_with fail
        go_fit HV.out
        rintro e w7 ⟨v7, rfl, ho7, hb7⟩
        obtain ⟨A7, c7, rfl, _, _, hby7⟩ := ho7.form
        have HZ7 := Lib.hid (HZ6.out.next hb7)
        have HB7 := Lib.hid (beln HB6.out hb7)
        have HN7 := Lib.hid (HN6.out.next hb7)
        have HR7 := Lib.hid (HR6.out.next hb7)
        have HO7 := Lib.hid (HO6.out.keep fun g hg => hb7.block g (HO6.out.lt g hg).2)
        have HSB := Lib.hid (rSby_any A7 A c7 c lx l w7 hby7 ((HBY.out _ HB7.out).wide HB7.out.size))
        clear ho7 hb7 hby7 HZ6 HB6 HN6 HO6 HR6 HRX HV d0 d1 d2 d3 d4 d5 d6 d7 d8 d9 d10 dl
        obtain ⟨A1, m1, c1, hh, _, _⟩ := HR7.out
        have r1 : w7.cell? ⟨w.heap.size + 1, 1, none⟩ = some (.bool tb) := by rw [Lib.cell_of_heap hh]; rfl
        have rl := HR7.out.lt
        clear hh
        have HLX : Hid (decide (lx = l) = true ↔ lx = l) := Lib.hid (by simp)
        generalize decide (lx = l) = eqb at *
        generalize lx.length = lxn at *
        generalize hln : l.length = ln at *
        rcases tb with _ | _
        rotate_left
        · have HBAD := HBAD1.out (fun hk => by have := (HOKX.out.1 hk).1; cases this)
          have HE := Lib.hid HBAD
          obtain ⟨z0, z1, z2, z3, z4, z5, z6, z7, z8, z9, z10⟩ := HZ7.out.cells
          have zf := HZ7.out.frz
          have zl := HZ7.out.lt
          simp only at z0 z1 z2 z3 z4 z5 z6 z7 z8 z9 z10
          go_wp2
          refine bodyPost_ret (v := .tuple #[.agg #[.int .i64 0, .int .i64 0, .int .i64 0, .slice none 0 0, .int .i64 0, .int .i64 0, .int .i64 0, .int .i64 0, .int .i64 0, .int .i64 0, .bool false], .int .i64 14]) (by simp [results, Try.results31, go_sem, z0, z1, z2, z3, z4, z5, z6, z7, z8, z9, z10]) rfl ?_
          refine HE.out _ ?_
          repeat (refine HSC.out _ _ _ (by omega) ?_ _)
          exact HB7.out
        by_cases he : er = 0
        rotate_left
        · have f4 : (er != 0) = true := by simp [he]
          have HBAD := HBAD1.out (fun hk => he (HOKX.out.1 hk).2.1)
          clear he
          have HE := Lib.hid HBAD
          obtain ⟨z0, z1, z2, z3, z4, z5, z6, z7, z8, z9, z10⟩ := HZ7.out.cells
          have zf := HZ7.out.frz
          have zl := HZ7.out.lt
          simp only at z0 z1 z2 z3 z4 z5 z6 z7 z8 z9 z10
          go_wp2
          refine bodyPost_ret (v := .tuple #[.agg #[.int .i64 0, .int .i64 0, .int .i64 0, .slice none 0 0, .int .i64 0, .int .i64 0, .int .i64 0, .int .i64 0, .int .i64 0, .int .i64 0, .bool false], .int .i64 14]) (by simp [results, Try.results31, go_sem, z0, z1, z2, z3, z4, z5, z6, z7, z8, z9, z10]) rfl ?_
          refine HE.out _ ?_
          repeat (refine HSC.out _ _ _ (by omega) ?_ _)
          exact HB7.out
        have f4 : (er != 0) = false := by simp [he]
        have HER := Lib.hid he
        clear he
        by_cases hx : xq = 0
        rotate_left
        · have f5 : (xq != 0) = true := by simp [hx]
          have HBAD := HBAD1.out (fun hk => hx (HOKX.out.1 hk).2.2.1)
          clear hx
          have HE := Lib.hid HBAD
          obtain ⟨z0, z1, z2, z3, z4, z5, z6, z7, z8, z9, z10⟩ := HZ7.out.cells
          have zf := HZ7.out.frz
          have zl := HZ7.out.lt
          simp only at z0 z1 z2 z3 z4 z5 z6 z7 z8 z9 z10
          go_wp2
          refine bodyPost_ret (v := .tuple #[.agg #[.int .i64 0, .int .i64 0, .int .i64 0, .slice none 0 0, .int .i64 0, .int .i64 0, .int .i64 0, .int .i64 0, .int .i64 0, .int .i64 0, .bool false], .int .i64 14]) (by simp [results, Try.results31, go_sem, z0, z1, z2, z3, z4, z5, z6, z7, z8, z9, z10]) rfl ?_
          refine HE.out _ ?_
          repeat (refine HSC.out _ _ _ (by omega) ?_ _)
          exact HB7.out
        have f5 : (xq != 0) = false := by simp [hx]
        have HXQ := Lib.hid hx
        clear hx
        go_wp2_with fail
        go_fit HSB.out
        rintro e w8 ⟨rfl, rfl⟩
        clear HSB r1 rl
        rcases eqb with _ | _
        · have HBAD := HBAD1.out (fun hk => by have h := HLX.out.2 (HOKX.out.1 hk).2.2.2; cases h)
          have HE := Lib.hid HBAD
          obtain ⟨z0, z1, z2, z3, z4, z5, z6, z7, z8, z9, z10⟩ := HZ7.out.cells
          have zf := HZ7.out.frz
          have zl := HZ7.out.lt
          simp only at z0 z1 z2 z3 z4 z5 z6 z7 z8 z9 z10
          go_wp2
          refine bodyPost_ret (v := .tuple #[.agg #[.int .i64 0, .int .i64 0, .int .i64 0, .slice none 0 0, .int .i64 0, .int .i64 0, .int .i64 0, .int .i64 0, .int .i64 0, .int .i64 0, .bool false], .int .i64 14]) (by simp [results, Try.results31, go_sem, z0, z1, z2, z3, z4, z5, z6, z7, z8, z9, z10]) rfl ?_
          refine HE.out _ ?_
          repeat (refine HSC.out _ _ _ (by omega) ?_ _)
          exact HB7.out
        have HOK := Lib.hid (HOK0.out (HOKX.out.2 ⟨by trivial, HER.out, HXQ.out, HLX.out.1 rfl⟩))
        rw [HDN.out] at HOK
        simp only [GN.val] at HOK
        obtain ⟨d0, d1, d2, d3, d4, d5, d6, d7, d8, d9, d10⟩ := HN7.out.cells
        have dl := HN7.out.lt
        obtain ⟨z0, z1, z2, z3, z4, z5, z6, z7, z8, z9, z10⟩ := HZ7.out.cells
        have zf := HZ7.out.frz
        have zl := HZ7.out.lt
        simp only at d0 d1 d2 d3 d4 d5 d6 d7 d8 d9 d10 z0 z1 z2 z3 z4 z5 z6 z7 z8 z9 z10
        go_wp2
        refine bodyPost_ret (v := .tuple #[.agg #[.int .i64 i0, .int .i64 i1, .int .i64 i2, .slice A5 ys.length c5, .int .i64 q0, .int .i64 q1, .int .i64 q2, .int .i64 q3, .int .i64 q4, .int .i64 q5, .bool q6], .int .i64 0]) (by simp [results, Try.results31, go_sem, z0, z1, z2, z3, z4, z5, z6, z7, z8, z9, z10]) rfl ?_
        refine HOK.out _ _ _ HC5.out ?_ ?_
        · refine OwnG.low (b := M + 1) ?_ (by have := HM.out; omega)
          repeat (refine OwnG.setOther ?_ (by have := HM.out; omega) _ _)
          exact HO7.out
        · repeat (refine HSC.out _ _ _ (by omega) ?_ _)
          exact HB7.out
end Go.Proofs.Ytnoegjfokceghaa
