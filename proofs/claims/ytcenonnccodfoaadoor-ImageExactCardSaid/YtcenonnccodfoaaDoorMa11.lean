/-
  The program's Find and check of layer 8.
  Conditions: at most a million modules.
  The program's place: where each module's data begin, and how long the image is.
  Conditions: at most 64 modules.
  The program's headerFields, entryFields and writeFields.
  Conditions: as each theorem says.
-/
import Derived.Test.YtcenonnccodfoaaDoorMa10
namespace Go.Proofs.YtcenonnccodfoaaDoor

open Go.RowKit

def FindEndB (ms : List GMod) (nm : List UInt8) (wd : Int) (w : World) (e : Ending) (w' : World) : Prop := (∃ i ok, e = .returned (.tuple #[.int .i64 i, .bool ok]) ∧ FindR ms nm wd i ok) ∧ Below w.heap.size w w'
set_option maxRecDepth 50000 in
set_option maxHeartbeats 1000000 in
theorem pFind_any (nm : List UInt8) (wd : Int) (ms : List GMod) (ss : List SMod) (A : Option Addr) (c : Nat) (w : World) (hb : MRow w w.heap.size A ss ms) (hn : ms.length ≤ 1000000) :
    Calls Tryd.prog 17 #[.slice A ms.length c, .string ⟨nm.toArray⟩, .int .i64 wd] w (FindEndB ms nm wd w) := by
  have HB := Lib.hid hb
  have hlen := hb.len
  clear hb
  go_enter Tryd.func17, Tryd.ntmps17
  go_wp2
  go_loopw [12] (fun vi wr => ∃ k : Nat, vi = .int .i64 k ∧ k ≤ ms.length ∧ Hid ((ms.take k).any (keyIs nm wd) = false) ∧ Hid (Below w.heap.size w wr)) (fun vi _ => ms.length - (intOf vi).toNat)
  case atStart => exact ⟨0, rfl, Nat.zero_le _, Lib.hid rfl, Lib.hid (Below.refl _ _)⟩
  case round =>
    obtain ⟨k, rfl, hk, HT, HW⟩ := hrel
    rcases Nat.lt_or_ge k ms.length with hlt | hge
    · have hls : k < ss.length := by omega
      obtain ⟨b1, o1, rfl, hb1, z0, z1, z2, z3, z4⟩ := (HB.out.next HW.out).row.mod5 hls
      have hold := HB.out.each k hls hlt
      have HSN := Lib.hid fun h => any_snoc (p := keyIs nm wd) hlt HT.out h
      have HFD : Hid (keyIs nm wd ms[k] = true → FindR ms nm wd k true) := Lib.hid fun h => .inl ⟨rfl, k, rfl, hlt, h, HT.out⟩
      have hn1 := hold.name
      have hw1 := hold.width
      have HWA : Hid (∀ o : Obj, Below w.heap.size w (wr.alloc o)) := Lib.hid fun o => bel_lit8 HW.out o
      rw [hn1] at z0
      rw [hw1] at z2
      generalize ms[k] = y at *
      generalize ss[k] = t at *
      clear hold hn1 hw1
      by_cases hq : y.name = nm
      · have f1 : (y.name == nm) = true := by simp [hq]
        by_cases hv : y.width = wd
        · have f2 : (y.width == wd) = true := by simp [hv]
          have HR := Lib.hid (HFD.out (by simp [keyIs, hq, hv]))
          clear hq hv
          go_wp2
          go_ret2
          exact ⟨⟨_, _, rfl, HR.out⟩, HWA.out _⟩
        · have f2 : (y.width == wd) = false := by simp [hv]
          have HS2 := Lib.hid (HSN.out (by simp [keyIs, hv]))
          clear hq hv
          go_wp2
          go_roundw
          case rel => exact ⟨k + 1, by go_num, by omega, HS2, Lib.hid (HWA.out _)⟩
          case measure => simp [intOf]; omega
      · have f1 : (y.name == nm) = false := by simp [hq]
        have HS2 := Lib.hid (HSN.out (by simp [keyIs, hq]))
        clear hq
        go_wp2
        go_roundw
        case rel => exact ⟨k + 1, by go_num, by omega, HS2, Lib.hid (HWA.out _)⟩
        case measure => simp [intOf]; omega
    · have HR : Hid (FindR ms nm wd 0 false) := Lib.hid (.inr ⟨rfl, rfl, by have h := HT.out; rwa [List.take_of_length_le hge] at h⟩)
      go_wp2
      go_ret2
      exact ⟨⟨_, _, rfl, HR.out⟩, HW.out⟩
theorem chkM_split (bs : List GMod) (m : GMod) : chkM bs m = if chkM [] m = 0 then (if bs.any (keyIs m.name m.width) = true then 56 else 0) else chkM [] m := by
  have e : (fun b => sameKey b m) = keyIs m.name m.width := rfl
  rw [chkM_eq bs m, chkM_eq [] m, e]
  cases nameB m.name <;> cases rangeB m <;> cases alignB m <;> cases entryB m <;> simp
theorem firstE_step {ms : List GMod} {k : Nat} (h : k < ms.length) (hc : chkM (ms.take k) ms[k] = 0) : firstE (ms.take k) (ms.drop k) = firstE (ms.take (k + 1)) (ms.drop (k + 1)) := by
  rw [← List.getElem_cons_drop h, firstE, if_pos hc, List.take_succ_eq_append_getElem h]
theorem firstE_stop {ms : List GMod} {k : Nat} (h : k < ms.length) (hc : chkM (ms.take k) ms[k] ≠ 0) : firstE (ms.take k) (ms.drop k) = chkM (ms.take k) ms[k] := by
  rw [← List.getElem_cons_drop h, firstE, if_neg hc]
/-- What check answers. -/
def chkL (ms : List GMod) : Int := if 64 < ms.length then 15 else firstE [] ms
theorem mods_slice : Tryd.prog.underlying 22 = some (.slice (Tryd.prog.elem 22)) := by kernel_rfl
theorem mods_to (a : Option Addr) (len cap k : Nat) (h : k ≤ cap) (W : World) : (Instr.slice 22 (.slice a len cap) none (some (.int .i64 (k : Int))) none).run Tryd.prog W = .ok (.slice a k cap) W := by
  rw [run_slice_h _ _ _ _ _ mods_slice .i64 (k : Int) (by omega) (by omega)]
  have e : (sizeOf (Tryd.prog.elem 22)).run Tryd.prog W = .ok 5 W := by kernel_rfl
  rw [e]
  cases a <;> simp [Result.andThen, sliced, Addr.add]
theorem MRow.take {w : World} {B : Nat} {A : Option Addr} {ss : List SMod} {ms : List GMod} (h : MRow w B A ss ms) (k : Nat) : MRow w B A (ss.take k) (ms.take k) := by
  have hl := h.len
  refine ⟨fun h0 => ?_, by simp [hl], fun i h1 h2 => ?_⟩
  · obtain ⟨b, off, e, hb, hc⟩ := h.row (by rw [List.length_take] at h0; omega)
    exact ⟨b, off, e, hb, fun i hi j u hu => by
      rw [List.getElem_take] at hu
      exact hc i (by rw [List.length_take] at hi; omega) j u hu⟩
  · rw [List.getElem_take, List.getElem_take]
    exact h.each i (by rw [List.length_take] at h1; omega) (by rw [List.length_take] at h2; omega)
set_option maxRecDepth 50000 in
set_option maxHeartbeats 1000000 in
theorem pCheck_any (ms : List GMod) (ss : List SMod) (A : Option Addr) (c : Nat) (w : World) (hb : MRow w w.heap.size A ss ms) (hn : ms.length ≤ 1000000) (hcap : ms.length ≤ c) (hnm : ∀ m ∈ ms, m.name.length ≤ 140737488355328) :
    Calls Tryd.prog 24 #[.slice A ms.length c] w fun e w' => e = .returned (.int .i64 (chkL ms)) ∧ Below w.heap.size w w' := by
  have HB := Lib.hid hb
  have hlen := hb.len
  have HNM := Lib.hid hnm
  clear hb hnm
  by_cases hbig : 64 < ms.length
  · have HR : Hid (chkL ms = 15) := Lib.hid (by unfold chkL; rw [if_pos hbig])
    have f0 : decide ((64 : Int) < (ms.length : Int)) = true := by simp; omega
    clear hbig
    go_enter Tryd.func24, Tryd.ntmps24
    go_wp2
    go_ret
    exact ⟨congrArg (fun x : Int => Ending.returned (Value.int .i64 x)) HR.out.symm, Below.refl _ _⟩
  have HRL : Hid (chkL ms = firstE [] ms) := Lib.hid (by unfold chkL; rw [if_neg hbig])
  have f0 : decide ((64 : Int) < (ms.length : Int)) = false := by simp; omega
  clear hbig
  go_enter Tryd.func24, Tryd.ntmps24
  go_wp2
  go_loopw [13] (fun vi wr => ∃ k : Nat, vi = .int .i64 k ∧ k ≤ ms.length ∧ Hid (firstE [] ms = firstE (ms.take k) (ms.drop k)) ∧ Hid (Below w.heap.size w wr)) (fun vi _ => ms.length - (intOf vi).toNat)
  case atStart => exact ⟨0, rfl, Nat.zero_le _, Lib.hid rfl, Lib.hid (Below.refl _ _)⟩
  case round =>
    obtain ⟨k, rfl, hk, HT, HW⟩ := hrel
    rcases Nat.lt_or_ge k ms.length with hlt | hge
    · have hls : k < ss.length := by omega
      have HRW := Lib.hid (HB.out.next HW.out)
      obtain ⟨b1, o1, rfl, hb1, z0, z1, z2, z3, z4⟩ := HRW.out.row.mod5 hls
      have hold := HRW.out.each k hls hlt
      have HSP := Lib.hid (chkM_split (ms.take k) ms[k])
      have HFS := Lib.hid fun h => firstE_step (ms := ms) hlt h
      have HFT := Lib.hid fun h => firstE_stop (ms := ms) hlt h
      have HY := Lib.hid (HNM.out _ (List.getElem_mem hlt))
      have hn1 := hold.name
      have hw1 := hold.width
      have HTK := Lib.hid (HRW.out.take k)
      have hkl : (ms.take k).length = k := by rw [List.length_take]; omega
      rw [hn1] at z0
      rw [hw1] at z2
      have HWA : Hid (∀ o : Obj, Below w.heap.size w (wr.alloc o)) := Lib.hid fun o => bel_lit8 HW.out o
      generalize ms[k] = y at *
      generalize hss : ss[k] = t at *
      obtain ⟨tn, tk, tw, te, tA, tl, tc⟩ := t
      simp only at hn1 hw1 z0 z1 z2 z3 z4
      subst hn1 hw1
      have HO := Lib.hid hold
      clear hold hss
      go_upto_region 6 with fail
      have hW1 : Below wr.heap.size wr (wr.alloc (objM ⟨y.name, tk, y.width, te, tA, tl, tc⟩)) := bel_lit8 (Below.refl _ wr) _
      have hAT : ModAt (wr.alloc (objM ⟨y.name, tk, y.width, te, tA, tl, tc⟩)) wr.heap.size ⟨y.name, tk, y.width, te, tA, tl, tc⟩ := heap_alloc_new wr _
      unfold objM at hW1 hAT
      simp only at hW1 hAT
      generalize (wr.alloc (.cells #[.string ⟨y.name.toArray⟩, .int .i64 tk, .int .i64 y.width, .int .i64 te, .slice tA tl tc] 41)) = W1 at *
      have HW1 := Lib.hid hW1
      have HM := Lib.hid (checkModule_any y ⟨y.name, tk, y.width, te, tA, tl, tc⟩ W1 (HO.out.next HW1.out) HY.out)
      have HTK1 := Lib.hid (HTK.out.next HW1.out)
      have HAT := Lib.hid hAT
      clear hW1 hAT z0 z1 z2 z3 z4
      obtain ⟨x0, x1, x2, x3, x4⟩ := HAT.out.cells
      simp only at x0 x1 x2 x3 x4
      generalize hN : wr.heap.size = N at *
      go_wp2_with fail
      go_fit HM.out
      rintro e w2 ⟨rfl, hb2⟩
      have HB2 := Lib.hid hb2
      have HAT2 : Hid (ModAt w2 N ⟨y.name, tk, y.width, te, tA, tl, tc⟩) := Lib.hid ((hb2.block N (lt_heap HAT.out)).trans HAT.out)
      clear hb2 x0 x1 x2 x3 x4
      by_cases hc0 : chkM [] y = 0
      case neg =>
        have HR : Hid (chkL ms = chkM [] y) := Lib.hid (by
          have h1 := HSP.out
          rw [if_neg hc0] at h1
          rw [HRL.out, HT.out, HFT.out (by rw [h1]; exact hc0), h1])
        have HEB : Hid (Below w.heap.size w w2) := Lib.hid (bel_next8 (bel_next8 HW.out (by rw [hN]; exact HW1.out)) HB2.out)
        have g0 : (chkM [] y != 0) = true := by simp [hc0]
        clear hc0
        go_wp2
        go_ret
        exact ⟨congrArg (fun x : Int => Ending.returned (Value.int .i64 x)) HR.out.symm, HEB.out⟩
      have g0 : (chkM [] y != 0) = false := by simp [hc0]
      have HSP2 : Hid (chkM (ms.take k) y = if (ms.take k).any (keyIs y.name y.width) = true then 56 else 0) := Lib.hid (by rw [HSP.out, if_pos hc0])
      clear hc0
      have hsl : ∀ W : World, (Instr.slice 22 (.slice (some ⟨b1, o1, none⟩) ms.length c) none (some (.int .i64 (k : Int))) none).run Tryd.prog W = .ok (.slice (some ⟨b1, o1, none⟩) k c) W := fun W => mods_to _ _ c k (by omega) W
      go_upto_region 9 with fail
      have HKS : Hid (∀ W W' : World, (Below w2.heap.size w2 W ∧ W.cell? ⟨N, 0, none⟩ = some (.string ⟨y.name.toArray⟩) ∧ W.cell? ⟨N, 2, none⟩ = some (.int .i64 y.width)) → Below W.heap.size W W' →
          (Below w2.heap.size w2 W' ∧ W'.cell? ⟨N, 0, none⟩ = some (.string ⟨y.name.toArray⟩) ∧ W'.cell? ⟨N, 2, none⟩ = some (.int .i64 y.width))) := Lib.hid fun W W' h hb => by
        obtain ⟨h0, h1, h2⟩ := h
        have key : ∀ {N j : Nat} {v : Value}, W.cell? ⟨N, j, none⟩ = some v → W'.cell? ⟨N, j, none⟩ = some v := fun {N j v} h => (hb.cell (p := ⟨N, j, none⟩) (World.block_lt_of_cell? W _ h)).trans h
        exact ⟨bel_next8 h0 hb, key h1, key h2⟩
      obtain ⟨x0, _, x2, _, _⟩ := HAT2.out.cells
      have hS4 := HKS.out w2 w2.drew ⟨Below.refl _ _, x0, x2⟩ ((Below.refl _ _).drew)
      have HF : Hid (∀ W, Below w2.heap.size w2 W → Calls Tryd.prog 17 #[.slice (some ⟨b1, o1, none⟩) k c, .string ⟨y.name.toArray⟩, .int .i64 y.width] W (FindEndB (ms.take k) y.name y.width W)) := Lib.hid fun W hW => by
        have h := pFind_any y.name y.width (ms.take k) (ss.take k) (some ⟨b1, o1, none⟩) c W ((HTK1.out.next HB2.out).next hW) (by omega)
        rwa [hkl] at h
      have HBW : Hid (∀ W, Below w2.heap.size w2 W → Below w.heap.size w W) := Lib.hid fun W h => bel_next8 (bel_next8 (bel_next8 HW.out (by rw [hN]; exact HW1.out)) HB2.out) h
      clear x0 x2
      go_region_held3 (fun W => Below w2.heap.size w2 W ∧ W.cell? ⟨N, 0, none⟩ = some (.string ⟨y.name.toArray⟩) ∧ W.cell? ⟨N, 2, none⟩ = some (.int .i64 y.width))
        (assumption)
        (first | (go_at_call 17; go_fit (HF.out _ (And.left (by assumption))); rintro e w3 ⟨⟨fi, fo, rfl, hfr⟩, hb3⟩; have hSn := HKS.out _ _ (by assumption) hb3))
      all_goals
        have HFR := Lib.hid hfr
        have HB3 := Lib.hid (HBW.out _ hSn.1)
        clear hfr hb3 hSn
      cases fo with
      | true =>
        have HR : Hid (chkL ms = 56) := Lib.hid (by
          have h1 := HSP2.out
          rcases HFR.out with ⟨_, j, _, hj, hp, _⟩ | ⟨h, _⟩
          · rw [if_pos (any_found hj hp)] at h1
            rw [HRL.out, HT.out, HFT.out (by rw [h1]; decide), h1]
          · cases h)
        go_wp2
        go_ret
        exact ⟨congrArg (fun x : Int => Ending.returned (Value.int .i64 x)) HR.out.symm, HB3.out⟩
      | false =>
        have HT2 : Hid (firstE [] ms = firstE (ms.take (k + 1)) (ms.drop (k + 1))) := Lib.hid (by
          have h1 := HSP2.out
          rcases HFR.out with ⟨h, _⟩ | ⟨_, _, h⟩
          · cases h
          · rw [if_neg (by rw [h]; simp)] at h1
            rw [HT.out, HFS.out h1])
        go_wp2
        go_roundw
        case rel => exact ⟨k + 1, by go_num, by omega, HT2, HB3⟩
        case measure => simp [intOf]; omega
    · have HR : Hid (chkL ms = 0) := Lib.hid (by
        rw [HRL.out, HT.out, List.drop_of_length_le hge]; rfl)
      go_wp2
      go_ret
      exact ⟨congrArg (fun x : Int => Ending.returned (Value.int .i64 x)) HR.out.symm, HW.out⟩
end Go.Proofs.YtcenonnccodfoaaDoor


namespace Go.Proofs.YtcenonnccodfoaaDoor

open Go.RowKit

def natEnc (x : Nat) : List Value := [.int .i64 (x : Int)]
theorem natEnc_len (x : Nat) : (natEnc x).length = 1 := rfl
theorem natEnc_one (x : Nat) : ∀ u ∈ natEnc x, u.oneCell' = true := by
  intro u hu
  simp [natEnc] at hu
  subst hu; rfl
theorem elt_int : Elt 37 3 1 8 := Elt.of (.int .i64 0) Tryd.underlying37 (by kernel_rfl) rfl (by decide)
theorem lit_int (W : World) (x : Nat) : GRow natEnc 1 (W.alloc (.cells #[.int .i64 (x : Int)] 3)) (W.alloc (.cells #[.int .i64 (x : Int)] 3)).heap.size (some ⟨W.heap.size, 0, none⟩) [x] := by
  obtain ⟨A, cap, e, _, _, hr⟩ := (OwnG.lit (T := 3) natEnc_len W W.heap.size [x] #[.int .i64 (x : Int)] rfl (Nat.le_refl _) (by unfold maxLen; simp)).row natEnc_len
  cases e; exact hr
theorem GRow.nat1 {w : World} {B : Nat} {A : Option Addr} {xs : List Nat} (h : GRow natEnc 1 w B A xs) {i : Nat} (hi : i < xs.length) : ∃ b off, A = some ⟨b, off, none⟩ ∧ b < B ∧ w.cell? ⟨b, off + i, none⟩ = some (.int .i64 (xs[i] : Int)) := by
  obtain ⟨b, off, e, hb, hc⟩ := h (by omega)
  refine ⟨b, off, e, hb, ?_⟩
  have := hc i hi 0 _ rfl
  rwa [Nat.mul_one] at this
/-- Where the data of the first k modules begin. -/
def offsL (ms : List GMod) (k : Nat) : List Nat := (List.range k).map fun i => endM (startM ms) (ms.take i)
theorem offsL_len (ms : List GMod) (k : Nat) : (offsL ms k).length = k := by simp [offsL]
theorem offsL_succ (ms : List GMod) (k : Nat) : offsL ms (k + 1) = offsL ms k ++ [endM (startM ms) (ms.take k)] := by simp [offsL, List.range_succ]
theorem offsL_get (ms : List GMod) (k i : Nat) (h : i < (offsL ms k).length) : (offsL ms k)[i] = endM (startM ms) (ms.take i) := by simp [offsL]
/-- The offsets so far, in memory of the call's own. -/
structure OffI (w W : World) (v : Value) (xs : List Nat) : Prop where
  own : OwnG natEnc 3 1 W w.heap.size v xs
  bel : Below w.heap.size w W
set_option maxRecDepth 20000 in
theorem OffI.app {w W : World} {v : Value} {xs : List Nat} (h : OffI w W v xs) (o : Obj) (x : Nat) (hl : xs.length ≤ 1000) :
    ∃ v' w', (Builtin.append_ #[37, 37] 37 #[v, .slice (some ⟨(W.alloc o).heap.size, 0, none⟩) 1 1]).run Tryd.prog ((W.alloc o).alloc (.cells #[.int .i64 (x : Int)] 3)) = .ok v' w' ∧ OffI w w' v' (xs ++ [x]) ∧ w'.heap[W.heap.size]? = (W.alloc o).heap[W.heap.size]? := by
  have hsz := h.bel.size
  have h1 := (h.own.alloc o).alloc (.cells #[.int .i64 (x : Int)] 3)
  obtain ⟨v', w', hrun, hown, hg, _⟩ := OwnG.app elt_int natEnc_len natEnc_one h1 1 (lit_int (W.alloc o) x) (by simp; omega) (by unfold maxLen; simp; omega) (by simp; omega)
  have hb : Below w.heap.size w ((W.alloc o).alloc (.cells #[.int .i64 (x : Int)] 3)) := (h.bel.alloc hsz o).alloc (by simp; omega) _
  refine ⟨v', w', hrun, ⟨hown, hb.grown hg (by simp; omega) (fun g e => (h1.lt g e).1)⟩, ?_⟩
  rw [hg.block W.heap.size (by simp; omega) (fun e => by have := (h.own.lt _ e.symm).2; omega)]
  exact Below.heap_alloc _ _ _ (by simp)
def PlaceEnd (ms : List GMod) (w : World) (e : Ending) (w' : World) : Prop :=
  Below w.heap.size w w' ∧ ((16777216 < endM (startM ms) ms ∧ e = .returned (.tuple #[.slice none 0 0, .int .i64 0, .bool false])) ∨
    (endM (startM ms) ms ≤ 16777216 ∧ ∃ A c, e = .returned (.tuple #[.slice A ms.length c, .int .i64 (endM (startM ms) ms : Nat), .bool true]) ∧ GRow natEnc 1 w' w'.heap.size A (offsL ms ms.length)))
theorem end_next {ms : List GMod} {k : Nat} (h : k < ms.length) : upN (endM (startM ms) (ms.take k) + ms[k].data.length) = endM (startM ms) (ms.take (k + 1)) := by
  rw [List.take_succ_eq_append_getElem h, endM_app]; rfl
theorem end_over {ms : List GMod} {k : Nat} (h : k < ms.length) : endM (startM ms) (ms.take k) + ms[k].data.length ≤ endM (startM ms) ms := by
  have hm := endM_mid (startM ms) (ms.take k) ms[k] (ms.drop (k + 1))
  rwa [List.getElem_cons_drop, List.take_append_drop] at hm
theorem upN_small {n : Nat} (h : n ≤ 16777216) : upN n ≤ 16777216 := by unfold upN; omega
set_option maxRecDepth 50000 in
set_option maxHeartbeats 1000000 in
theorem place_any (ms : List GMod) (ss : List SMod) (A : Option Addr) (c : Nat) (w : World) (hb : MRow w w.heap.size A ss ms) (hn : ms.length ≤ 64) :
    Calls Tryd.prog 25 #[.slice A ms.length c] w (PlaceEnd ms w) := by
  have HB := Lib.hid hb
  have hlen := hb.len
  have HRU := Lib.hid fun (n : Nat) (W : World) (h : n ≤ 16777216) => roundUp_any n W (by omega)
  have HEA := Lib.hid fun (W : World) => entryAt_any ms.length W (by omega)
  clear hb
  go_enter Tryd.func25, Tryd.ntmps25
  go_wp2_with fail
  go_fit (HEA.out _)
  rintro e w1 ⟨rfl, rfl⟩
  go_wp2_with fail
  go_loopw [2, 5, 14] (fun v2 v5 vi wr => ∃ k En : Nat, v5 = .int .i64 En ∧ vi = .int .i64 k ∧ k ≤ ms.length ∧ Hid (upN En = endM (startM ms) (ms.take k)) ∧ En ≤ 16777216 ∧ Hid (OffI w wr v2 (offsL ms k))) (fun _ _ vi _ => ms.length - (intOf vi).toNat)
  case atStart => exact ⟨0, 16 + 48 * ms.length, rfl, rfl, Nat.zero_le _, Lib.hid rfl, by omega, Lib.hid ⟨OwnG.nil _ _, Below.refl _ _⟩⟩
  case round =>
    obtain ⟨k, En, rfl, rfl, hk, HT, hEn, HO⟩ := hrel
    rcases Nat.lt_or_ge k ms.length with hlt | hge
    · have hls : k < ss.length := by omega
      obtain ⟨b1, o1, rfl, hb1, z0, z1, z2, z3, z4⟩ := (HB.out.next HO.out.bel).row.mod5 hls
      have hold := HB.out.each k hls hlt
      have hdn := hold.n
      have hfw := hold.few
      have HNX := Lib.hid (end_next hlt)
      have HOV := Lib.hid (end_over hlt)
      have hup : upN En ≤ 16777216 := upN_small hEn
      generalize hy : ms[k] = y at *
      generalize ss[k] = t at *
      obtain ⟨tn, tk, tw, te, tA, tl, tc⟩ := t
      simp only at hdn z0 z1 z2 z3 z4
      subst hdn
      obtain ⟨Ao, co, rfl, _, _, _⟩ := HO.out.own.row natEnc_len
      rw [offsL_len] at HO ⊢
      obtain ⟨v9, w9, hrun9, hof9, hkeep⟩ := HO.out.app (objM ⟨tn, tk, tw, te, tA, y.data.length, tc⟩) (upN En) (by rw [offsL_len]; omega)
      have hz9 : (wr.alloc (objM ⟨tn, tk, tw, te, tA, y.data.length, tc⟩)).heap.size = wr.heap.size + 1 := by simp
      rw [hz9] at hrun9
      unfold objM at hrun9
      simp only at hrun9
      have HR9 := Lib.hid hrun9
      have HOF9 : Hid (OffI w w9 v9 (offsL ms (k + 1))) := Lib.hid (by rw [offsL_succ, ← HT.out]; exact hof9)
      have hat : ModAt (wr.alloc (objM ⟨tn, tk, tw, te, tA, y.data.length, tc⟩)) wr.heap.size ⟨tn, tk, tw, te, tA, y.data.length, tc⟩ := heap_alloc_new wr _
      have hat9 : ModAt w9 wr.heap.size ⟨tn, tk, tw, te, tA, y.data.length, tc⟩ := hkeep.trans hat
      have hBW : Below w.heap.size w (wr.alloc (objM ⟨tn, tk, tw, te, tA, y.data.length, tc⟩)) := HO.out.bel.alloc HO.out.bel.size _
      have HBW := Lib.hid hBW
      obtain ⟨_, _, _, _, y4⟩ := hat9.cells
      simp only at y4
      clear hold hrun9 hof9 hkeep hat hBW hy hat9
      go_wp2_with fail
      go_fit (HRU.out En _ hEn)
      rintro e w2 ⟨rfl, rfl⟩
      generalize hF : upN En = F at *
      obtain ⟨G, hG⟩ : ∃ G : Nat, G + F = 16777216 := ⟨16777216 - F, by omega⟩
      have es : IntKind.i64.wrap ((16777216 : Int) - (F : Int)) = (G : Int) := by rw [IntKind.wrap_i64]; omega
      generalize hd : y.data.length = d at *
      by_cases hfit : G < d
      · have f3 : decide (G < d) = true := by simpa using hfit
        have HEND : Hid (PlaceEnd ms w (.returned (.tuple #[.slice none 0 0, .int .i64 0, .bool false])) (wr.alloc (.cells #[.string ⟨tn.toArray⟩, .int .i64 tk, .int .i64 tw, .int .i64 te, .slice tA d tc] 41))) := Lib.hid ⟨HBW.out, .inl ⟨by have := HOV.out; have := HT.out; omega, rfl⟩⟩
        clear hfit
        go_wp2
        go_ret3
        exact HEND.out
      · have f3 : decide (G < d) = false := by simpa using hfit
        have hfd : F + d ≤ 16777216 := by omega
        have HN2 : Hid (upN (F + d) = endM (startM ms) (ms.take (k + 1))) := Lib.hid (by rw [← HNX.out, ← HT.out])
        have ea : IntKind.i64.wrap ((F : Int) + (d : Int)) = ((F + d : Nat) : Int) := by rw [IntKind.wrap_i64]; omega
        clear hfit
        go_wp2_with (at_builtin; refine wpList_gapp HR9.out rfl rfl rfl rfl rfl ?_)
        go_roundw
        case rel => exact ⟨k + 1, F + d, by go_num, by go_num, by omega, HN2, hfd, HOF9⟩
        case measure => simp [intOf]; omega
    · have he : k = ms.length := by omega
      subst he
      have HEQ : Hid (upN En = endM (startM ms) ms) := Lib.hid (by have := HT.out; rwa [List.take_length] at this)
      obtain ⟨A', c', rfl, _, _, hro⟩ := HO.out.own.row natEnc_len
      rw [offsL_len]
      have HRO := Lib.hid hro
      have hup : upN En ≤ 16777216 := upN_small hEn
      have HEND : Hid (PlaceEnd ms w (.returned (.tuple #[.slice A' ms.length c', .int .i64 (upN En : Nat), .bool true])) wr) := Lib.hid ⟨HO.out.bel, .inr ⟨by rw [← HEQ.out]; exact hup, A', c', by rw [HEQ.out], HRO.out⟩⟩
      clear hro
      go_wp2_with fail
      go_fit (HRU.out En _ hEn)
      rintro e w2 ⟨rfl, rfl⟩
      go_wp2
      go_ret3
      exact HEND.out
end Go.Proofs.YtcenonnccodfoaaDoor


namespace Go.Proofs.YtcenonnccodfoaaDoor

open Go.RowKit

/-- The fields asx they lie in a slice. -/
def fcells (fs : List (Nat × Nat)) : List Value := fs.flatMap fun f => [.int .i64 (f.1 : Int), .int .i64 (f.2 : Int)]
theorem fcells_len (fs : List (Nat × Nat)) : (fcells fs).length = fs.length * 2 := by
  induction fs with
  | nil => rfl
  | cons f r ih => show (_ :: _ :: fcells r).length = _; simp only [List.length_cons, ih]; omega
theorem fcells_get (fs : List (Nat × Nat)) : ∀ (i : Nat) (h : i < fs.length), (fcells fs)[i * 2]? = some (.int .i64 (fs[i].1 : Int)) ∧ (fcells fs)[i * 2 + 1]? = some (.int .i64 (fs[i].2 : Int)) := by
  induction fs with
  | nil => intro i h; simp at h
  | cons f r ih =>
    intro i h
    cases i with
    | zero => exact ⟨rfl, rfl⟩
    | succ i =>
      have := ih i (by simpa using h)
      rw [show (i + 1) * 2 = i * 2 + 1 + 1 by omega]
      exact this
/-- A slice of fields: block p is just these. -/
def FieldsAt (w : World) (p : Nat) (fs : List (Nat × Nat)) : Prop := RowT w p 82 (fcells fs)
/-- A slice of numbers: block q is just these. -/
def NumsAt (w : World) (q : Nat) (vs : List Nat) : Prop := RowT w q 43 (vs.map fun v : Nat => Value.int .u32 (v : Int))
theorem headF_any (w : World) : Calls Tryd.prog 45 #[] w fun e w' => e = .returned (.slice (some ⟨w.heap.size, 0, none⟩) 4 4) ∧ FieldsAt w' w.heap.size headF ∧ Below w.heap.size w w' := by
  have HR : Hid (FieldsAt (w.alloc (.cells #[.int .i64 4, .int .i64 2, .int .i64 6, .int .i64 2, .int .i64 8, .int .i64 4, .int .i64 12, .int .i64 4] 82)) w.heap.size headF) := Lib.hid (heap_alloc_new w _)
  have HB := Lib.hid fun o => bel_lit8 (Below.refl w.heap.size w) o
  go_enter Tryd.func45, Tryd.ntmps45
  go_wp2
  go_ret
  exact ⟨rfl, HR.out, HB.out _⟩
theorem entF_any (w : World) : Calls Tryd.prog 43 #[] w fun e w' => e = .returned (.slice (some ⟨w.heap.size, 0, none⟩) 6 6) ∧ FieldsAt w' w.heap.size entF ∧ Below w.heap.size w w' := by
  have HR : Hid (FieldsAt (w.alloc (.cells #[.int .i64 24, .int .i64 1, .int .i64 25, .int .i64 1, .int .i64 28, .int .i64 4, .int .i64 32, .int .i64 4, .int .i64 36, .int .i64 4, .int .i64 40, .int .i64 4] 82)) w.heap.size entF) := Lib.hid (heap_alloc_new w _)
  have HB := Lib.hid fun o => bel_lit8 (Below.refl w.heap.size w) o
  go_enter Tryd.func43, Tryd.ntmps43
  go_wp2
  go_ret
  exact ⟨rfl, HR.out, HB.out _⟩
/-- The first k fields written. -/
def wrK (L : List UInt8) (o : Nat) (fs : List (Nat × Nat)) (vs : List Nat) (k : Nat) : List UInt8 := ((fs.zip vs).take k).foldl (fun L x => patch L (o + x.1.1) (leB x.2 x.1.2)) L
theorem wrK_zero (L : List UInt8) (o : Nat) (fs : List (Nat × Nat)) (vs : List Nat) : wrK L o fs vs 0 = L := rfl
theorem wrK_all (L : List UInt8) (o : Nat) (fs : List (Nat × Nat)) (vs : List Nat) (h : fs.length = vs.length) : wrK L o fs vs fs.length = wrF L o fs vs := by
  unfold wrK wrF; rw [List.take_of_length_le (by simp [h])]
theorem wrK_succ (L : List UInt8) (o : Nat) (fs : List (Nat × Nat)) (vs : List Nat) (k : Nat) (h1 : k < fs.length) (h2 : k < vs.length) : wrK L o fs vs (k + 1) = patch (wrK L o fs vs k) (o + fs[k].1) (leB vs[k] fs[k].2) := by
  have hz : k < (fs.zip vs).length := by rw [List.length_zip]; omega
  unfold wrK
  rw [List.take_succ_eq_append_getElem hz, List.foldl_append, List.getElem_zip]
  rfl
theorem length_wrK (L : List UInt8) (o n : Nat) (fs : List (Nat × Nat)) (vs : List Nat) (hl : fs.length = vs.length) (hf : ∀ f ∈ fs, f.1 + f.2 ≤ n) (ho : o + n ≤ L.length) : ∀ k, k ≤ fs.length → (wrK L o fs vs k).length = L.length
  | 0, _ => rfl
  | k + 1, hk => by
    have ih := length_wrK L o n fs vs hl hf ho k (by omega)
    have := hf _ (List.getElem_mem (show k < fs.length by omega))
    rw [wrK_succ L o fs vs k (by omega) (by omega), length_patch (by rw [length_leB, ih]; omega), ih]
theorem leB_take (v : Nat) : ∀ (j k : Nat), k ≤ j → (leB v j).take k = leB v k
  | 0, k, h => by
    have : k = 0 := by omega
    subst this; rfl
  | j + 1, k, h => by
    show (leB v j ++ [_]).take k = _
    by_cases e : k = j + 1
    · subst e
      rw [List.take_of_length_le (by rw [List.length_append, length_leB]; simp)]; rfl
    · rw [List.take_append_of_le_length (by rw [length_leB]; omega), leB_take v j k (by omega)]
/-- A copy whose run is known by what it leaves, asx a step of a region that leaves its order open. -/
theorem step_copy_ex {ops : Array Oper} {o : Oper} {a : Act} {W : World} {K : Act → World → Prop} {Q : Exit → Act → World → Prop} {E : Prop} {v y : Value} {dT sT : TypeId} {R : World → Prop}
    (H : ∃ v' w', (Builtin.copy_ #[dT, sT] o.type #[v, y]).run Tryd.prog W = .ok v' w' ∧ R w') (hg : o.guard = none) {s x : Operand}
    (ho : o.op = .call { callee := .builtin .copy, args := #[s, x], argTypes := #[dT, sT] }) (hs : a.eval s = v) (hx : a.eval x = y) (hK : ∀ v' w', R w' → K (a.put o.dst v') w') :
    if Region.wanted o (yielded ops a.tmps) = true then Oper.wp Tryd.prog o a W K Q else E := by
  obtain ⟨v', w', hr, h2⟩ := H
  exact step_copy_run hr hg ho hs hx (hK _ _ h2)
end Go.Proofs.YtcenonnccodfoaaDoor
