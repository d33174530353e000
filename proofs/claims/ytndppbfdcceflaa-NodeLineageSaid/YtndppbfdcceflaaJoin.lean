/-
  The contract of the program's join: it returns a new slice with the bytes of all parts, one behind the other, and turns nothing that was there.
  Conditions: the parts lie in a slice that can be read, each part reads as a list of bytes, and together they have at most 2^40 bytes.
-/
import Derived.Test.YtndppbfdcceflaaBase
namespace Go.Proofs.Ytndppbfdcceflaa

open Go.RowKit

/-- One part: a slice value and what it holds. -/
structure Part where
  a : Option Addr
  n : Nat
  c : Nat
  l : List UInt8
def Part.zero : Part := ⟨none, 0, 0, []⟩
def partV (ps : List Part) (j : Nat) : Value := .slice (ps.getD j Part.zero).a (ps.getD j Part.zero).n (ps.getD j Part.zero).c
def cat (ps : List Part) : List UInt8 := (ps.map Part.l).flatten
def lenTo (ps : List Part) (j : Nat) : Nat := (cat (ps.take j)).length
def zeros (n : Nat) : List Value := List.replicate n (.int .u8 0)
/-- The new row behind the first j parts. -/
def rowTo (ps : List Part) (N j : Nat) : List Value := vals (cat (ps.take j)) ++ zeros (N - lenTo ps j)
def RowAt (w : World) (g : Nat) (cs : List Value) : Prop := w.heap[g]? = some (.cells cs.toArray 5 (0, 0))

theorem cat_take (ps : List Part) (j : Nat) (h : j < ps.length) : cat (ps.take (j + 1)) = cat (ps.take j) ++ (ps.getD j Part.zero).l := by
  unfold cat
  rw [List.take_succ_eq_append_getElem h, List.map_append, List.flatten_append, List.getD_eq_getElem?_getD, List.getElem?_eq_getElem h]
  simp
theorem lenTo_succ (ps : List Part) (j : Nat) (h : j < ps.length) : lenTo ps (j + 1) = lenTo ps j + (ps.getD j Part.zero).l.length := by
  unfold lenTo; rw [cat_take ps j h, List.length_append]
theorem lenTo_le (ps : List Part) (j : Nat) : lenTo ps j ≤ (cat ps).length := by
  unfold lenTo cat
  have h : ((ps.map Part.l).take j).flatten.length + ((ps.map Part.l).drop j).flatten.length = (ps.map Part.l).flatten.length := by
    rw [← List.length_append, ← List.flatten_append, List.take_append_drop]
  rw [List.map_take]; omega
theorem lenTo_all (ps : List Part) (j : Nat) (h : ps.length ≤ j) : lenTo ps j = (cat ps).length := by unfold lenTo; rw [List.take_of_length_le h]
theorem length_vals (l : List UInt8) : (vals l).length = l.length := by simp [vals]
theorem vals_append (a b : List UInt8) : vals (a ++ b) = vals a ++ vals b := by simp [vals]
theorem vals_one (l : List UInt8) : ∀ v ∈ vals l, v.oneCell' = true := by
  intro v hv; simp only [vals, List.mem_map] at hv; obtain ⟨c, _, rfl⟩ := hv; rfl
theorem vals_get (l : List UInt8) (j : Nat) (v : Value) (h : (vals l)[j]? = some v) : j < l.length ∧ v = .int .u8 (bt l j : Int) := by
  simp only [vals, List.getElem?_map, Option.map_eq_some_iff] at h
  obtain ⟨c, hc, rfl⟩ := h
  refine ⟨?_, ?_⟩
  · rcases Nat.lt_or_ge j l.length with h' | h'
    · exact h'
    · rw [List.getElem?_eq_none h'] at hc; cases hc
  · unfold bt; rw [List.getD_eq_getElem?_getD, hc]; rfl
theorem length_rowTo (ps : List Part) (N j : Nat) (h : lenTo ps j ≤ N) : (rowTo ps N j).length = N := by
  unfold rowTo zeros; rw [List.length_append, length_vals, List.length_replicate]; unfold lenTo at h ⊢; omega
theorem rowTo_succ (ps : List Part) (N j : Nat) (h : j < ps.length) (hN : lenTo ps (j + 1) ≤ N) :
    splice (rowTo ps N j) (lenTo ps j) (vals (ps.getD j Part.zero).l) = rowTo ps N (j + 1) := by
  have hs := lenTo_succ ps j h
  unfold splice rowTo
  rw [List.take_left' (by rw [length_vals]; rfl), cat_take ps j h, vals_append, List.append_assoc]
  congr 2
  rw [List.drop_append, List.drop_of_length_le (by rw [length_vals, length_vals]; unfold lenTo; omega), List.nil_append]
  unfold zeros
  rw [List.drop_replicate, length_vals, length_vals]
  congr 1
  have : (cat (ps.take j)).length = lenTo ps j := rfl
  omega

theorem byte_info : (Try.prog.info? 5).map (fun i => (i.zero, i.size, i.bytes)) = some (some (.int .u8 0), 1, 1) := by kernel_rfl

theorem RowAt.of_own {w : World} {base g n : Nat} {xs : List Value} (h : w.ownsRow base 5 1 (.slice (some ⟨g, 0, none⟩) n n) n xs) : RowAt w g xs := by
  rcases h.2 with ⟨h1, _⟩ | ⟨g', cap, cur, hv, _, hh, hn, _, hs, ht⟩
  · cases h1
  · injection hv with h1 h2 h3
    injection h1 with h1
    injection h1 with h1
    subst h1 h3
    unfold RowAt
    rw [hh, ← ht, List.take_of_length_le (by simp; omega)]
theorem RowAt.byt {w : World} {g : Nat} {l : List UInt8} (h : RowAt w g (vals l)) : Byt w (g + 1) (some ⟨g, 0, none⟩) l.length l := by
  refine ⟨rfl, fun _ => ⟨g, 0, rfl, by omega, fun j hj => ?_⟩⟩
  rw [cell_of_row w g (0 + j) _ _ _ h]
  simp only [Nat.zero_add, List.getElem?_toArray]
  unfold byV vals bt
  rw [List.getElem?_map, List.getElem?_eq_getElem hj, List.getD_eq_getElem?_getD, List.getElem?_eq_getElem hj]; rfl
theorem RowAt.lt {w : World} {g : Nat} {cs : List Value} (h : RowAt w g cs) : g < w.heap.size := by
  rcases Nat.lt_or_ge g w.heap.size with hlt | hge
  · exact hlt
  · unfold RowAt at h; rw [Array.getElem?_eq_none hge] at h; cases h

/-- The builtin copy into a row that is known whole. -/
theorem run_splice {W w0 : World} {B B0 : Nat} (dp sp : Option Addr) (dLen dCap sLen sCap g off : Nat) (cur : List Value) (hg : RowAt W g cur) (l : List UInt8) (hsrc : Byt W B sp sLen l) (hle : sLen ≤ dLen)
    (hpos : 0 < sLen → dp = some ⟨g, off, none⟩) (hfit : off + sLen ≤ cur.length) (hb : Below B0 w0 W) (hBg : B0 ≤ g) :
    ∃ w', (Builtin.copy_ #[39, 39] 3 #[.slice dp dLen dCap, .slice sp sLen sCap]).run Try.prog W = .ok (.int .i64 (sLen : Int)) w' ∧ RowAt w' g (splice cur off (vals l)) ∧ Below B0 w0 w' := by
  by_cases h0 : sLen = 0
  · subst h0
    obtain rfl : l = [] := List.eq_nil_of_length_eq_zero hsrc.1
    exact ⟨W, run_copy_none (P := Try.prog) W _ _ _ 5 dp sp dLen dCap 0 sCap Try.underlying39 byte_size (by simp), by simpa [splice, vals] using hg, hb⟩
  · obtain ⟨b, o, rfl, _, hc⟩ := hsrc.at_ (by omega)
    obtain rfl := hpos (by omega)
    have hlen : (vals l).length = sLen := (length_vals l).trans hsrc.1
    have hrun := run_copy_row (P := Try.prog) W 39 39 3 5 g off dLen dCap ⟨b, o, none⟩ sLen sCap cur.toArray 5 (vals l) Try.underlying39 byte_size hg
      (by rw [hlen]; exact (Nat.min_eq_left hle).symm)
      (fun j v hv => by
        obtain ⟨hj, rfl⟩ := vals_get l j v hv
        rw [hsrc.1] at hj
        rw [← hc j hj]
        unfold Addr.add
        split
        · subst_vars; rfl
        · rfl)
      (by rw [hlen]; simpa using hfit) (vals_one l)
    rw [hlen] at hrun
    refine ⟨_, hrun, ?_, below_setRow hb hBg _⟩
    show _ = _
    rw [setRow_heap W g cur.toArray _ 5 _ hg]
    simp [splice, hlen]

set_option maxHeartbeats 800000 in
theorem join_any (P : Option Addr) (k c B : Nat) (ps : List Part) (w : World) (hk : ps.length = k) (hr : Row w B P k (partV ps)) (hps : ∀ j, Byt w B (ps.getD j Part.zero).a (ps.getD j Part.zero).n (ps.getD j Part.zero).l)
    (hB : B ≤ w.heap.size) (hN : (cat ps).length ≤ 1099511627776) (hkb : k ≤ 1099511627776) :
    Calls Try.prog 32 #[.slice P k c] w fun e w' => e = .returned (.slice (some ⟨w.heap.size, 0, none⟩) (cat ps).length (cat ps).length) ∧ RowAt w' w.heap.size (vals (cat ps)) ∧ Below w.heap.size w w' := by
  have HK := Lib.hid hk
  have HR := Lib.hid hr
  have HPS := Lib.hid hps
  clear hr hps hk
  obtain ⟨N, hNe⟩ : ∃ N, N = (cat ps).length := ⟨_, rfl⟩
  rw [← hNe] at hN ⊢
  have HN := Lib.hid hNe
  clear hNe
  obtain ⟨i0, hi0, hz0, hz1, hz2⟩ := info_parts byte_info
  have HI := Lib.hid hi0
  have HZ0 := Lib.hid hz0
  have HZ1 := Lib.hid hz1
  have HZ2 := Lib.hid hz2
  clear hi0 hz0 hz1 hz2
  go_enter Try.func32, Try.ntmps32
  go_wp2
  go_loop [3, 12] (fun t i => ∃ j : Nat, j ≤ k ∧ i = .int .i64 j ∧ t = .int .i64 (lenTo ps j : Nat)) (fun _ i => k - (intOf i).toNat)
  case atStart => exact ⟨0, Nat.zero_le _, rfl, rfl⟩
  case round =>
    obtain ⟨j, hj, rfl, rfl⟩ := hrel
    have hle := lenTo_le ps j
    rw [← HN.out] at hle
    by_cases hlt : j < k
    · obtain ⟨b, off, rfl, hb, hc⟩ := HR.out (by omega)
      have hcj := hc j hlt
      have hls := lenTo_succ ps j (by rw [HK.out]; exact hlt)
      have hle2 := lenTo_le ps (j + 1)
      rw [← HN.out] at hle2
      have hb1 := (HPS.out j).1
      unfold partV at hcj
      obtain ⟨p, hp⟩ : ∃ p, p = ps.getD j Part.zero := ⟨_, rfl⟩
      rw [← hp] at hcj hls hb1
      obtain ⟨pa, pn, pc, pl⟩ := p
      simp only at hcj hls hb1
      rw [hb1] at hls
      have HL := Lib.hid hls
      have hb2 : lenTo ps j + pn ≤ N := by omega
      clear hc hp hls hb1 hle2
      go_wp2
      go_round
      case rel => exact ⟨j + 1, by omega, by go_num, by rw [HL.out]; go_num⟩
      case measure => simp [intOf]; omega
    · have hje : lenTo ps j = N := by rw [HN.out]; exact lenTo_all ps j (by rw [HK.out]; omega)
      rw [hje]
      clear hje hle
      go_wp2_with (at_make; refine wpList_make_full _ rfl _ _ 39 rfl w.heap.size 5 i0 _ 1 Try.underlying39 HI.out HZ0.out HZ1.out _ _ _ _ N rfl rfl rfl rfl (by rw [HZ2.out]; omega) (by unfold maxLen; omega) (Nat.le_refl _) ?_; intro w1 hown1 hg1)
      have hrow0 := RowAt.of_own hown1
      have hb0 : Below w.heap.size w w1 := (Below.refl _ _).grown hg1 (Nat.le_refl _) (by simp)
      clear hown1 hg1
      have hrow : RowAt w1 w.heap.size (rowTo ps N 0) := by
        have e : rowTo ps N 0 = (madeCells (Value.int IntKind.u8 0).cells (N * 1)).toList := by
          show _ = (madeCells #[Value.int IntKind.u8 0] (N * 1)).toList
          rw [toList_madeCells_one]; simp [rowTo, zeros, lenTo, cat, vals]
        rw [e]; exact hrow0
      have HROW := Lib.hid hrow
      have HB0 := Lib.hid hb0
      clear hrow hrow0 hb0
      go_loopw [7, 25] (fun t i wr => ∃ j : Nat, j ≤ k ∧ i = .int .i64 j ∧ t = .int .i64 (lenTo ps j : Nat) ∧ Hid (RowAt wr w.heap.size (rowTo ps N j)) ∧ Hid (Below w.heap.size w wr)) (fun _ i _ => k - (intOf i).toNat)
      case atStart => exact ⟨0, Nat.zero_le _, rfl, rfl, HROW, HB0⟩
      case round =>
        obtain ⟨j2, hj2, rfl, rfl, HW, HBW⟩ := hrel
        have hle := lenTo_le ps j2
        rw [← HN.out] at hle
        by_cases hlt2 : j2 < k
        · obtain ⟨b, off, rfl, hb, hc⟩ := (HR.out.below (HBW.out.mono hB)) (by omega)
          have hcj := hc j2 hlt2
          have hls := lenTo_succ ps j2 (by rw [HK.out]; exact hlt2)
          have hle2 := lenTo_le ps (j2 + 1)
          rw [← HN.out] at hle2
          have hby := (HPS.out j2).below (HBW.out.mono hB)
          have hsp := rowTo_succ ps N j2 (by rw [HK.out]; exact hlt2) hle2
          unfold partV at hcj
          obtain ⟨p, hp⟩ : ∃ p, p = ps.getD j2 Part.zero := ⟨_, rfl⟩
          rw [← hp] at hcj hls hby hsp
          obtain ⟨pa, pn, pc, pl⟩ := p
          simp only at hcj hls hby hsp
          have HSP := Lib.hid hsp
          have HBY := Lib.hid hby
          rw [hby.1] at hls
          have HL := Lib.hid hls
          have hb2 : lenTo ps j2 + pn ≤ N := by omega
          clear hc hp hls hle2 hsp hby
          obtain ⟨L, hL⟩ : ∃ L, L = lenTo ps j2 := ⟨_, rfl⟩
          rw [← hL] at HL hb2 hle HSP ⊢
          have HLL := Lib.hid hL
          clear hL
          have hcut := cut_from (some ⟨w.heap.size, 0, none⟩) N N L hle
          obtain ⟨D, hD⟩ : ∃ D, D = cutA (some ⟨w.heap.size, 0, none⟩) N L := ⟨_, rfl⟩
          rw [← hD] at hcut
          have HD := Lib.hid hD
          clear hD
          obtain ⟨w2, hcopy, hrow2, hbw2⟩ := run_splice (W := wr) (w0 := w) (B := B) (B0 := w.heap.size) D pa (N - L) (N - L) pn pc w.heap.size L (rowTo ps N j2) HW.out pl HBY.out (by omega)
            (fun h0 => by rw [HD.out]; simpa using cutA_at w.heap.size 0 N L (by omega)) (by rw [length_rowTo ps N j2 (by rw [← HLL.out]; exact hle)]; exact hb2) HBW.out (Nat.le_refl _)
          rw [HSP.out] at hrow2
          have HR2 := Lib.hid hrow2
          have HB2 := Lib.hid hbw2
          clear hrow2 hbw2
          go_wp2
          go_roundw
          case rel => exact ⟨j2 + 1, by omega, by go_num, by rw [HL.out]; go_num, HR2, HB2⟩
          case measure => simp [intOf]; omega
        · have hje : lenTo ps j2 = N := by rw [HN.out]; exact lenTo_all ps j2 (by rw [HK.out]; omega)
          go_wp2
          go_ret
          refine ⟨rfl, ?_, HBW.out⟩
          have h1 := HW.out
          unfold rowTo at h1
          rw [hje, Nat.sub_self, List.take_of_length_le (by rw [HK.out]; omega)] at h1
          simpa [zeros] using h1

def Part.v (p : Part) : Value := .slice p.a p.n p.c
theorem partV_get (ps : List Part) (j : Nat) (h : j < ps.length) : (ps.map Part.v)[j]? = some (partV ps j) := by
  rw [List.getElem?_map, List.getElem?_eq_getElem h]; unfold partV Part.v
  rw [List.getD_eq_getElem?_getD, List.getElem?_eq_getElem h]; rfl
/-- The parts written into a new block: join as it is called. -/
theorem join_of (ps : List Part) (B : Nat) (W : World) (hps : ∀ p ∈ ps, Byt W B p.a p.n p.l) (hB : B ≤ W.heap.size) (hN : (cat ps).length ≤ 1099511627776) (hkb : ps.length ≤ 1099511627776) :
    Calls Try.prog 32 #[.slice (some ⟨W.heap.size, 0, none⟩) ps.length ps.length] (W.alloc (.cells (ps.map Part.v).toArray 39)) fun e w' =>
      e = .returned (.slice (some ⟨W.heap.size + 1, 0, none⟩) (cat ps).length (cat ps).length) ∧ RowAt w' (W.heap.size + 1) (vals (cat ps)) ∧ Below W.heap.size W w' := by
  have hr := RowT.new W 39 (ps.map Part.v)
  have hz : (W.alloc (.cells (ps.map Part.v).toArray 39)).heap.size = W.heap.size + 1 := by simp
  have hal : Below W.heap.size W (W.alloc (.cells (ps.map Part.v).toArray 39)) := (Below.refl _ _).alloc (Nat.le_refl _) _
  refine (join_any (some ⟨W.heap.size, 0, none⟩) ps.length ps.length (W.heap.size + 1) ps _ rfl (fun _ => ⟨W.heap.size, 0, rfl, by omega, fun j hj => ?_⟩) (fun j => ?_) (by rw [hz]; exact Nat.le_refl _) hN hkb).mono fun e w' ⟨he, h1, h2⟩ => ⟨?_, ?_, ?_⟩
  · rw [Nat.zero_add, hr.cell, partV_get ps j hj]
  · rcases Nat.lt_or_ge j ps.length with hj | hj
    · have e : ps.getD j Part.zero = ps[j] := by rw [List.getD_eq_getElem?_getD, List.getElem?_eq_getElem hj]; rfl
      rw [e]
      exact ((hps _ (List.getElem_mem hj)).below (hal.mono hB)).wide (by omega)
    · have e : ps.getD j Part.zero = Part.zero := by rw [List.getD_eq_getElem?_getD, List.getElem?_eq_none hj]; rfl
      rw [e]; exact Byt.nil
  · rw [he, hz]
  · rw [hz] at h1; exact h1
  · rw [hz] at h2; exact hal.trans (h2.mono (by omega))

end Go.Proofs.Ytndppbfdcceflaa
