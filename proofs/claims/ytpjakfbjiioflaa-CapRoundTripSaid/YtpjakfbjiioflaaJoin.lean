/-
  The contract of the program's join: it returns a new slice with the bytes of all parts, one behind the other, and turns nothing that was there.
  Conditions: the parts lie in a slice that can be read, each part reads as a list of bytes, and together they have at most 2^40 bytes.
-/
import Derived.Test.YtpjakfbjiioflaaBase
namespace Go.Proofs.Ytpjakfbjiioflaa

open Go.RowKit

/-- One part: a slice value and what it holds. -/
structure Part where
  a : Option Addr
  n : Nat
  c : Nat
  l : List UInt8
def Part.zero : Part := ⟨none, 0, 0, []⟩
def partV (ps : List Part) (j : Nat) : Value := .slice (ps.getD j Part.zero).a (ps.getD j Part.zero).n (ps.getD j Part.zero).c
def cat (ps : List Part) : List UInt8 := (ps.map Part.l).flatten
def lenTo (ps : List Part) (j : Nat) : Nat := (cat (ps.take j)).length
def zeros (n : Nat) : List Value := List.replicate n (.int .u8 0)
/-- The new row behind the first j parts. -/
def rowTo (ps : List Part) (N j : Nat) : List Value := vals (cat (ps.take j)) ++ zeros (N - lenTo ps j)
def RowAt (w : World) (g : Nat) (cs : List Value) : Prop := w.heap[g]? = some (.cells cs.toArray 5 (0, 0))

theorem cat_take (ps : List Part) (j : Nat) (h : j < ps.length) : cat (ps.take (j + 1)) = cat (ps.take j) ++ (ps.getD j Part.zero).l := by
  unfold cat
  rw [List.take_succ_eq_append_getElem h, List.map_append, List.flatten_append, List.getD_eq_getElem?_getD, List.getElem?_eq_getElem h]
  simp
theorem lenTo_succ (ps : List Part) (j : Nat) (h : j < ps.length) : lenTo ps (j + 1) = lenTo ps j + (ps.getD j Part.zero).l.length := by
  unfold lenTo; rw [cat_take ps j h, List.length_append]
theorem lenTo_le (ps : List Part) (j : Nat) : lenTo ps j ≤ (cat ps).length := by
  unfold lenTo cat
  have h : ((ps.map Part.l).take j).flatten.length + ((ps.map Part.l).drop j).flatten.length = (ps.map Part.l).flatten.length := by
    rw [← List.length_append, ← List.flatten_append, List.take_append_drop]
  rw [List.map_take]; omega
theorem lenTo_all (ps : List Part) (j : Nat) (h : ps.length ≤ j) : lenTo ps j = (cat ps).length := by unfold lenTo; rw [List.take_of_length_le h]
theorem length_vals (l : List UInt8) : (vals l).length = l.length := by simp [vals]
theorem vals_append (a b : List UInt8) : vals (a ++ b) = vals a ++ vals b := by simp [vals]
theorem vals_one (l : List UInt8) : ∀ v ∈ vals l, v.oneCell' = true := by
  intro v hv; simp only [vals, List.mem_map] at hv; obtain ⟨c, _, rfl⟩ := hv; rfl
theorem vals_get (l : List UInt8) (j : Nat) (v : Value) (h : (vals l)[j]? = some v) : j < l.length ∧ v = .int .u8 (bt l j : Int) := by
  simp only [vals, List.getElem?_map, Option.map_eq_some_iff] at h
  obtain ⟨c, hc, rfl⟩ := h
  refine ⟨?_, ?_⟩
  · rcases Nat.lt_or_ge j l.length with h' | h'
    · exact h'
    · rw [List.getElem?_eq_none h'] at hc; cases hc
  · unfold bt; rw [List.getD_eq_getElem?_getD, hc]; rfl
theorem length_rowTo (ps : List Part) (N j : Nat) (h : lenTo ps j ≤ N) : (rowTo ps N j).length = N := by
  unfold rowTo zeros; rw [List.length_append, length_vals, List.length_replicate]; unfold lenTo at h ⊢; omega
theorem rowTo_succ (ps : List Part) (N j : Nat) (h : j < ps.length) (hN : lenTo ps (j + 1) ≤ N) :
    splice (rowTo ps N j) (lenTo ps j) (vals (ps.getD j Part.zero).l) = rowTo ps N (j + 1) := by
  have hs := lenTo_succ ps j h
  unfold splice rowTo
  rw [List.take_left' (by rw [length_vals]; rfl), cat_take ps j h, vals_append, List.append_assoc]
  congr 2
  rw [List.drop_append, List.drop_of_length_le (by rw [length_vals, length_vals]; unfold lenTo; omega), List.nil_append]
  unfold zeros
  rw [List.drop_replicate, length_vals, length_vals]
  congr 1
  have : (cat (ps.take j)).length = lenTo ps j := rfl
  omega

theorem byte_info : (Try.prog.info? 5).map (fun i => (i.zero, i.size, i.bytes)) = some (some (.int .u8 0), 1, 1) := by kernel_rfl

theorem RowAt.of_own {w : World} {base g n : Nat} {xs : List Value} (h : w.ownsRow base 5 1 (.slice (some ⟨g, 0, none⟩) n n) n xs) : RowAt w g xs := by
  rcases h.2 with ⟨h1, _⟩ | ⟨g', cap, cur, hv, _, hh, hn, _, hs, ht⟩
  · cases h1
  · injection hv with h1 h2 h3
    injection h1 with h1
    injection h1 with h1
    subst h1 h3
    unfold RowAt
    rw [hh, ← ht, List.take_of_length_le (by simp; omega)]
theorem RowAt.byt {w : World} {g : Nat} {l : List UInt8} (h : RowAt w g (vals l)) : Byt w (g + 1) (some ⟨g, 0, none⟩) l.length l := by
  refine ⟨rfl, fun _ => ⟨g, 0, rfl, by omega, fun j hj => ?_⟩⟩
  rw [cell_of_row w g (0 + j) _ _ _ h]
  simp only [Nat.zero_add, List.getElem?_toArray]
  unfold byV vals bt
  rw [List.getElem?_map, List.getElem?_eq_getElem hj, List.getD_eq_getElem?_getD, List.getElem?_eq_getElem hj]; rfl
theorem RowAt.lt {w : World} {g : Nat} {cs : List Value} (h : RowAt w g cs) : g < w.heap.size := by
  rcases Nat.lt_or_ge g w.heap.size with hlt | hge
  · exact hlt
  · unfold RowAt at h; rw [Array.getElem?_eq_none hge] at h; cases h

/-- The builtin copy into a row that is known whole. -/
theorem run_splice {W w0 : World} {B B0 : Nat} (dp sp : Option Addr) (dLen dCap sLen sCap g off : Nat) (cur : List Value) (hg : RowAt W g cur) (l : List UInt8) (hsrc : Byt W B sp sLen l) (hle : sLen ≤ dLen)
    (hpos : 0 < sLen → dp = some ⟨g, off, none⟩) (hfit : off + sLen ≤ cur.length) (hb : Below B0 w0 W) (hBg : B0 ≤ g) :
    ∃ w', (Builtin.copy_ #[38, 38] 3 #[.slice dp dLen dCap, .slice sp sLen sCap]).run Try.prog W = .ok (.int .i64 (sLen : Int)) w' ∧ RowAt w' g (splice cur off (vals l)) ∧ Below B0 w0 w' := by
  by_cases h0 : sLen = 0
  · subst h0
    obtain rfl : l = [] := List.eq_nil_of_length_eq_zero hsrc.1
    exact ⟨W, run_copy_none (P := Try.prog) W _ _ _ 5 dp sp dLen dCap 0 sCap Try.underlying38 byte_size (by simp), by simpa [splice, vals] using hg, hb⟩
  · obtain ⟨b, o, rfl, _, hc⟩ := hsrc.at_ (by omega)
    obtain rfl := hpos (by omega)
    have hlen : (vals l).length = sLen := (length_vals l).trans hsrc.1
    have hrun := run_copy_row (P := Try.prog) W 38 38 3 5 g off dLen dCap ⟨b, o, none⟩ sLen sCap cur.toArray 5 (vals l) Try.underlying38 byte_size hg
      (by rw [hlen]; exact (Nat.min_eq_left hle).symm)
      (fun j v hv => by
        obtain ⟨hj, rfl⟩ := vals_get l j v hv
        rw [hsrc.1] at hj
        rw [← hc j hj]
        unfold Addr.add
        split
        · subst_vars; rfl
        · rfl)
      (by rw [hlen]; simpa using hfit) (vals_one l)
    rw [hlen] at hrun
    refine ⟨_, hrun, ?_, below_setRow hb hBg _⟩
    show _ = _
    rw [setRow_heap W g cur.toArray _ 5 _ hg]
    simp [splice, hlen]

def Part.v (p : Part) : Value := .slice p.a p.n p.c
theorem partV_get (ps : List Part) (j : Nat) (h : j < ps.length) : (ps.map Part.v)[j]? = some (partV ps j) := by
  rw [List.getElem?_map, List.getElem?_eq_getElem h]; unfold partV Part.v
  rw [List.getD_eq_getElem?_getD, List.getElem?_eq_getElem h]; rfl
end Go.Proofs.Ytpjakfbjiioflaa
