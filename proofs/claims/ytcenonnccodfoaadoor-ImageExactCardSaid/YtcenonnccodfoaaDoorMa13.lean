/-
  Images that are cut, or have a byte more, or other bytes in the header or behind it: what Parse yields. Plain mathematics.
  Conditions: none.
  The modules that the table of an image names, as plain functions of the bytes; of an image they are its modules. Plain mathematics.
  Conditions: as each theorem says.
  The program's readFields: the numbers in the fields of a slice of bytes.
  Conditions: the fields lie in the slice and have 1 to 4 bytes.
-/
import Derived.Test.YtcenonnccodfoaaDoorMa9
import Derived.Test.YtcenonnccodfoaaDoorMa10
import Derived.Lib.TrimByte
import Derived.Test.YtcenonnccodfoaaDoorMa12
namespace Go.Proofs.YtcenonnccodfoaaDoor

open Go.RowKit

theorem leUp_take (l : List UInt8) (k o : Nat) : ∀ n, o + n ≤ k → leUp (l.take k) o n = leUp l o n
  | 0, _ => rfl
  | n + 1, h => by
    show leUp (l.take k) o n + bt (l.take k) (o + n) * 256 ^ n = leUp l o n + bt l (o + n) * 256 ^ n
    rw [leUp_take l k o n (by omega), bt_take l k (o + n) (by omega)]
theorem bt_left (l t : List UInt8) (j : Nat) (h : j < l.length) : bt (l ++ t) j = bt l j := by
  unfold bt
  rw [List.getD_eq_getElem?_getD, List.getD_eq_getElem?_getD, List.getElem?_append_left h]
theorem leUp_left (l t : List UInt8) (o : Nat) : ∀ n, o + n ≤ l.length → leUp (l ++ t) o n = leUp l o n
  | 0, _ => rfl
  | n + 1, h => by
    show leUp (l ++ t) o n + bt (l ++ t) (o + n) * 256 ^ n = leUp l o n + bt l (o + n) * 256 ^ n
    rw [leUp_left l t o n (by omega), bt_left l t (o + n) (by omega)]
theorem uintV_in (l : List UInt8) (o n : Nat) (h : o + n ≤ l.length) : uintV l o n = leUp l o n := by
  unfold uintV
  rw [if_neg (by omega), Int.toNat_natCast]
/-- An image has at least 64 bytes, and its numbers are asx its header says. -/
theorem image_facts {ms : List GMod} (h : errM ms = 0) : 64 ≤ (imageL ms).length ∧ (imageL ms).length ≤ 16777216 ∧ (imageL ms).take 4 = [77, 75, 66, 73] ∧ leUp (imageL ms) 4 2 = 1 ∧ leUp (imageL ms) 8 4 = (imageL ms).length ∧ leUp (imageL ms) 12 4 = crcOf ((imageL ms).drop 16) := by
  have g := errM_good h
  have a1 := g.few
  have a3 := g.size
  have nm : ∀ m ∈ ms, m.name.length ≤ 24 := fun m hm => (g.fit m hm).name
  have hl := length_image nm
  have hs : 64 ≤ startM ms := by unfold startM upN; omega
  have hge := endM_ge ms (startM ms)
  obtain ⟨h1, h2, h3, h4, h5, h6⟩ := head_nums (ms := ms) (by omega) (by omega) (crc_lt _)
  have e1 := uintV_in (imageL ms) 4 2 (by omega)
  have e3 := uintV_in (imageL ms) 8 4 (by omega)
  have e4 := uintV_in (imageL ms) 12 4 (by omega)
  refine ⟨by omega, by omega, h5, ?_, ?_, ?_⟩
  · rw [← e1]; exact h1
  · rw [← e3, hl]; exact h3
  · rw [← e4, h6]; exact h4
/-- An image that is cut. -/
theorem parse_cut {ms xs : List GMod} {e : Int} (h : errM ms = 0) (k : Nat) (hk : k < (imageL ms).length) (hp : IsParse8 ((imageL ms).take k) xs e) : e = 52 ∧ xs = [] := by
  obtain ⟨f1, f2, f3, f4, f5, f6⟩ := image_facts h
  have hl : ((imageL ms).take k).length = k := by rw [List.length_take]; omega
  unfold IsParse8 at hp
  by_cases c0 : k < 16
  · rw [if_pos (by omega)] at hp
    exact ⟨hp.2, hp.1⟩
  have u1 := uintV_in ((imageL ms).take k) 4 2 (by omega)
  have u2 := uintV_in ((imageL ms).take k) 8 4 (by omega)
  rw [leUp_take _ _ _ _ (by omega), f4] at u1
  rw [leUp_take _ _ _ _ (by omega), f5] at u2
  have ht : ((imageL ms).take k).take 4 = [77, 75, 66, 73] := by rw [List.take_take, Nat.min_eq_left (by omega), f3]
  have v1 : uintV ((imageL ms).take k) 4 2 = 1 := u1
  have v2 : uintV ((imageL ms).take k) 8 4 = (imageL ms).length := u2
  rw [if_neg (by omega), if_neg (by rw [ht]; simp), if_neg (by rw [v1]; simp), if_pos (by rw [v2]; omega)] at hp
  exact ⟨hp.2, hp.1⟩
/-- An image with a byte more. -/
theorem parse_more {ms xs : List GMod} {e : Int} (h : errM ms = 0) (c : UInt8) (hp : IsParse8 (imageL ms ++ [c]) xs e) : e = 53 ∧ xs = [] := by
  obtain ⟨f1, f2, f3, f4, f5, f6⟩ := image_facts h
  have hl : (imageL ms ++ [c]).length = (imageL ms).length + 1 := by simp
  unfold IsParse8 at hp
  have u1 := uintV_in (imageL ms ++ [c]) 4 2 (by omega)
  have u2 := uintV_in (imageL ms ++ [c]) 8 4 (by omega)
  rw [leUp_left _ _ _ _ (by omega), f4] at u1
  rw [leUp_left _ _ _ _ (by omega), f5] at u2
  have ht : (imageL ms ++ [c]).take 4 = [77, 75, 66, 73] := by rw [List.take_append_of_le_length (by omega), f3]
  have v1 : uintV (imageL ms ++ [c]) 4 2 = 1 := u1
  have v2 : uintV (imageL ms ++ [c]) 8 4 = (imageL ms).length := u2
  rw [if_neg (by omega), if_neg (by rw [ht]; simp), if_neg (by rw [v1]; simp), if_neg (by rw [v2]; omega), if_pos (by rw [v2]; omega)] at hp
  exact ⟨hp.2, hp.1⟩
/-- Bytes of an image's length and header whose check does not fit. -/
theorem parse_sum {ms xs : List GMod} {e : Int} {b : List UInt8} (h : errM ms = 0) (hl : b.length = (imageL ms).length) (hh : b.take 16 = (imageL ms).take 16) (hc : crcOf (b.drop 16) ≠ crcOf ((imageL ms).drop 16)) (hp : IsParse8 b xs e) : e = 55 ∧ xs = [] := by
  obtain ⟨f1, f2, f3, f4, f5, f6⟩ := image_facts h
  have lu : ∀ (o n : Nat), o + n ≤ 16 → uintV b o n = leUp (imageL ms) o n := fun o n hn => by
    have h1 := uintV_in b o n (by omega)
    have h2 : leUp b o n = leUp (imageL ms) o n := by rw [← leUp_take b 16 o n hn, ← leUp_take (imageL ms) 16 o n hn, hh]
    exact h1.trans h2
  have v1 : uintV b 4 2 = 1 := (lu 4 2 (by omega)).trans f4
  have v2 : uintV b 8 4 = (imageL ms).length := (lu 8 4 (by omega)).trans f5
  have v3 : uintV b 12 4 = crcOf ((imageL ms).drop 16) := (lu 12 4 (by omega)).trans f6
  have ht : b.take 4 = [77, 75, 66, 73] := by
    have : b.take 4 = (b.take 16).take 4 := by rw [List.take_take, Nat.min_eq_left (by omega)]
    rw [this, hh, List.take_take, Nat.min_eq_left (by omega), f3]
  unfold IsParse8 at hp
  rw [if_neg (by omega), if_neg (by rw [ht]; simp), if_neg (by rw [v1]; simp), if_neg (by rw [v2]; omega), if_neg (by rw [v2]; omega), if_neg (by rw [v2]; omega), if_pos (by rw [v3]; exact fun h => hc h.symm)] at hp
  exact ⟨hp.2, hp.1⟩
end Go.Proofs.YtcenonnccodfoaaDoor


namespace Go.Proofs.YtcenonnccodfoaaDoor

/-- The numbers in the fields fs of e. -/
def rdF (e : List UInt8) (fs : List (Nat × Nat)) : List Nat := fs.map fun f => leUp e f.1 f.2
def viewM (b e : List UInt8) : Option GMod :=
  if leUp e 32 4 + leUp e 36 4 ≤ b.length then some ⟨Lib.trimRightB (e.take 24) 0, (leUp e 24 1 : Nat), (leUp e 25 1 : Nat), (leUp e 28 4 : Nat), (b.take (leUp e 32 4 + leUp e 36 4)).drop (leUp e 32 4)⟩ else none
/-- The first k of what f gives, if all are there. -/
def foldV (f : Nat → Option GMod) : Nat → Option (List GMod)
  | 0 => some []
  | k + 1 => (foldV f k).bind fun l => (f k).map fun m => l ++ [m]
theorem foldV_len (f : Nat → Option GMod) : ∀ (k : Nat) (l : List GMod), foldV f k = some l → l.length = k
  | 0, l, h => by simp only [foldV, Option.some.injEq] at h; subst h; rfl
  | k + 1, l, h => by
    simp only [foldV] at h
    cases hk : foldV f k with
    | none => rw [hk] at h; simp at h
    | some l0 =>
      rw [hk] at h
      cases hm : f k with
      | none => rw [hm] at h; simp at h
      | some m =>
        rw [hm] at h
        simp at h
        subst h
        rw [List.length_append, foldV_len f k l0 hk]; rfl
theorem foldV_none (f : Nat → Option GMod) {k : Nat} (h : foldV f k = none) : ∀ n, k ≤ n → foldV f n = none := by
  intro n hn
  induction n with
  | zero => have : k = 0 := by omega
            subst this; exact h
  | succ n ih =>
    by_cases e : k = n + 1
    · rw [← e]; exact h
    · simp only [foldV]; rw [ih (by omega)]; rfl
theorem foldV_some {f : Nat → Option GMod} {k : Nat} {l : List GMod} {m : GMod} (h : foldV f k = some l) (hm : f k = some m) : foldV f (k + 1) = some (l ++ [m]) := by
  simp only [foldV, h, hm, Option.bind_some, Option.map_some]
theorem foldV_fail {f : Nat → Option GMod} {k : Nat} (hm : f k = none) : foldV f (k + 1) = none := by
  simp only [foldV, hm, Option.map_none]
  cases foldV f k <;> rfl
def viewAt (b : List UInt8) (k : Nat) : Option GMod := viewM b (b.drop (16 + 48 * k))
def viewsL (b : List UInt8) : Option (List GMod) := if b.length < 16 + 48 * leUp b 6 2 then none else foldV (viewAt b) (leUp b 6 2)
theorem trim_zeros {a : List UInt8} (ha : ∀ c ∈ a, c ≠ 0) (k : Nat) : Lib.trimRightB (a ++ zerosL k) 0 = a := by
  rw [Lib.trimRightB_take _ 0 a.length (by rw [List.length_append]; omega)]
  · exact List.take_left
  · intro j b hj hb
    rw [List.getElem?_append_right hj] at hb
    have hm := List.mem_of_getElem? hb
    unfold zerosL at hm
    exact List.eq_of_mem_replicate hm
  · intro b h0 hb
    rw [List.getElem?_append_left (by omega)] at hb
    exact ha b (List.mem_of_getElem? hb)
/-- The numbers of an entry. -/
theorem entry_nums {m : GMod} {off : Nat} (h : FitM m) (ho : off < 4294967296) : (entryL m off).take 24 = m.name ++ zerosL (24 - m.name.length) ∧ leUp (entryL m off) 24 1 = m.kind.toNat ∧ leUp (entryL m off) 25 1 = m.width.toNat ∧ leUp (entryL m off) 28 4 = m.entry.toNat ∧ leUp (entryL m off) 32 4 = off ∧ leUp (entryL m off) 36 4 = m.data.length := by
  obtain ⟨hn, _, hk, hw, he, hd⟩ := h
  have l1 := length_zeros
  have l2 := length_leB
  have lq : ∀ (p t : List UInt8) (v k o : Nat), entryL m off = p ++ (leB v k ++ t) → p.length = o → v < 256 ^ k → leUp (entryL m off) o k = v := by
    intro p t v k o e hp hv
    rw [e, ← hp, leUp_leB p t v k k (Nat.le_refl _), Nat.mod_eq_of_lt hv]
  refine ⟨?_, ?_, ?_, ?_, ?_, ?_⟩
  · have e : entryL m off = (m.name ++ zerosL (24 - m.name.length)) ++ (leB m.kind.toNat 1 ++ leB m.width.toNat 1 ++ leB 0 2 ++ leB m.entry.toNat 4 ++ leB off 4 ++ leB m.data.length 4 ++ leB (crcOf m.data) 4 ++ leB 0 4) := by
      unfold entryL; simp only [List.append_assoc]
    rw [e, List.take_append_of_le_length (by rw [List.length_append, l1]; omega), List.take_of_length_le (by rw [List.length_append, l1]; omega)]
  · exact lq (m.name ++ zerosL (24 - m.name.length)) (leB m.width.toNat 1 ++ leB 0 2 ++ leB m.entry.toNat 4 ++ leB off 4 ++ leB m.data.length 4 ++ leB (crcOf m.data) 4 ++ leB 0 4) _ 1 24 (by unfold entryL; simp only [List.append_assoc]) (by rw [List.length_append, l1]; omega) (by simp; omega)
  · exact lq (m.name ++ zerosL (24 - m.name.length) ++ leB m.kind.toNat 1) (leB 0 2 ++ leB m.entry.toNat 4 ++ leB off 4 ++ leB m.data.length 4 ++ leB (crcOf m.data) 4 ++ leB 0 4) _ 1 25 (by unfold entryL; simp only [List.append_assoc]) (by simp only [List.length_append, l1, l2]; omega) (by simp; omega)
  · exact lq (m.name ++ zerosL (24 - m.name.length) ++ leB m.kind.toNat 1 ++ leB m.width.toNat 1 ++ leB 0 2) (leB off 4 ++ leB m.data.length 4 ++ leB (crcOf m.data) 4 ++ leB 0 4) _ 4 28 (by unfold entryL; simp only [List.append_assoc]) (by simp only [List.length_append, l1, l2]; omega) (by simp; omega)
  · exact lq (m.name ++ zerosL (24 - m.name.length) ++ leB m.kind.toNat 1 ++ leB m.width.toNat 1 ++ leB 0 2 ++ leB m.entry.toNat 4) (leB m.data.length 4 ++ leB (crcOf m.data) 4 ++ leB 0 4) _ 4 32 (by unfold entryL; simp only [List.append_assoc]) (by simp only [List.length_append, l1, l2]; omega) (by simp; omega)
  · exact lq (m.name ++ zerosL (24 - m.name.length) ++ leB m.kind.toNat 1 ++ leB m.width.toNat 1 ++ leB 0 2 ++ leB m.entry.toNat 4 ++ leB off 4) (leB (crcOf m.data) 4 ++ leB 0 4) _ 4 36 (by unfold entryL; simp only [List.append_assoc]) (by simp only [List.length_append, l1, l2]; omega) (by simp; omega)
/-- A module of an image, seen. -/
theorem view_image {ms : List GMod} (g : Good ms) {k : Nat} (hk : k < ms.length) : viewAt (imageL ms) k = some ms[k] := by
  have e : ms.take k ++ ms[k] :: ms.drop (k + 1) = ms := by rw [List.getElem_cons_drop, List.take_append_drop]
  have hn : ∀ x ∈ ms.take k ++ ms[k] :: ms.drop (k + 1), x.name.length ≤ 24 := by rw [e]; exact fun x hx => (g.fit x hx).name
  have h1 := entry_at hn
  have h2 := data_at hn
  have h3 := endM_mid (startM ms) (ms.take k) ms[k] (ms.drop (k + 1))
  rw [e] at h1 h2 h3
  have hl := length_image fun x hx => (g.fit x hx).name
  have hf := g.fit _ (List.getElem_mem hk)
  have hsz := g.size
  rw [show (ms.take k).length = k by rw [List.length_take]; omega] at h1
  unfold viewAt
  generalize (imageL ms).drop (16 + 48 * k) = en at h1 ⊢
  generalize endM (startM ms) (ms.take k) = off at h1 h2 h3
  obtain ⟨q0, q1, q2, q3, q4, q5⟩ := entry_nums hf (off := off) (by omega)
  have lt : ∀ o n, o + n ≤ 48 → leUp en o n = leUp (entryL ms[k] off) o n := fun o n h => by rw [← h1, leUp_take en 48 o n h]
  have hname : en.take 24 = ms[k].name ++ zerosL (24 - ms[k].name.length) := by
    rw [← q0, ← h1, List.take_take]; rfl
  unfold viewM
  rw [lt 24 1 (by omega), lt 25 1 (by omega), lt 28 4 (by omega), lt 32 4 (by omega), lt 36 4 (by omega), q1, q2, q3, q4, q5, hname, trim_zeros hf.zero, if_pos (by omega)]
  have hd : ((imageL ms).take (off + ms[k].data.length)).drop off = ms[k].data := by
    rw [List.drop_take, show off + ms[k].data.length - off = ms[k].data.length by omega]; exact h2
  rw [hd]
  have w1 := hf.kind
  have w2 := hf.width
  have w3 := hf.entry
  congr 1
  cases hm : ms[k] with
  | mk a b c d f =>
    rw [hm] at w1 w2 w3
    simp only at w1 w2 w3 ⊢
    rw [Int.toNat_of_nonneg w1.1, Int.toNat_of_nonneg w2.1, Int.toNat_of_nonneg w3.1]
theorem foldV_list {f : Nat → Option GMod} {ms : List GMod} (h : ∀ k (hk : k < ms.length), f k = some ms[k]) : ∀ k, k ≤ ms.length → foldV f k = some (ms.take k)
  | 0, _ => by simp [foldV]
  | k + 1, hk => by
    rw [foldV_some (foldV_list h k (by omega)) (h k (by omega)), ← List.take_succ_eq_append_getElem (by omega)]
/-- The modules of an image are what its table names. -/
theorem views_image {ms : List GMod} (h : errM ms = 0) : viewsL (imageL ms) = some ms := by
  have g := errM_good h
  have hfew := g.few
  have hsz := g.size
  have hn := head_nums (ms := ms) (by omega) (by omega) (crc_lt _)
  have hl := length_image fun x hx => (g.fit x hx).name
  have hes := end_start ms
  have h6 : leUp (imageL ms) 6 2 = ms.length := by
    have := hn.2.1
    rwa [show (6 : Int) = ((6 : Nat) : Int) from rfl, uintV_in _ 6 2 (by omega)] at this
  unfold viewsL
  rw [h6, if_neg (by omega), foldV_list (f := viewAt (imageL ms)) (fun k hk => view_image g hk) _ (Nat.le_refl _), List.take_length]
/-- What Parse is to answer once the header is right. -/
theorem views_parse {b : List UInt8} : (viewsL b = none → ∀ xs, errM xs = 0 → imageL xs ≠ b) ∧ (∀ vs, viewsL b = some vs → ¬ (errM vs = 0 ∧ imageL vs = b) → ∀ xs, errM xs = 0 → imageL xs ≠ b) := by
  refine ⟨fun h xs hx e => ?_, fun vs h hn xs hx e => ?_⟩
  · subst e
    rw [views_image hx] at h
    cases h
  · subst e
    rw [views_image hx] at h
    cases h
    exact hn ⟨hx, rfl⟩
end Go.Proofs.YtcenonnccodfoaaDoor


namespace Go.Proofs.YtcenonnccodfoaaDoor

open Go.RowKit

theorem leUp_drop (l : List UInt8) (o q : Nat) : ∀ n, leUp (l.drop o) q n = leUp l (o + q) n
  | 0 => rfl
  | n + 1 => by
    show leUp (l.drop o) q n + bt (l.drop o) (q + n) * 256 ^ n = leUp l (o + q) n + bt l (o + q + n) * 256 ^ n
    rw [leUp_drop l o q n, bt_drop, Nat.add_assoc]
theorem leUp_pad (p : List UInt8) : ∀ k, leUp (p ++ zerosL k) 0 (p.length + k) = leUp p 0 p.length
  | 0 => by simp [zerosL]
  | k + 1 => by
    have ih := leUp_pad p k
    have h0 : bt (p ++ zerosL (k + 1)) (p.length + k) = 0 := by
      unfold bt zerosL
      rw [List.getD_eq_getElem?_getD, List.getElem?_append_right (by omega)]
      simp
    have e : zerosL (k + 1) = zerosL k ++ zerosL 1 := zerosL_add k 1
    show leUp (p ++ zerosL (k + 1)) 0 (p.length + k) + bt (p ++ zerosL (k + 1)) (0 + (p.length + k)) * 256 ^ (p.length + k) = _
    rw [Nat.zero_add, h0, Nat.zero_mul, Nat.add_zero, e, ← List.append_assoc, leUp_left _ _ 0 _ (by simp [length_zeros]), ih]
/-- The four bytes that a field is read through. -/
def padL (l : List UInt8) (o s : Nat) : List UInt8 := patch (zerosL 4) 0 ((l.drop o).take s)
theorem padL_eq {l : List UInt8} {o s : Nat} (h : o + s ≤ l.length) (hs : s ≤ 4) : (padL l o s).length = 4 ∧ uintV (padL l o s) 0 4 = leUp l o s := by
  have hl : ((l.drop o).take s).length = s := by rw [List.length_take, List.length_drop]; omega
  have e : padL l o s = (l.drop o).take s ++ zerosL (4 - s) := by
    unfold padL
    have hz : zerosL 4 = [] ++ (zerosL s ++ zerosL (4 - s)) := by rw [List.nil_append, ← zerosL_add]; congr 1; omega
    rw [patch_at (o := 0) (l := (l.drop o).take s) hz rfl (by rw [length_zeros, hl]), List.nil_append]
  have h4 : (padL l o s).length = 4 := by rw [e, List.length_append, length_zeros, hl]; omega
  refine ⟨h4, ?_⟩
  have h1 := uintV_in (padL l o s) 0 4 (by omega)
  have h2 := leUp_pad ((l.drop o).take s) (4 - s)
  rw [hl, show s + (4 - s) = 4 by omega, ← e] at h2
  have h3 := leUp_take (l.drop o) s 0 s (by omega)
  have h5 := leUp_drop l o 0 s
  rw [show ((0 : Nat) : Int) = 0 from rfl] at h1
  rw [h1, h2, h3, h5, Nat.add_zero]
/-- What has been read when k fields are done. -/
def rdK (l : List UInt8) (fs : List (Nat × Nat)) (k : Nat) : List Nat := rdF l (fs.take k) ++ List.replicate (fs.length - k) 0
theorem rdK_zero (l : List UInt8) (fs : List (Nat × Nat)) : rdK l fs 0 = List.replicate fs.length 0 := by simp [rdK, rdF]
theorem rdK_all (l : List UInt8) (fs : List (Nat × Nat)) : rdK l fs fs.length = rdF l fs := by simp [rdK]
theorem rdK_succ (l : List UInt8) (fs : List (Nat × Nat)) (k : Nat) (h : k < fs.length) : rdK l fs (k + 1) = (rdK l fs k).set k (leUp l fs[k].1 fs[k].2) := by
  have hl : (rdF l (fs.take k)).length = k := by unfold rdF; rw [List.length_map, List.length_take]; omega
  unfold rdK
  rw [List.set_append_right _ _ (by omega), hl, Nat.sub_self, show fs.length - k = (fs.length - (k + 1)) + 1 by omega, List.replicate_succ, List.set_cons_zero, List.take_succ_eq_append_getElem h]
  unfold rdF
  rw [List.map_append, List.append_assoc]; rfl
/-- The run of copy into a block of whatever type tag. -/
theorem copyT {w : World} {g : Nat} {t : TypeId} {L : List UInt8} (h : RowT w g t (vals L)) {dLen : Nat} (dCap : Nat) {A : Option Addr} {B m : Nat} (c : Nat) {l : List UInt8} (hs : Byt w B A m l) (h0 : 0 < m) (hle : m ≤ dLen) (hfit : m ≤ L.length) (ty : TypeId) :
    (Builtin.copy_ #[23, 23] ty #[.slice (some ⟨g, 0, none⟩) dLen dCap, .slice A m c]).run Tryd.prog w = .ok (goInt (m : Int)) (w.setRow g (vals (patch L 0 l)).toArray) := by
  obtain ⟨b, off, rfl, hb, hc⟩ := hs.2 h0
  have hl : (vals l).length = m := by rw [length_vals, hs.1]
  have hmin : Nat.min m dLen = m := Nat.min_eq_left hle
  have hr := run_copy_row Tryd.prog w 23 23 ty _ g 0 dLen dCap ⟨b, off, none⟩ m c (vals L).toArray t (vals l) Tryd.underlying23 byte_size h (by rw [hl, hmin])
    (fun j v hj => by
      obtain ⟨hj1, rfl⟩ := vals_get _ j v hj
      have e : (⟨b, off, none⟩ : Addr).add j = ⟨b, off + j, none⟩ := by unfold Addr.add; split <;> simp_all
      rw [hs.1] at hj1
      rw [e, hc j hj1]; rfl)
    (by rw [hl]; simp [length_vals]; omega) (vals_one _)
  rw [hr, hl, vals_patch, hl]
theorem make_nums (n : Nat) (hn : n ≤ 1000) (W : World) : (Instr.makeSlice 75 (.int .i64 (n : Int)) (.int .i64 (n : Int))).run Tryd.prog W = .ok (.slice (some ⟨W.heap.size, 0, none⟩) n n) (W.alloc (.cells (Array.replicate n (Value.int .u32 0)) 43)) := by
  have hinf : (Tryd.prog.info? 43).map (fun i => (i.zero, i.size, i.bytes)) = some (some (.int .u32 0), 1, 4) := by kernel_rfl
  obtain ⟨i, hi, hz0, hz1, hz2⟩ := info_parts hinf
  have h := run_make W 75 43 i _ Tryd.underlying75 hi hz0 .i64 .i64 (n : Int) (n : Int) (by omega) (by omega) (by rw [hz2]; omega) (by omega)
  have e : madeCells (Value.int .u32 0).cells (n * 1) = Array.replicate n (Value.int .u32 0) := by
    show madeCells #[Value.int .u32 0] (n * 1) = _
    apply Array.ext
    · simp [madeCells]
    · intro i h1 h2
      simp [madeCells, Nat.mod_one]
  rw [h, Int.toNat_natCast, hz1, e]
theorem NumsAt.set_ {w : World} {r : Nat} {vs : List Nat} (h : NumsAt w r vs) (k v : Nat) : NumsAt (w.setCell ⟨r, k, none⟩ (.int .u32 (v : Int))) r (vs.set k v) := by
  have := RowT.set_ h k (.int .u32 (v : Int))
  rwa [← List.map_set (f := fun v : Nat => Value.int .u32 (v : Int))] at this
theorem arr4 : Tryd.prog.underlying 84 = some (.array (Tryd.prog.arrayLen 84) (Tryd.prog.elem 84)) := by kernel_rfl
theorem arr4_len : Tryd.prog.arrayLen 84 = 4 := by kernel_rfl
theorem arr4_size (W : World) : (sizeOf (Tryd.prog.elem 84)).run Tryd.prog W = .ok 1 W := by kernel_rfl
theorem arr4_all (g : Nat) (W : World) : (Instr.sliceAt 84 (.pointer (some ⟨g, 0, none⟩)) none none none).run Tryd.prog W = .ok (.slice (some ⟨g, 0, none⟩) 4 4) W := by
  rw [run_sliceAt_array_all _ _ _ arr4, arr4_size, arr4_len]
  simp [Result.andThen, slicedAt, Addr.add]
def ReadEnd (l : List UInt8) (fs : List (Nat × Nat)) (w : World) (e : Ending) (w' : World) : Prop := ∃ r, e = .returned (.slice (some ⟨r, 0, none⟩) fs.length fs.length) ∧ NumsAt w' r (rdF l fs) ∧ w.heap.size ≤ r ∧ Below w.heap.size w w'
set_option maxRecDepth 50000 in
set_option maxHeartbeats 1000000 in
theorem readFields_any (A : Option Addr) (n c B : Nat) (l : List UInt8) (p : Nat) (fs : List (Nat × Nat)) (w : World) (hb : Byt w B A n l) (hB : B ≤ w.heap.size) (hc : n ≤ c) (hn : n ≤ 4294967296) (hF : FieldsAt w p fs) (hk : fs.length ≤ 1000)
    (hfs : ∀ f ∈ fs, f.1 + f.2 ≤ n ∧ 1 ≤ f.2 ∧ f.2 ≤ 4) :
    Calls Tryd.prog 48 #[.slice A n c, .slice (some ⟨p, 0, none⟩) fs.length fs.length] w (ReadEnd l fs w) := by
  have HB := Lib.hid hb
  have HF := Lib.hid hF
  have HFS := Lib.hid hfs
  have hln := hb.1
  have hpw := RowT.lt hF
  have HMK := make_nums fs.length hk w
  have HNW : Hid (NumsAt (w.alloc (.cells (Array.replicate fs.length (Value.int .u32 0)) 43)) w.heap.size (rdK l fs 0)) := Lib.hid (by
    have e : ((List.replicate fs.length 0).map fun v : Nat => Value.int .u32 (v : Int)).toArray = Array.replicate fs.length (Value.int .u32 0) := by simp
    rw [rdK_zero]
    unfold NumsAt RowT
    rw [e]
    exact heap_alloc_new w _)
  have HBL := Lib.hid (bel_lit8 (Below.refl w.heap.size w) (.cells (Array.replicate fs.length (Value.int .u32 0)) 43))
  clear hb hF hfs
  go_enter Tryd.func48, Tryd.ntmps48
  go_upto_region 2 with fail
  generalize (w.alloc (.cells (Array.replicate fs.length (Value.int .u32 0)) 43)) = w1 at *
  clear HMK
  generalize hr : w.heap.size = r at *
  go_wp2_with fail
  go_loopw [14] (fun vi wr => ∃ k : Nat, vi = .int .i64 k ∧ k ≤ fs.length ∧ Hid (NumsAt wr r (rdK l fs k)) ∧ Hid (Below r w wr)) (fun vi _ => fs.length - (intOf vi).toNat)
  case atStart => exact ⟨0, rfl, Nat.zero_le _, HNW, HBL⟩
  case round =>
    obtain ⟨k, rfl, hkk, HT, HW⟩ := hrel
    rcases Nat.lt_or_ge k fs.length with hlt | hge
    · obtain ⟨z0, z1⟩ := FieldsAt.cell (RowT.below HF.out HW.out hpw) hlt
      obtain ⟨hf1, hf2, hf3⟩ := HFS.out _ (List.getElem_mem hlt)
      have HSU := Lib.hid (rdK_succ l fs k hlt)
      have hrw := RowT.lt HT.out
      have hlk : (rdK l fs k).length = fs.length := by simp only [rdK, rdF, List.length_append, List.length_map, List.length_take, List.length_replicate]; omega
      have HBR := Lib.hid (HB.out.below (HW.out.mono hB))
      generalize rdK l fs k = Lk at *
      generalize hL1 : rdK l fs (k + 1) = Lk1 at *
      have HL1 := Lib.hid hL1
      generalize fs[k] = fk at *
      obtain ⟨fo, fz⟩ := fk
      simp only at z0 z1 hf1 hf2 hf3 HSU
      clear hL1
      go_upto_region 6 with fail
      have hb0 : Below wr.heap.size wr ((wr.alloc (.cells #[.int .i64 (fo : Int), .int .i64 (fz : Int)] 82)).alloc (.cells #[.int .u8 0, .int .u8 0, .int .u8 0, .int .u8 0] 84)) := bel_lit8 (bel_lit8 (Below.refl _ wr) _) _
      have hnew : ((wr.alloc (.cells #[.int .i64 (fo : Int), .int .i64 (fz : Int)] 82)).alloc (.cells #[.int .u8 0, .int .u8 0, .int .u8 0, .int .u8 0] 84)).heap[wr.heap.size]? = some (.cells #[.int .i64 (fo : Int), .int .i64 (fz : Int)] 82 (0, 0)) := (Below.heap_alloc _ _ _ (by simp)).trans (heap_alloc_new wr _)
      have hpad : RowT ((wr.alloc (.cells #[.int .i64 (fo : Int), .int .i64 (fz : Int)] 82)).alloc (.cells #[.int .u8 0, .int .u8 0, .int .u8 0, .int .u8 0] 84)) (wr.heap.size + 1) 84 (vals (zerosL 4)) := by
        have h := heap_alloc_new (wr.alloc (.cells #[.int .i64 (fo : Int), .int .i64 (fz : Int)] 82)) (.cells #[.int .u8 0, .int .u8 0, .int .u8 0, .int .u8 0] 84)
        rw [show (wr.alloc (.cells #[.int .i64 (fo : Int), .int .i64 (fz : Int)] 82)).heap.size = wr.heap.size + 1 by simp] at h
        exact h
      generalize ((wr.alloc (.cells #[.int .i64 (fo : Int), .int .i64 (fz : Int)] 82)).alloc (.cells #[.int .u8 0, .int .u8 0, .int .u8 0, .int .u8 0] 84)) = W1 at *
      generalize hN : wr.heap.size = N at *
      have y0 : W1.cell? ⟨N, 0, none⟩ = some (.int .i64 (fo : Int)) := by rw [Lib.cell_of_heap hnew]; rfl
      have y1 : W1.cell? ⟨N, 1, none⟩ = some (.int .i64 (fz : Int)) := by rw [Lib.cell_of_heap hnew]; rfl
      have HB0 := Lib.hid hb0
      have HPD := Lib.hid hpad
      have HRW1 := Lib.hid (HBR.out.below (hb0.mono (by omega)))
      have HT1 : Hid (NumsAt W1 r Lk) := Lib.hid (RowT.below HT.out hb0 hrw)
      have harr := arr4_all (N + 1)
      have hcut : ∀ W : World, (Instr.slice 23 (.slice A n c) (some (.int .i64 (fo : Int))) (some (.int .i64 ((fo : Int) + (fz : Int)))) none).run Tryd.prog W = .ok (.slice (cutA A c fo) fz (c - fo)) W := fun W => by
        have h := cut_both A n c fo (fo + fz) (by omega) (by omega) W
        rw [run_sliceAt_slice _ _ _ _ _ _ byte_elem, Nat.add_sub_cancel_left] at h
        rw [← h]; rfl
      have hcut2 : ∀ W : World, (Instr.sliceAt 23 (.slice A n c) (some (.int .i64 (fo : Int))) (some (.int .i64 ((fo : Int) + (fz : Int)))) none).run Tryd.prog W = .ok (.slice (cutA A c fo) fz (c - fo)) W := fun W => by
        have h := cut_both A n c fo (fo + fz) (by omega) (by omega) W
        rw [Nat.add_sub_cancel_left] at h
        rw [← h]; rfl
      have hwr : IntKind.i64.wrap ((fo : Int) + (fz : Int)) = (fo : Int) + (fz : Int) := by rw [IntKind.wrap_i64]; omega
      have HCP : Hid (∀ W ty, W1.grownBy W (some (N + 1)) → RowT W (N + 1) 84 (vals (zerosL 4)) → ∃ v' w', (Builtin.copy_ #[23, 23] ty #[.slice (some ⟨N + 1, 0, none⟩) 4 4, .slice (cutA A c fo) fz (c - fo)]).run Tryd.prog W = .ok v' w' ∧ (RowT w' (N + 1) 84 (vals (padL l fo fz)) ∧ W.grownBy w' (some (N + 1)))) := Lib.hid fun W ty hW hp => by
        have hbw : Byt W B A n l := HRW1.out.gbB hW (by omega) (RowT.lt HPD.out)
        have hcw := hbw.cut (cap := c) (j := fo) (k := fo + fz) (by omega) (by omega) hc
        rw [Nat.add_sub_cancel_left, show (l.take (fo + fz)).drop fo = (l.drop fo).take fz by rw [List.drop_take, Nat.add_sub_cancel_left]] at hcw
        have h := copyT hp (dLen := 4) 4 (c - fo) hcw (by omega) (by omega) (by rw [length_zeros]; omega) ty
        exact ⟨_, _, h, setRow_heap W (N + 1) _ _ _ _ hp, ⟨rfl, rfl, rfl, by simp, fun k _ hk => setRow_other W (N + 1) k _ (fun e => hk (by rw [e]))⟩⟩
      have hS4 : W1.grownBy W1.drew (some (N + 1)) ∧ W1.drew.cell? ⟨N, 0, none⟩ = some (.int .i64 (fo : Int)) ∧ W1.drew.cell? ⟨N, 1, none⟩ = some (.int .i64 (fz : Int)) := ⟨gb_bel (Below.refl _ _).drew, y0, y1⟩
      have hP4 : RowT W1.drew (N + 1) 84 (vals (zerosL 4)) := hpad
      have HKS : Hid (∀ W W' : World, (W1.grownBy W (some (N + 1)) ∧ W.cell? ⟨N, 0, none⟩ = some (.int .i64 (fo : Int)) ∧ W.cell? ⟨N, 1, none⟩ = some (.int .i64 (fz : Int))) → W.grownBy W' (some (N + 1)) →
          (W1.grownBy W' (some (N + 1)) ∧ W'.cell? ⟨N, 0, none⟩ = some (.int .i64 (fo : Int)) ∧ W'.cell? ⟨N, 1, none⟩ = some (.int .i64 (fz : Int)))) := Lib.hid fun W W' h hb => by
        obtain ⟨h0, h1, h2⟩ := h
        have key : ∀ {j : Nat} {v : Value}, W.cell? ⟨N, j, none⟩ = some v → W'.cell? ⟨N, j, none⟩ = some v := fun {j v} h => by
          have hb2 := hb.block N (World.block_lt_of_cell? W _ h) (fun e => by injection e with e; omega)
          rw [← h]; simp only [World.cell?, hb2]
        exact ⟨gb_trans h0 hb, key h1, key h2⟩
      clear hb0 hnew hpad y0 y1 z0 z1
      go_region_held3 (fun W => W1.grownBy W (some (N + 1)) ∧ W.cell? ⟨N, 0, none⟩ = some (.int .i64 (fo : Int)) ∧ W.cell? ⟨N, 1, none⟩ = some (.int .i64 (fz : Int)))
        (assumption)
        (first | (refine step_copy_ex (HCP.out _ _ (And.left (by assumption)) (by assumption)) rfl rfl rfl rfl ?_; rintro v5 w5 ⟨hp5, hg5⟩; have hS5 := HKS.out _ _ (by assumption) hg5))
      clear hcut hcut2 hS4 hP4
      have hbyt : Byt w5 (N + 2) (some ⟨N + 1, 0, none⟩) 4 (padL l fo fz) := RowT.byt (z := []) (by rw [List.append_nil]; exact hp5) (by omega) (padL_eq (by omega) hf3).1
      have hbw : Below r w w5 := ((HW.out.trans (HB0.out.mono (by omega)))).grown (hS5.1) (by have := HB0.out.size; have := hN; omega) (fun g e => by injection e with e; omega)
      have HU := Lib.hid (uint32_any (some ⟨N + 1, 0, none⟩) 4 4 (N + 2) 0 (padL l fo fz) w5 hbyt (by omega))
      have hnm5 : NumsAt w5 r Lk := RowT.gb HT1.out hS5.1 (by omega)
      have HN5 := Lib.hid hnm5
      have hll : Lk.length = fs.length := by rw [hlk]
      have hc5 := NumsAt.cell hnm5 (k := k) (by omega)
      have hfz5 : w5.frozen? ⟨r, k, none⟩ = false := RowT.frozen hnm5 k
      have HV : Hid (uintV (padL l fo fz) 0 4 = leUp l fo fz) := Lib.hid (padL_eq (by omega) hf3).2
      have HE6 : Hid (∀ v : Nat, v = uintV (padL l fo fz) 0 4 → NumsAt (w5.setCell ⟨r, k, none⟩ (.int .u32 (v : Int))) r (rdK l fs (k + 1)) ∧ Below r w (w5.setCell ⟨r, k, none⟩ (.int .u32 (v : Int)))) := Lib.hid fun v hv => by
        rw [HL1.out, HSU.out, ← HV.out, ← hv]
        exact ⟨NumsAt.set_ HN5.out k v, hbw.setCell (p := ⟨r, k, none⟩) (by show r ≤ r; omega) _⟩
      have HUV := Lib.hid (rfl : uintV (padL l fo fz) 0 4 = uintV (padL l fo fz) 0 4)
      clear hbyt hbw hnm5 hg5 hS5 hp5
      generalize uintV (padL l fo fz) 0 4 = uv at *
      generalize uintE (padL l fo fz) 0 4 = ue at *
      go_wp2_with fail
      go_fit HU.out
      rintro e w6 ⟨rfl, rfl⟩
      go_wp2
      go_roundw
      case rel => exact ⟨k + 1, by go_num, by omega, Lib.hid (HE6.out _ rfl).1, Lib.hid (HE6.out _ rfl).2⟩
      case measure => simp [intOf]; omega
    · have he : k = fs.length := by omega
      subst he
      have HEND : Hid (ReadEnd l fs w (.returned (.slice (some ⟨r, 0, none⟩) fs.length fs.length)) wr) := Lib.hid ⟨r, rfl, by rw [← rdK_all]; exact HT.out, by omega, by rw [hr]; exact HW.out⟩
      go_wp2
      go_ret
      exact HEND.out
end Go.Proofs.YtcenonnccodfoaaDoor
