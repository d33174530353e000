/-
  Boot images: how long they are, where the table's entries and the modules' data stand. Plain mathematics.
  Conditions: names have at most 24 bytes.
  Boot images: their numbers read back; two valid lists with one image are equal. Plain mathematics.
  Conditions: as each theorem says.
  The kit's numbers in a block of the call's own; modules whose data lie in rows of the call's own, kept where other blocks change.
  Conditions: none beyond what each theorem says.
-/
import Derived.Test.YtcenonnccodfoaaDoorMa6
import Derived.Test.YtcenonnccodfoaaDoorMa7
import Derived.Deep.RegionHeld3
namespace Go.Proofs.YtcenonnccodfoaaDoor

open Go.RowKit

theorem upN_ge (n : Nat) : n ≤ upN n := by unfold upN; omega
theorem upN_lt (n : Nat) : upN n < n + 64 := by unfold upN; omega
theorem upN_mod (n : Nat) : upN n % 64 = 0 := by unfold upN; omega
theorem upN_of_mod {n : Nat} (h : n % 64 = 0) : upN n = n := by unfold upN; omega
theorem endM_nil (s : Nat) : endM s [] = s := rfl
theorem endM_cons (s : Nat) (m : GMod) (r : List GMod) : endM s (m :: r) = endM (upN (s + m.data.length)) r := rfl
theorem endM_app (s : Nat) (a b : List GMod) : endM s (a ++ b) = endM (endM s a) b := by unfold endM; rw [List.foldl_append]
theorem endM_ge : ∀ (ms : List GMod) (s : Nat), s ≤ endM s ms
  | [], _ => Nat.le_refl _
  | m :: r, s => by
    rw [endM_cons]
    have h1 := upN_ge (s + m.data.length)
    have h2 := endM_ge r (upN (s + m.data.length))
    omega
theorem endM_mod : ∀ (ms : List GMod) (s : Nat), s % 64 = 0 → endM s ms % 64 = 0
  | [], _, h => h
  | m :: r, s, _ => by rw [endM_cons]; exact endM_mod r _ (upN_mod _)
/-- Behind the data of a module in the middle. -/
theorem endM_mid (s : Nat) (a : List GMod) (m : GMod) (b : List GMod) : endM s a + m.data.length ≤ endM s (a ++ m :: b) := by
  rw [endM_app, endM_cons]
  have h1 := upN_ge (endM s a + m.data.length)
  have h2 := endM_ge b (upN (endM s a + m.data.length))
  omega
theorem length_entry {m : GMod} (h : m.name.length ≤ 24) (off : Nat) : (entryL m off).length = 48 := by
  unfold entryL
  simp only [List.length_append, length_leB, length_zeros]
  omega
theorem tableL_app : ∀ (a b : List GMod) (s : Nat), tableL s (a ++ b) = tableL s a ++ tableL (endM s a) b
  | [], b, s => rfl
  | m :: r, b, s => by
    show entryL m s ++ tableL _ (r ++ b) = _
    rw [tableL_app r b, endM_cons]
    show _ = (entryL m s ++ _) ++ _
    rw [List.append_assoc]
theorem length_table : ∀ (ms : List GMod) (s : Nat), (∀ m ∈ ms, m.name.length ≤ 24) → (tableL s ms).length = 48 * ms.length
  | [], _, _ => rfl
  | m :: r, s, h => by
    show (entryL m s ++ _).length = _
    rw [List.length_append, length_entry (h m List.mem_cons_self), length_table r _ fun x hx => h x (List.mem_cons_of_mem _ hx), List.length_cons]
    omega
theorem dataL_app : ∀ (a b : List GMod) (s : Nat) (l : List UInt8), dataL s (a ++ b) l = dataL (endM s a) b (dataL s a l)
  | [], b, s, l => rfl
  | m :: r, b, s, l => by
    show dataL _ (r ++ b) _ = _
    rw [dataL_app r b, endM_cons]
    rfl
theorem dataL_prefix : ∀ (ms : List GMod) (s : Nat) (l : List UInt8), ∃ t, dataL s ms l = l ++ t
  | [], s, l => ⟨[], by simp [dataL]⟩
  | m :: r, s, l => by
    obtain ⟨t, h⟩ := dataL_prefix r (upN (s + m.data.length)) (l ++ zerosL (s - 16 - l.length) ++ m.data)
    refine ⟨zerosL (s - 16 - l.length) ++ m.data ++ t, ?_⟩
    show dataL _ r _ = _
    rw [h]
    simp [List.append_assoc]
theorem dataL_len : ∀ (ms : List GMod) (s : Nat) (l : List UInt8), l.length + 16 ≤ s → (dataL s ms l).length + 16 ≤ endM s ms
  | [], s, l, h => h
  | m :: r, s, l, h => by
    show (dataL _ r _).length + 16 ≤ endM _ r
    refine dataL_len r _ _ ?_
    rw [List.length_append, List.length_append, length_zeros]
    have := upN_ge (s + m.data.length)
    omega
theorem start_ge (ms : List GMod) : 16 + 48 * ms.length ≤ startM ms := upN_ge _
theorem table_fit {ms : List GMod} (h : ∀ m ∈ ms, m.name.length ≤ 24) : (tableL (startM ms) ms).length + 16 ≤ startM ms := by
  rw [length_table ms _ h]
  have := start_ge ms
  omega
theorem length_body {ms : List GMod} (h : ∀ m ∈ ms, m.name.length ≤ 24) : (bodyL ms).length + 16 = endM (startM ms) ms := by
  have h1 := dataL_len ms (startM ms) (tableL (startM ms) ms) (table_fit h)
  unfold bodyL
  simp only
  rw [List.length_append, length_zeros]
  omega
theorem length_image {ms : List GMod} (h : ∀ m ∈ ms, m.name.length ≤ 24) : (imageL ms).length = endM (startM ms) ms := by
  have h1 := length_body h
  unfold imageL
  simp only [List.length_append, length_leB, List.length_cons, List.length_nil]
  omega
theorem image_mod {ms : List GMod} (h : ∀ m ∈ ms, m.name.length ≤ 24) : (imageL ms).length % 64 = 0 := by
  rw [length_image h]
  exact endM_mod ms _ (upN_mod _)
/-- The header, and the rest. -/
theorem image_split (ms : List GMod) : ∃ hd : List UInt8, imageL ms = hd ++ bodyL ms ∧ hd.length = 16 ∧ hd = [77, 75, 66, 73] ++ leB 1 2 ++ leB ms.length 2 ++ leB (endM (startM ms) ms) 4 ++ leB (crcOf (bodyL ms)) 4 :=
  ⟨_, rfl, by simp only [List.length_append, length_leB, List.length_cons, List.length_nil], rfl⟩
theorem image_drop (ms : List GMod) (k : Nat) : (imageL ms).drop (16 + k) = (bodyL ms).drop k := by
  obtain ⟨hd, e, hl, _⟩ := image_split ms
  rw [e, ← hl, List.drop_append]
  simp
theorem body_split (ms : List GMod) : ∃ z, bodyL ms = dataL (startM ms) ms (tableL (startM ms) ms) ++ z := ⟨_, rfl⟩
/-- The entry of a module stands at its place in the table. -/
theorem entry_at {a b : List GMod} {m : GMod} (h : ∀ x ∈ a ++ m :: b, x.name.length ≤ 24) : ((imageL (a ++ m :: b)).drop (16 + 48 * a.length)).take 48 = entryL m (endM (startM (a ++ m :: b)) a) := by
  rw [image_drop]
  obtain ⟨t, ht⟩ := dataL_prefix (a ++ m :: b) (startM (a ++ m :: b)) (tableL (startM (a ++ m :: b)) (a ++ m :: b))
  have ha : (tableL (startM (a ++ m :: b)) a).length = 48 * a.length := length_table a _ fun x hx => h x (List.mem_append.2 (.inl hx))
  have hm := length_entry (h m (List.mem_append.2 (.inr List.mem_cons_self))) (endM (startM (a ++ m :: b)) a)
  have hb : ∃ u, bodyL (a ++ m :: b) = tableL (startM (a ++ m :: b)) a ++ (entryL m (endM (startM (a ++ m :: b)) a) ++ u) := by
    obtain ⟨z, hz⟩ := body_split (a ++ m :: b)
    rw [hz, ht, tableL_app]
    refine ⟨tableL (upN (endM (startM (a ++ m :: b)) a + m.data.length)) b ++ t ++ z, ?_⟩
    show (tableL _ a ++ (entryL m _ ++ tableL _ b) ++ t) ++ z = _
    simp only [List.append_assoc]
  obtain ⟨u, hu⟩ := hb
  rw [hu, ← ha, List.drop_left, ← hm, List.take_left]
/-- The data of a module stands at its offset. -/
theorem data_at {a b : List GMod} {m : GMod} (h : ∀ x ∈ a ++ m :: b, x.name.length ≤ 24) : ((imageL (a ++ m :: b)).drop (endM (startM (a ++ m :: b)) a)).take m.data.length = m.data := by
  have hs := endM_ge a (startM (a ++ m :: b))
  have hst := start_ge (a ++ m :: b)
  have hf := dataL_len a (startM (a ++ m :: b)) (tableL (startM (a ++ m :: b)) (a ++ m :: b)) (table_fit h)
  have e : endM (startM (a ++ m :: b)) a = 16 + (endM (startM (a ++ m :: b)) a - 16) := by omega
  rw [e, image_drop]
  have hb : ∃ p u, bodyL (a ++ m :: b) = p ++ (m.data ++ u) ∧ p.length = endM (startM (a ++ m :: b)) a - 16 := by
    obtain ⟨z, hz⟩ := body_split (a ++ m :: b)
    rw [hz, dataL_app]
    generalize dataL (startM (a ++ m :: b)) a (tableL (startM (a ++ m :: b)) (a ++ m :: b)) = d at *
    obtain ⟨t, ht⟩ := dataL_prefix b (upN (endM (startM (a ++ m :: b)) a + m.data.length)) (d ++ zerosL (endM (startM (a ++ m :: b)) a - 16 - d.length) ++ m.data)
    refine ⟨d ++ zerosL (endM (startM (a ++ m :: b)) a - 16 - d.length), t ++ z, ?_, ?_⟩
    · show (dataL (upN (_ + m.data.length)) b _) ++ z = _
      rw [ht]
      simp only [List.append_assoc]
    · rw [List.length_append, length_zeros]
      omega
  obtain ⟨p, u, hu, hp⟩ := hb
  rw [hu, ← hp, List.drop_left, List.take_left]
end Go.Proofs.YtcenonnccodfoaaDoor


namespace Go.Proofs.YtcenonnccodfoaaDoor

open Go.RowKit

theorem getD_leB : ∀ (k v j : Nat), j < k → ((leB v k).getD j 0).toNat = v / 256 ^ j % 256
  | 0, _, _, h => absurd h (by omega)
  | k + 1, v, j, h => by
    have hl := length_leB v k
    show (((leB v k ++ [UInt8.ofNat (v / 256 ^ k % 256)]).getD j 0)).toNat = _
    rw [List.getD_eq_getElem?_getD]
    rcases Nat.lt_or_ge j k with h1 | h1
    · rw [List.getElem?_append_left (by omega), ← List.getD_eq_getElem?_getD]
      exact getD_leB k v j h1
    · have e : j = k := by omega
      subst e
      rw [List.getElem?_append_right (by omega), hl, Nat.sub_self]
      simp [UInt8.toNat_ofNat']
theorem bt_mid (p l t : List UInt8) (j : Nat) (h : j < l.length) : bt (p ++ (l ++ t)) (p.length + j) = (l.getD j 0).toNat := by
  unfold bt
  rw [List.getD_eq_getElem?_getD, List.getD_eq_getElem?_getD, List.getElem?_append_right (by omega), show p.length + j - p.length = j by omega, List.getElem?_append_left h]
theorem leUp_leB (p t : List UInt8) (v k : Nat) : ∀ j, j ≤ k → leUp (p ++ (leB v k ++ t)) p.length j = v % 256 ^ j
  | 0, _ => by rw [Nat.pow_zero, Nat.mod_one]; rfl
  | j + 1, h => by
    show leUp _ _ j + bt _ (p.length + j) * 256 ^ j = _
    rw [leUp_leB p t v k j (by omega), bt_mid p (leB v k) t j (by rw [length_leB]; omega), getD_leB k v j (by omega), Nat.mod_pow_succ, Nat.mul_comm]
/-- A number that was written is read asx it was. -/
theorem uint_leB {l p t : List UInt8} {v k : Nat} (e : l = p ++ (leB v k ++ t)) (hv : v < 256 ^ k) : uintV l p.length k = v := by
  have hl := length_leB v k
  unfold uintV
  rw [if_neg (by rw [e]; simp only [List.length_append, hl]; omega), Int.toNat_natCast, e, leUp_leB p t v k k (Nat.le_refl _), Nat.mod_eq_of_lt hv]
theorem leB_inj {v u k : Nat} (h : leB v k = leB u k) (hv : v < 256 ^ k) (hu : u < 256 ^ k) : v = u := by
  have h1 := uint_leB (l := leB v k) (p := []) (t := []) (v := v) (k := k) (by simp) hv
  have h2 := uint_leB (l := leB u k) (p := []) (t := []) (v := u) (k := k) (by simp) hu
  rw [h] at h1
  exact h1.symm.trans h2
/-- The numbers of a header. -/
theorem head_nums {ms : List GMod} (hn : ms.length < 65536) (hs : endM (startM ms) ms < 4294967296) (hc : crcOf (bodyL ms) < 4294967296) :
    uintV (imageL ms) 4 2 = 1 ∧ uintV (imageL ms) 6 2 = ms.length ∧ uintV (imageL ms) 8 4 = endM (startM ms) ms ∧ uintV (imageL ms) 12 4 = crcOf (bodyL ms) ∧ (imageL ms).take 4 = [77, 75, 66, 73] ∧ (imageL ms).drop 16 = bodyL ms := by
  have e0 : imageL ms = [77, 75, 66, 73] ++ (leB 1 2 ++ (leB ms.length 2 ++ (leB (endM (startM ms) ms) 4 ++ (leB (crcOf (bodyL ms)) 4 ++ bodyL ms)))) := by
    unfold imageL
    simp only [List.append_assoc]
  have l2 : ∀ v, (leB v 2).length = 2 := fun v => length_leB v 2
  have l4 : ∀ v, (leB v 4).length = 4 := fun v => length_leB v 4
  refine ⟨?_, ?_, ?_, ?_, ?_, ?_⟩
  · exact uint_leB (p := [77, 75, 66, 73]) e0 (by decide)
  · have := uint_leB (l := imageL ms) (p := [77, 75, 66, 73] ++ leB 1 2) (t := leB (endM (startM ms) ms) 4 ++ (leB (crcOf (bodyL ms)) 4 ++ bodyL ms)) (v := ms.length) (k := 2) (by rw [e0]; simp only [List.append_assoc]) (by omega)
    simpa [l2] using this
  · have := uint_leB (l := imageL ms) (p := [77, 75, 66, 73] ++ leB 1 2 ++ leB ms.length 2) (t := leB (crcOf (bodyL ms)) 4 ++ bodyL ms) (v := endM (startM ms) ms) (k := 4) (by rw [e0]; simp only [List.append_assoc]) (by omega)
    simpa [l2] using this
  · have := uint_leB (l := imageL ms) (p := [77, 75, 66, 73] ++ leB 1 2 ++ leB ms.length 2 ++ leB (endM (startM ms) ms) 4) (t := bodyL ms) (v := crcOf (bodyL ms)) (k := 4) (by rw [e0]; simp only [List.append_assoc]) (by omega)
    simpa [l2, l4] using this
  · rw [e0]; rfl
  · have := image_drop ms 0
    simpa using this
/-- A name without zero bytes, and zeros behind it. -/
theorem name_split {a b : List UInt8} (ha : ∀ c ∈ a, c ≠ 0) (hb : ∀ c ∈ b, c ≠ 0) : ∀ (k j : Nat), a ++ zerosL k = b ++ zerosL j → a = b := by
  induction a generalizing b with
  | nil =>
    intro k j h
    cases b with
    | nil => rfl
    | cons d s =>
      cases k with
      | zero => simp [zerosL] at h
      | succ k =>
        simp only [zerosL, List.nil_append, List.replicate_succ, List.cons_append, List.cons.injEq] at h
        exact absurd h.1.symm (hb d List.mem_cons_self)
  | cons c r ih =>
    intro k j h
    cases b with
    | nil =>
      cases j with
      | zero => simp [zerosL] at h
      | succ j =>
        simp only [zerosL, List.nil_append, List.replicate_succ, List.cons_append, List.cons.injEq] at h
        exact absurd h.1 (ha c List.mem_cons_self)
    | cons d s =>
      simp only [List.cons_append, List.cons.injEq] at h
      rw [h.1, ih (fun x hx => ha x (List.mem_cons_of_mem _ hx)) (fun x hx => hb x (List.mem_cons_of_mem _ hx)) k j h.2]
/-- A module whose fields an entry can hold. -/
structure FitM (m : GMod) : Prop where
  name : m.name.length ≤ 24
  zero : ∀ c ∈ m.name, c ≠ 0
  kind : 0 ≤ m.kind ∧ m.kind < 256
  width : 0 ≤ m.width ∧ m.width < 256
  entry : 0 ≤ m.entry ∧ m.entry < 4294967296
  data : m.data.length < 4294967296
theorem append_inj {a b c d : List UInt8} (h : a ++ b = c ++ d) (hl : a.length = c.length) : a = c ∧ b = d := List.append_inj h hl
theorem entry_inj {m k : GMod} {o p : Nat} (hm : FitM m) (hk : FitM k) (h : entryL m o = entryL k p) (ho : o < 4294967296) (hp : p < 4294967296) : m.name = k.name ∧ m.kind = k.kind ∧ m.width = k.width ∧ m.entry = k.entry ∧ o = p ∧ m.data.length = k.data.length := by
  have hn1 := hm.name
  have hn2 := hk.name
  have a0 := hm.kind
  have a1 := hk.kind
  have a2 := hm.width
  have a3 := hk.width
  have a4 := hm.entry
  have a5 := hk.entry
  unfold entryL at h
  have split : ∀ (x : GMod) (q : Nat), x.name ++ zerosL (24 - x.name.length) ++ leB x.kind.toNat 1 ++ leB x.width.toNat 1 ++ leB 0 2 ++ leB x.entry.toNat 4 ++ leB q 4 ++ leB x.data.length 4 ++ leB (crcOf x.data) 4 ++ leB 0 4 = (x.name ++ zerosL (24 - x.name.length)) ++ (leB x.kind.toNat 1 ++ (leB x.width.toNat 1 ++ (leB 0 2 ++ (leB x.entry.toNat 4 ++ (leB q 4 ++ (leB x.data.length 4 ++ (leB (crcOf x.data) 4 ++ leB 0 4))))))) := fun x q => by simp only [List.append_assoc]
  rw [split, split] at h
  obtain ⟨e1, h⟩ := append_inj h (by simp only [List.length_append, length_zeros]; omega)
  obtain ⟨e2, h⟩ := append_inj h (by rw [length_leB, length_leB])
  obtain ⟨e3, h⟩ := append_inj h (by rw [length_leB, length_leB])
  obtain ⟨_, h⟩ := append_inj h (by rw [length_leB])
  obtain ⟨e4, h⟩ := append_inj h (by rw [length_leB, length_leB])
  obtain ⟨e5, h⟩ := append_inj h (by rw [length_leB, length_leB])
  obtain ⟨e6, h⟩ := append_inj h (by rw [length_leB, length_leB])
  have f2 := leB_inj e2 (by omega) (by omega)
  have f3 := leB_inj e3 (by omega) (by omega)
  have f4 := leB_inj e4 (by omega) (by omega)
  have f5 := leB_inj e5 (by omega) (by omega)
  have f6 := leB_inj e6 (by have := hm.data; omega) (by have := hk.data; omega)
  exact ⟨name_split hm.zero hk.zero _ _ e1, by omega, by omega, by omega, f5, f6⟩
/-- Two lists with one image are equal. -/
theorem image_inj {xs ys : List GMod} (hx : ∀ m ∈ xs, FitM m) (hy : ∀ m ∈ ys, FitM m) (lx : xs.length < 65536) (ly : ys.length < 65536) (sx : endM (startM xs) xs < 4294967296) (sy : endM (startM ys) ys < 4294967296) (h : imageL xs = imageL ys) : xs = ys := by
  have nx : ∀ m ∈ xs, m.name.length ≤ 24 := fun m hm => (hx m hm).name
  have ny : ∀ m ∈ ys, m.name.length ≤ 24 := fun m hm => (hy m hm).name
  have hc : ∀ l, crcOf l < 4294967296 := fun l => by unfold crcOf; omega
  have h1 := (head_nums lx sx (hc _)).2.1
  have h2 := (head_nums ly sy (hc _)).2.1
  have hl : xs.length = ys.length := by rw [← h1, ← h2, h]
  have hst : startM xs = startM ys := by unfold startM; rw [hl]
  have key : ∀ k, k ≤ xs.length → xs.take k = ys.take k := by
    intro k
    induction k with
    | zero => intro _; simp
    | succ k ih =>
      intro hk
      have hp := ih (by omega)
      have k1 : k < xs.length := by omega
      have k2 : k < ys.length := by omega
      have ex : xs = xs.take k ++ xs[k] :: xs.drop (k + 1) := by rw [List.getElem_cons_drop, List.take_append_drop]
      have ey : ys = ys.take k ++ ys[k] :: ys.drop (k + 1) := by rw [List.getElem_cons_drop, List.take_append_drop]
      have tl : (xs.take k).length = k := by rw [List.length_take]; omega
      have tl2 : (ys.take k).length = k := by rw [List.length_take]; omega
      have mx := hx xs[k] (List.getElem_mem k1)
      have my := hy ys[k] (List.getElem_mem k2)
      have ax := entry_at (a := xs.take k) (m := xs[k]) (b := xs.drop (k + 1)) (by rw [← ex]; exact nx)
      have ay := entry_at (a := ys.take k) (m := ys[k]) (b := ys.drop (k + 1)) (by rw [← ey]; exact ny)
      have dx := data_at (a := xs.take k) (m := xs[k]) (b := xs.drop (k + 1)) (by rw [← ex]; exact nx)
      have dy := data_at (a := ys.take k) (m := ys[k]) (b := ys.drop (k + 1)) (by rw [← ey]; exact ny)
      have ox := endM_mid (startM xs) (xs.take k) xs[k] (xs.drop (k + 1))
      have oy := endM_mid (startM ys) (ys.take k) ys[k] (ys.drop (k + 1))
      rw [← ex] at ax dx ox
      rw [← ey] at ay dy oy
      rw [tl] at ax
      rw [tl2] at ay
      rw [h, ay] at ax
      obtain ⟨q1, q2, q3, q4, q5, q6⟩ := entry_inj my mx ax (by omega) (by omega)
      have q7 : xs[k].data = ys[k].data := by
        rw [← dx, ← dy, h, q5, q6]
      have e : xs[k] = ys[k] := by
        generalize xs[k] = x at *
        generalize ys[k] = y at *
        obtain ⟨a1, a2, a3, a4, a5⟩ := x
        obtain ⟨b1, b2, b3, b4, b5⟩ := y
        simp only at q1 q2 q3 q4 q7
        rw [q1, q2, q3, q4, q7]
      rw [List.take_succ_eq_append_getElem k1, List.take_succ_eq_append_getElem k2, hp, e]
  have := key xs.length (Nat.le_refl _)
  rw [List.take_length] at this
  rw [this, hl, List.take_length]
/-- A module without an error fits. -/
theorem chk_fit {bs : List GMod} {m : GMod} (h : chkM bs m = 0) (hd : m.data.length < 4294967296) : FitM m := by
  unfold chkM at h
  split at h
  · cases h
  · rename_i hn
    split at h
    · cases h
    · rename_i hr
      split at h
      · cases h
      · split at h
        · cases h
        · rename_i he
          have hnb : nameB m.name = true := by simpa using hn
          simp only [nameB, Bool.and_eq_true, decide_eq_true_eq] at hnb
          refine ⟨hnb.1, ?_, by omega, by omega, by omega, hd⟩
          intro c hc h0
          have hall : m.name.all isWB = true := by
            have hw := hnb.2
            cases hm : m.name with
            | nil => rfl
            | cons d r =>
              rw [hm] at hw
              simp only [wordB, Bool.and_eq_true] at hw
              rw [List.all_cons, hw.2, wb_eq, hw.1]
              rfl
          have := List.all_eq_true.1 hall c hc
          rw [h0] at this
          exact absurd this (by decide)
end Go.Proofs.YtcenonnccodfoaaDoor


namespace Go.Proofs.YtcenonnccodfoaaDoor

open Go.RowKit

def NumAt (W : World) (N : Nat) (A : Option Addr) (len cap q : Nat) : Prop := W.heap[N]? = some (.cells #[.slice A len cap, .int .i64 q] 70 (0, 0))
/-- A block of another type than bytes. -/
def NoByte (W : World) (g : Nat) : Prop := ∃ c T fz, W.heap[g]? = some (.cells c T fz) ∧ T ≠ 5
theorem NumAt.noByte {W : World} {N : Nat} {A : Option Addr} {len cap q : Nat} (h : NumAt W N A len cap q) : NoByte W N := ⟨_, _, _, h, by decide⟩
theorem ModAt.noByte {W : World} {N : Nat} {s : SMod} (h : ModAt W N s) : NoByte W N := ⟨_, _, _, h, by decide⟩
theorem lt_heap {w : World} {N : Nat} {o : Obj} (h : w.heap[N]? = some o) : N < w.heap.size := by
  rcases Nat.lt_or_ge N w.heap.size with h1 | h1
  · exact h1
  · rw [Array.getElem?_eq_none h1] at h; cases h
theorem Own.gbT {W W' : World} {base : Nat} {v : Value} {l : List UInt8} {row : Option Nat} (h : Own W base v l) (hg : W.grownBy W' row) (ht : ∀ g, row = some g → NoByte W g) : Own W' base v l := by
  refine World.ownsRow.kept h hg ?_
  cases row with
  | none =>
    cases hv : v.ownBlock with
    | none => exact .inl rfl
    | some g => exact .inr (by simp)
  | some g =>
    right
    intro e
    obtain ⟨c, T, fz, h1, h2⟩ := ht g rfl
    rcases h.2 with ⟨hv, _⟩ | ⟨g', cap, cur, hv, _, hh, _⟩
    · rw [hv] at e; simp [Value.ownBlock] at e
    · rw [hv] at e
      simp [Value.ownBlock] at e
      subst e
      rw [hh] at h1
      cases h1
      exact h2 rfl
/-- The module s is m, its data a row of the call's own. -/
structure MOwn (w : World) (base : Nat) (s : SMod) (m : GMod) : Prop where
  name : s.name = m.name
  kind : s.kind = m.kind
  width : s.width = m.width
  entry : s.entry = m.entry
  n : s.n = m.data.length
  own : Own w base (.slice s.A s.n s.c) m.data
  few : m.data.length ≤ 1000
theorem MOwn.gbT {W W' : World} {base : Nat} {s : SMod} {m : GMod} {row : Option Nat} (h : MOwn W base s m) (hg : W.grownBy W' row) (ht : ∀ g, row = some g → NoByte W g) : MOwn W' base s m := ⟨h.name, h.kind, h.width, h.entry, h.n, h.own.gbT hg ht, h.few⟩
theorem MOwn.hold {w : World} {base : Nat} {s : SMod} {m : GMod} (h : MOwn w base s m) : MHold w w.heap.size s m := by
  obtain ⟨A, cap, e, _, _, hb⟩ := h.own.form
  injection e with e1 e2 e3
  refine ⟨h.name, h.kind, h.width, h.entry, ?_, by have := h.few; omega⟩
  rw [h.n, e1]
  exact hb
theorem gbN {p : Option Nat} {w w1 : World} (h : Below w.heap.size w w1) : w.grownBy w1 p := ⟨h.os, h.tape, h.output, h.size, fun g hg _ => h.block g hg⟩
theorem gbT_trans {p : Nat} {w w1 w2 : World} (h1 : w.grownBy w1 (some p)) (h2 : w1.grownBy w2 (some p)) : w.grownBy w2 (some p) :=
  ⟨h2.os.trans h1.os, h2.tape.trans h1.tape, h2.output.trans h1.output, Nat.le_trans h1.size h2.size, fun k hk hne => (h2.block k (Nat.lt_of_lt_of_le hk h1.size) hne).trans (h1.block k hk hne)⟩
theorem gb_set {w : World} {N j : Nat} {v : Value} : w.grownBy (w.setCell ⟨N, j, none⟩ v) (some N) :=
  ⟨rfl, rfl, rfl, by simp [World.setCell], fun k _ hk => Below.heap_setCell _ _ _ _ (fun e => hk (by simp [e]))⟩
/-- How Next ends: a number below n, the counter up by one. -/
def NextU (N : Nat) (A : Option Addr) (len cap q n : Nat) (w : World) (e : Ending) (w' : World) : Prop := ∃ r : Nat, r < n ∧ e = .returned (.int .i64 r) ∧ NumAt w' N A len cap (q + 1) ∧ w.grownBy w' (some N) ∧ w'.heap.size = w.heap.size
theorem next_u {w0 : World} (N : Nat) (A : Option Addr) (len cap : Nat) (zs : List Int) (q n : Nat) (w : World) (hb : NumAt w N A len cap q) (hr : IRow w0 N A len cap zs) (hw : Below N w0 w) (hq : q ≤ 100000) (hn : 1 ≤ n) (hn2 : n ≤ 1073741824) :
    Calls Tryd.prog 39 #[.pointer (some ⟨N, 0, none⟩), .int .i64 n] w (NextU N A len cap q n w) := by
  refine (next_any N N A len cap zs q n w hb (hr.below (Nat.le_refl _) hw) hq hn hn2).mono ?_
  rintro e w' ⟨r, hr, rfl, m, rfl⟩
  refine ⟨r, hr, rfl, ?_, ?_, by simp [World.setCell]⟩
  · have h2 : (w.drewN m).heap[N]? = some (.cells #[.slice A len cap, .int .i64 q] 70 (0, 0)) := hb
    have h3 := heap_setCell_same (w.drewN m) N 1 #[.slice A len cap, .int .i64 q] _ (.int .i64 ((q : Int) + 1)) h2
    unfold NumAt
    rw [h3]
    simp
  · exact ⟨rfl, rfl, rfl, by simp [World.setCell], fun k _ hk => Below.heap_setCell _ _ _ _ (fun e => hk (by simp [e]))⟩
end Go.Proofs.YtcenonnccodfoaaDoor
