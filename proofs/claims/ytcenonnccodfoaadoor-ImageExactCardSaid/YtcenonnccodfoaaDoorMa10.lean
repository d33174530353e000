/-
  How an image comes about in a buffer of zeros, entry by entry. Plain mathematics.
  Conditions: as each theorem says.
  The program's small functions of layer 8: roundUp, entryAt, hasWidth, checkModule.
  Conditions: as each theorem says.
  The program's checkModule: the error of a module by itself.
  Conditions: as each theorem says.
-/
import Derived.Test.YtcenonnccodfoaaDoorMa9
import Derived.Test.YtcenonnccodfoaaDoorMa7
namespace Go.Proofs.YtcenonnccodfoaaDoor

theorem patch_at {L A Z C l : List UInt8} {o : Nat} (hL : L = A ++ (Z ++ C)) (ho : A.length = o) (hz : Z.length = l.length) : patch L o l = A ++ (l ++ C) := by
  rw [hL]; exact patch_mid ho hz
theorem zerosL_add (a b : Nat) : zerosL (a + b) = zerosL a ++ zerosL b := by simp [zerosL, List.replicate_append_replicate]
theorem zerosL_split {a b c : Nat} (h : a = b + c) : zerosL a = zerosL b ++ zerosL c := by rw [h, zerosL_add]
/-- The values vs written into the fields fs of what stands at o. -/
def wrF (L : List UInt8) (o : Nat) (fs : List (Nat × Nat)) (vs : List Nat) : List UInt8 := (fs.zip vs).foldl (fun L x => patch L (o + x.1.1) (leB x.2 x.1.2)) L
def entF : List (Nat × Nat) := [(24, 1), (25, 1), (28, 4), (32, 4), (36, 4), (40, 4)]
def headF : List (Nat × Nat) := [(4, 2), (6, 2), (8, 4), (12, 4)]
def wrE (L : List UInt8) (o : Nat) (m : GMod) (off : Nat) : List UInt8 := wrF (patch L o m.name) o entF [m.kind.toNat, m.width.toNat, m.entry.toNat, off, m.data.length, crcOf m.data]
def wrH (L : List UInt8) (n : Nat) : List UInt8 := wrF (patch L 0 [77, 75, 66, 73]) 0 headF [1, n, L.length, crcOf (L.drop 16)]
theorem leB_two : leB 0 2 = zerosL 2 := by decide
theorem leB_four : leB 0 4 = zerosL 4 := by decide
/-- A module's entry, written over zeros. -/
theorem wrE_mid {a c : List UInt8} {m : GMod} {o off : Nat} (ha : a.length = o) (hn : m.name.length ≤ 24) : wrE (a ++ (zerosL 48 ++ c)) o m off = a ++ (entryL m off ++ c) := by
  have z1 : zerosL 48 = zerosL m.name.length ++ (zerosL (24 - m.name.length) ++ (zerosL 1 ++ (zerosL 1 ++ (zerosL 2 ++ (zerosL 4 ++ (zerosL 4 ++ (zerosL 4 ++ (zerosL 4 ++ zerosL 4)))))))) := by
    simp only [← zerosL_add]; congr 1; omega
  have l1 := length_zeros
  have l2 := length_leB
  unfold wrE wrF entF
  rw [patch_at (A := a) (Z := zerosL m.name.length) (C := zerosL (24 - m.name.length) ++ (zerosL 1 ++ (zerosL 1 ++ (zerosL 2 ++ (zerosL 4 ++ (zerosL 4 ++ (zerosL 4 ++ (zerosL 4 ++ (zerosL 4 ++ c))))))))) (l := m.name) (by rw [z1]; simp only [List.append_assoc]) ha (l1 _)]
  simp only [List.zip_cons_cons, List.zip_nil_right, List.foldl_cons, List.foldl_nil]
  rw [patch_at (l := leB m.kind.toNat 1) (o := o + 24) (A := a ++ (m.name ++ zerosL (24 - m.name.length))) (Z := zerosL 1) (C := zerosL 1 ++ (zerosL 2 ++ (zerosL 4 ++ (zerosL 4 ++ (zerosL 4 ++ (zerosL 4 ++ (zerosL 4 ++ c))))))) (by simp only [List.append_assoc]) (by simp only [List.length_append, l1]; omega) (by rw [l1, l2])]
  rw [patch_at (l := leB m.width.toNat 1) (o := o + 25) (A := a ++ (m.name ++ (zerosL (24 - m.name.length) ++ leB m.kind.toNat 1))) (Z := zerosL 1) (C := (zerosL 2 ++ (zerosL 4 ++ (zerosL 4 ++ (zerosL 4 ++ (zerosL 4 ++ (zerosL 4 ++ c))))))) (by simp only [List.append_assoc]) (by simp only [List.length_append, l1, l2]; omega) (by rw [l1, l2])]
  rw [patch_at (l := leB m.entry.toNat 4) (o := o + 28) (A := a ++ (m.name ++ (zerosL (24 - m.name.length) ++ (leB m.kind.toNat 1 ++ (leB m.width.toNat 1 ++ zerosL 2))))) (Z := zerosL 4) (C := (zerosL 4 ++ (zerosL 4 ++ (zerosL 4 ++ (zerosL 4 ++ c))))) (by simp only [List.append_assoc]) (by simp only [List.length_append, l1, l2]; omega) (by rw [l1, l2])]
  rw [patch_at (l := leB off 4) (o := o + 32) (A := a ++ (m.name ++ (zerosL (24 - m.name.length) ++ (leB m.kind.toNat 1 ++ (leB m.width.toNat 1 ++ (zerosL 2 ++ leB m.entry.toNat 4)))))) (Z := zerosL 4) (C := (zerosL 4 ++ (zerosL 4 ++ (zerosL 4 ++ c)))) (by simp only [List.append_assoc]) (by simp only [List.length_append, l1, l2]; omega) (by rw [l1, l2])]
  rw [patch_at (l := leB m.data.length 4) (o := o + 36) (A := a ++ (m.name ++ (zerosL (24 - m.name.length) ++ (leB m.kind.toNat 1 ++ (leB m.width.toNat 1 ++ (zerosL 2 ++ (leB m.entry.toNat 4 ++ leB off 4))))))) (Z := zerosL 4) (C := (zerosL 4 ++ (zerosL 4 ++ c))) (by simp only [List.append_assoc]) (by simp only [List.length_append, l1, l2]; omega) (by rw [l1, l2])]
  rw [patch_at (l := leB (crcOf m.data) 4) (o := o + 40) (A := a ++ (m.name ++ (zerosL (24 - m.name.length) ++ (leB m.kind.toNat 1 ++ (leB m.width.toNat 1 ++ (zerosL 2 ++ (leB m.entry.toNat 4 ++ (leB off 4 ++ leB m.data.length 4)))))))) (Z := zerosL 4) (C := (zerosL 4 ++ c)) (by simp only [List.append_assoc]) (by simp only [List.length_append, l1, l2]; omega) (by rw [l1, l2])]
  unfold entryL
  rw [leB_two, leB_four]
  simp only [List.append_assoc]
/-- The header, written over zeros. -/
theorem wrH_body (body : List UInt8) (n : Nat) : wrH (zerosL 16 ++ body) n = [77, 75, 66, 73] ++ leB 1 2 ++ leB n 2 ++ leB (16 + body.length) 4 ++ leB (crcOf body) 4 ++ body := by
  have z1 : zerosL 16 = zerosL 4 ++ (zerosL 2 ++ (zerosL 2 ++ (zerosL 4 ++ zerosL 4))) := by decide
  have l1 := length_zeros
  have l2 := length_leB
  have e1 : (zerosL 16 ++ body).length = 16 + body.length := by rw [List.length_append, l1]
  have e2 : (zerosL 16 ++ body).drop 16 = body := by
    have := List.drop_left (l₁ := zerosL 16) (l₂ := body)
    rwa [l1] at this
  unfold wrH wrF headF
  rw [e1, e2]
  generalize crcOf body = cr
  generalize 16 + body.length = bl
  rw [patch_at (o := 0) (A := []) (Z := zerosL 4) (C := zerosL 2 ++ (zerosL 2 ++ (zerosL 4 ++ (zerosL 4 ++ body)))) (l := [77, 75, 66, 73]) (by rw [z1]; simp only [List.append_assoc, List.nil_append]) rfl (l1 _)]
  simp only [List.zip_cons_cons, List.zip_nil_right, List.foldl_cons, List.foldl_nil, List.nil_append]
  rw [patch_at (o := 0 + 4) (A := [77, 75, 66, 73]) (Z := zerosL 2) (C := zerosL 2 ++ (zerosL 4 ++ (zerosL 4 ++ body))) (l := leB 1 2) rfl rfl (by rw [l1, l2])]
  rw [patch_at (o := 0 + 6) (A := [77, 75, 66, 73] ++ leB 1 2) (Z := zerosL 2) (C := zerosL 4 ++ (zerosL 4 ++ body)) (l := leB n 2) (by simp only [List.append_assoc]) (by simp only [List.length_append, l2]; rfl) (by rw [l1, l2])]
  rw [patch_at (o := 0 + 8) (A := [77, 75, 66, 73] ++ (leB 1 2 ++ leB n 2)) (Z := zerosL 4) (C := zerosL 4 ++ body) (l := leB bl 4) (by simp only [List.append_assoc]) (by simp only [List.length_append, l2]; rfl) (by rw [l1, l2])]
  rw [patch_at (o := 0 + 12) (A := [77, 75, 66, 73] ++ (leB 1 2 ++ (leB n 2 ++ leB bl 4))) (Z := zerosL 4) (C := body) (l := leB cr 4) (by simp only [List.append_assoc]) (by simp only [List.length_append, l2]; rfl) (by rw [l1, l2])]
  simp only [List.append_assoc]

/-! ### The data behind the table -/
/-- What the data of modules look like behind k bytes (from offset 16 on). -/
def stuffL : Nat → List GMod → Nat → List UInt8
  | _, [], _ => []
  | at_, m :: r, k => (zerosL (at_ - 16 - k) ++ m.data) ++ stuffL (upN (at_ + m.data.length)) r (k + (at_ - 16 - k) + m.data.length)
theorem dataL_stuff : ∀ (ms : List GMod) (s : Nat) (l : List UInt8), dataL s ms l = l ++ stuffL s ms l.length
  | [], s, l => (List.append_nil l).symm
  | m :: r, s, l => by
    show dataL _ r (l ++ zerosL _ ++ m.data) = _
    rw [dataL_stuff r]
    simp only [stuffL, List.length_append, length_zeros, List.append_assoc, Nat.add_assoc]
theorem stuffL_snoc : ∀ (a : List GMod) (s k : Nat) (m : GMod), stuffL s (a ++ [m]) k = stuffL s a k ++ (zerosL (endM s a - 16 - (k + (stuffL s a k).length)) ++ m.data)
  | [], s, k, m => by simp [stuffL, endM_nil]
  | x :: a, s, k, m => by
    rw [List.cons_append]
    simp only [stuffL, endM_cons, stuffL_snoc a, List.append_assoc, List.length_append, length_zeros, Nat.add_assoc]
theorem stuff_len (ms : List GMod) (s k : Nat) (h : k + 16 ≤ s) : k + (stuffL s ms k).length + 16 ≤ endM s ms := by
  have := dataL_len ms s (zerosL k) (by rw [length_zeros]; exact h)
  rw [dataL_stuff, List.length_append, length_zeros] at this
  exact this
/-- The buffer when i modules have been written. -/
def bufL (ms : List GMod) (i : Nat) : List UInt8 :=
  zerosL 16 ++ (tableL (startM ms) (ms.take i) ++ (zerosL (48 * (ms.length - i)) ++ (stuffL (startM ms) (ms.take i) (48 * ms.length) ++ zerosL (endM (startM ms) ms - 16 - (48 * ms.length + (stuffL (startM ms) (ms.take i) (48 * ms.length)).length)))))
def bufE (ms : List GMod) (i : Nat) : List UInt8 :=
  zerosL 16 ++ (tableL (startM ms) (ms.take (i + 1)) ++ (zerosL (48 * (ms.length - (i + 1))) ++ (stuffL (startM ms) (ms.take i) (48 * ms.length) ++ zerosL (endM (startM ms) ms - 16 - (48 * ms.length + (stuffL (startM ms) (ms.take i) (48 * ms.length)).length)))))
theorem end_start (ms : List GMod) : 16 + 48 * ms.length ≤ endM (startM ms) ms := Nat.le_trans (start_ge ms) (endM_ge ms _)
theorem bufL_zero (ms : List GMod) : bufL ms 0 = zerosL (endM (startM ms) ms) := by
  have := end_start ms
  simp only [bufL, List.take_zero, stuffL, tableL, List.nil_append, List.length_nil, Nat.sub_zero, Nat.add_zero, ← zerosL_add]
  congr 1; omega
theorem endM_take_le (ms : List GMod) (s i : Nat) : endM s (ms.take i) ≤ endM s ms := by
  have h := endM_app s (ms.take i) (ms.drop i)
  rw [List.take_append_drop] at h
  rw [h]; exact endM_ge _ _
theorem bufL_full {ms : List GMod} (h : ∀ m ∈ ms, m.name.length ≤ 24) : bufL ms ms.length = zerosL 16 ++ bodyL ms := by
  have hd := dataL_stuff ms (startM ms) (tableL (startM ms) ms)
  have hl := length_table ms (startM ms) h
  simp only [bufL, bodyL, List.take_length, Nat.sub_self, Nat.mul_zero]
  rw [hd, hl, List.length_append, hl]
  simp only [show zerosL 0 = [] from rfl, List.nil_append, List.append_assoc]
theorem length_bufL {ms : List GMod} (h : ∀ m ∈ ms, m.name.length ≤ 24) {i : Nat} (hi : i ≤ ms.length) : (bufL ms i).length = endM (startM ms) ms := by
  have h1 := stuff_len (ms.take i) (startM ms) (48 * ms.length) (by have := start_ge ms; omega)
  have h2 := endM_take_le ms (startM ms) i
  have h3 := length_table (ms.take i) (startM ms) (fun m hm => h m (List.mem_of_mem_take hm))
  have h4 : (ms.take i).length = i := by rw [List.length_take]; omega
  have h5 := end_start ms
  simp only [bufL, List.length_append, length_zeros, h3, h4]
  omega
/-- A further entry. -/
theorem bufL_entry {ms : List GMod} (h : ∀ m ∈ ms, m.name.length ≤ 24) {i : Nat} (hi : i < ms.length) : wrE (bufL ms i) (16 + 48 * i) ms[i] (endM (startM ms) (ms.take i)) = bufE ms i := by
  have h3 := length_table (ms.take i) (startM ms) (fun m hm => h m (List.mem_of_mem_take hm))
  have h4 : (ms.take i).length = i := by rw [List.length_take]; omega
  have ht : tableL (startM ms) (ms.take (i + 1)) = tableL (startM ms) (ms.take i) ++ entryL ms[i] (endM (startM ms) (ms.take i)) := by
    rw [List.take_succ_eq_append_getElem hi, tableL_app]
    simp [tableL]
  have hz : zerosL (48 * (ms.length - i)) = zerosL 48 ++ zerosL (48 * (ms.length - (i + 1))) := zerosL_split (by omega)
  unfold bufL bufE
  rw [ht, hz]
  generalize stuffL _ _ _ = st
  generalize zerosL (endM (startM ms) ms - 16 - (48 * ms.length + st.length)) = zt
  generalize zerosL (48 * (ms.length - (i + 1))) = zr
  have hw := wrE_mid (a := zerosL 16 ++ tableL (startM ms) (ms.take i)) (c := zr ++ (st ++ zt)) (m := ms[i]) (o := 16 + 48 * i) (off := endM (startM ms) (ms.take i)) (by rw [List.length_append, length_zeros, h3, h4]) (h _ (List.getElem_mem hi))
  simp only [List.append_assoc] at hw ⊢
  exact hw
/-- .. and its data. -/
theorem bufE_data {ms : List GMod} (h : ∀ m ∈ ms, m.name.length ≤ 24) {i : Nat} (hi : i < ms.length) : patch (bufE ms i) (endM (startM ms) (ms.take i)) ms[i].data = bufL ms (i + 1) := by
  have h1 := stuff_len (ms.take i) (startM ms) (48 * ms.length) (by have := start_ge ms; omega)
  have h3 := length_table (ms.take (i + 1)) (startM ms) (fun m hm => h m (List.mem_of_mem_take hm))
  have h4 : (ms.take (i + 1)).length = i + 1 := by rw [List.length_take]; omega
  have hm := endM_mid (startM ms) (ms.take i) ms[i] (ms.drop (i + 1))
  have e : ms.take i ++ ms[i] :: ms.drop (i + 1) = ms := by rw [List.getElem_cons_drop, List.take_append_drop]
  rw [e] at hm
  have hs := stuffL_snoc (ms.take i) (startM ms) (48 * ms.length) ms[i]
  rw [← List.take_succ_eq_append_getElem hi] at hs
  unfold bufE bufL
  rw [hs]
  simp only [List.length_append, length_zeros]
  generalize ms[i].data = d at *
  generalize endM (startM ms) (ms.take i) = off at *
  generalize stuffL (startM ms) (ms.take i) (48 * ms.length) = st at *
  generalize tableL (startM ms) (ms.take (i + 1)) = tb at *
  have hz : zerosL (endM (startM ms) ms - 16 - (48 * ms.length + st.length)) = zerosL (off - 16 - (48 * ms.length + st.length)) ++ (zerosL d.length ++ zerosL (endM (startM ms) ms - 16 - (48 * ms.length + (st.length + (off - 16 - (48 * ms.length + st.length) + d.length))))) := by
    simp only [← zerosL_add]; congr 1; omega
  rw [hz, patch_at (A := zerosL 16 ++ (tb ++ (zerosL (48 * (ms.length - (i + 1))) ++ (st ++ zerosL (off - 16 - (48 * ms.length + st.length)))))) (Z := zerosL d.length) (C := zerosL (endM (startM ms) ms - 16 - (48 * ms.length + (st.length + (off - 16 - (48 * ms.length + st.length) + d.length))))) (l := d) (by simp only [List.append_assoc]) (by simp only [List.length_append, length_zeros, h3, h4]; omega) (length_zeros _)]
  simp only [List.append_assoc]
theorem length_bufE {ms : List GMod} (h : ∀ m ∈ ms, m.name.length ≤ 24) {i : Nat} (hi : i < ms.length) : (bufE ms i).length = endM (startM ms) ms := by
  have h1 := stuff_len (ms.take i) (startM ms) (48 * ms.length) (by have := start_ge ms; omega)
  have h2 := endM_take_le ms (startM ms) i
  have h3 := length_table (ms.take (i + 1)) (startM ms) (fun m hm => h m (List.mem_of_mem_take hm))
  have h4 : (ms.take (i + 1)).length = i + 1 := by rw [List.length_take]; omega
  have h5 := end_start ms
  simp only [bufE, List.length_append, length_zeros, h3, h4]
  omega
/-- The header makes the image of it. -/
theorem wrH_full {ms : List GMod} (h : ∀ m ∈ ms, m.name.length ≤ 24) : wrH (bufL ms ms.length) ms.length = imageL ms := by
  have hb := length_body h
  rw [bufL_full h, wrH_body, show 16 + (bodyL ms).length = endM (startM ms) ms by omega]
  rfl
end Go.Proofs.YtcenonnccodfoaaDoor


namespace Go.Proofs.YtcenonnccodfoaaDoor

open Go.RowKit

theorem roundUp_any (n : Nat) (w : World) (hn : n ≤ 4611686018427387904) : Calls Tryd.prog 41 #[.int .i64 (n : Int)] w fun e w' => e = .returned (.int .i64 (upN n : Nat)) ∧ w = w' := by
  have HU : Hid ((upN n : Nat) = (n + 63) / 64 * 64) := Lib.hid rfl
  have e0 : IntKind.i64.wrap ((n : Int) + 64) = ((n + 64 : Nat) : Int) := by rw [IntKind.wrap_i64]; omega
  have e1 : IntKind.i64.wrap (((n + 64 : Nat) : Int) - 1) = ((n + 63 : Nat) : Int) := by rw [IntKind.wrap_i64]; omega
  have e2 : ((n + 63 : Nat) : Int).tdiv 64 = (((n + 63) / 64 : Nat) : Int) := by rw [Int.tdiv_eq_ediv_of_nonneg (by omega)]; omega
  have e3 : IntKind.i64.wrap ((((n + 63) / 64 : Nat) : Int)) = (((n + 63) / 64 : Nat) : Int) := by rw [IntKind.wrap_i64]; omega
  have e4 : IntKind.i64.wrap ((((n + 63) / 64 : Nat) : Int) * 64) = ((upN n : Nat) : Int) := by rw [IntKind.wrap_i64, HU.out]; omega
  go_enter Tryd.func41, Tryd.ntmps41
  go_wp2
  go_ret
  exact ⟨congrArg (fun x : Int => Ending.returned (Value.int .i64 x)) (by rw [HU.out]; omega), rfl⟩
theorem entryAt_any (i : Nat) (w : World) (hn : i ≤ 4611686018427387) : Calls Tryd.prog 27 #[.int .i64 (i : Int)] w fun e w' => e = .returned (.int .i64 ((16 + 48 * i : Nat) : Int)) ∧ w = w' := by
  go_enter Tryd.func27, Tryd.ntmps27
  go_wp2
  go_ret
  exact ⟨congrArg (fun x : Int => Ending.returned (Value.int .i64 x)) (by omega), rfl⟩
/-- May a module of the kind have the width? -/
def hasW (kind width : Int) : Bool := decide (((kind = 1 ∨ kind = 2) ∧ (width = 32 ∨ width = 39)) ∨ (kind = 3 ∧ width = 0))
theorem hasW_range (m : GMod) : (!hasW m.kind m.width) = rangeB m := by
  obtain ⟨n, k, wd, e, d⟩ := m
  simp only [hasW, rangeB]
  rw [← decide_not, decide_eq_decide]
  omega
theorem hasWidth_any (k wd : Int) (w : World) : Calls Tryd.prog 51 #[.int .i64 k, .int .i64 wd] w fun e w' => e = .returned (.bool (hasW k wd)) ∧ w = w' := by
  have HE : Hid (hasW k wd = decide (((k = 1 ∨ k = 2) ∧ (wd = 32 ∨ wd = 39)) ∨ (k = 3 ∧ wd = 0))) := Lib.hid rfl
  go_enter Tryd.func51, Tryd.ntmps51
  by_cases k1 : k = 1
  · have f1 : (k == 1) = true := by simp [k1]
    by_cases w32 : wd = 32
    · have g1 : (wd == 32) = true := by simp [w32]
      have HR : Hid (hasW k wd = true) := Lib.hid (by rw [HE.out]; simp [k1, w32])
      clear k1 w32
      go_wp2
      go_ret
      exact ⟨congrArg (fun x : Bool => Ending.returned (Value.bool x)) HR.out.symm, rfl⟩
    · have g1 : (wd == 32) = false := by simp [w32]
      by_cases w39 : wd = 39
      · have g2 : (wd == 39) = true := by simp [w39]
        have HR : Hid (hasW k wd = true) := Lib.hid (by rw [HE.out]; simp [k1, w39])
        clear k1 w32 w39
        go_wp2
        go_ret
        exact ⟨congrArg (fun x : Bool => Ending.returned (Value.bool x)) HR.out.symm, rfl⟩
      · have g2 : (wd == 39) = false := by simp [w39]
        have HR : Hid (hasW k wd = false) := Lib.hid (by rw [HE.out]; simp [k1, w32, w39])
        clear k1 w32 w39
        go_wp2
        go_ret
        exact ⟨congrArg (fun x : Bool => Ending.returned (Value.bool x)) HR.out.symm, rfl⟩
  · have f1 : (k == 1) = false := by simp [k1]
    by_cases k2 : k = 2
    · have f2 : (k == 2) = true := by simp [k2]
      by_cases w32 : wd = 32
      · have g1 : (wd == 32) = true := by simp [w32]
        have HR : Hid (hasW k wd = true) := Lib.hid (by rw [HE.out]; simp [k2, w32])
        clear k1 k2 w32
        go_wp2
        go_ret
        exact ⟨congrArg (fun x : Bool => Ending.returned (Value.bool x)) HR.out.symm, rfl⟩
      · have g1 : (wd == 32) = false := by simp [w32]
        by_cases w39 : wd = 39
        · have g2 : (wd == 39) = true := by simp [w39]
          have HR : Hid (hasW k wd = true) := Lib.hid (by rw [HE.out]; simp [k2, w39])
          clear k1 k2 w32 w39
          go_wp2
          go_ret
          exact ⟨congrArg (fun x : Bool => Ending.returned (Value.bool x)) HR.out.symm, rfl⟩
        · have g2 : (wd == 39) = false := by simp [w39]
          have HR : Hid (hasW k wd = false) := Lib.hid (by rw [HE.out]; simp [k2, w32, w39])
          clear k1 k2 w32 w39
          go_wp2
          go_ret
          exact ⟨congrArg (fun x : Bool => Ending.returned (Value.bool x)) HR.out.symm, rfl⟩
    · have f2 : (k == 2) = false := by simp [k2]
      by_cases k3 : k = 3
      · have f3 : (k == 3) = true := by simp [k3]
        by_cases w0 : wd = 0
        · have g1 : (wd == 0) = true := by simp [w0]
          have HR : Hid (hasW k wd = true) := Lib.hid (by rw [HE.out]; simp [k3, w0])
          clear k1 k2 k3 w0
          go_wp2
          go_ret
          exact ⟨congrArg (fun x : Bool => Ending.returned (Value.bool x)) HR.out.symm, rfl⟩
        · have g1 : (wd == 0) = false := by simp [w0]
          have HR : Hid (hasW k wd = false) := Lib.hid (by rw [HE.out]; simp [k3, w0])
          clear k1 k2 k3 w0
          go_wp2
          go_ret
          exact ⟨congrArg (fun x : Bool => Ending.returned (Value.bool x)) HR.out.symm, rfl⟩
      · have f3 : (k == 3) = false := by simp [k3]
        have HR : Hid (hasW k wd = false) := Lib.hid (by rw [HE.out]; simp [k1, k2, k3])
        clear k1 k2 k3
        go_wp2
        go_ret
        exact ⟨congrArg (fun x : Bool => Ending.returned (Value.bool x)) HR.out.symm, rfl⟩
end Go.Proofs.YtcenonnccodfoaaDoor


namespace Go.Proofs.YtcenonnccodfoaaDoor

open Go.RowKit

theorem chk0_eq (m : GMod) : chkM [] m = if nameB m.name = false then 63 else if rangeB m = true then 6 else if alignB m = true then 59 else if entryB m = true then 6 else 0 := by
  rw [chkM_eq]; rfl
set_option maxRecDepth 50000 in
set_option maxHeartbeats 1000000 in
theorem checkModule_any (m : GMod) (s : SMod) (w : World) (hm : MHold w w.heap.size s m) (hl : m.name.length ≤ 140737488355328) :
    Calls Tryd.prog 40 #[s.val] w fun e w' => e = .returned (.int .i64 (chkM [] m)) ∧ Below w.heap.size w w' := by
  obtain ⟨sn, sk, sw, se, sA, sl, sc⟩ := s
  have hdn := hm.n
  have hfew := hm.few
  obtain ⟨h1, h2, h3, h4, _, _⟩ := hm
  simp only at h1 h2 h3 h4 hdn
  subst h1 h2 h3 h4 hdn
  have HC : Hid (chkM [] m = _) := Lib.hid (chk0_eq m)
  have HN := Lib.hid fun W => isName_any m.name W (by unfold maxLen; omega)
  have HH := Lib.hid fun W => hasWidth_any m.kind m.width W
  have HRW := Lib.hid (hasW_range m)
  have hbx : (w.alloc (.cells #[.string ⟨m.name.toArray⟩, .int .i64 m.kind, .int .i64 m.width, .int .i64 m.entry, .slice sA m.data.length sc] 41)).heap[w.heap.size]? = some (.cells #[.string ⟨m.name.toArray⟩, .int .i64 m.kind, .int .i64 m.width, .int .i64 m.entry, .slice sA m.data.length sc] 41 (0, 0)) := heap_alloc_new w _
  have hW := bel_lit8 (Below.refl w.heap.size w) (.cells #[.string ⟨m.name.toArray⟩, .int .i64 m.kind, .int .i64 m.width, .int .i64 m.entry, .slice sA m.data.length sc] 41)
  have hnot : ∀ (x : Bool) (w : World), (Op.unary .not (.bool x)).run Tryd.prog w = .ok (.bool (!x)) w := fun _ _ => rfl
  have hq : m.data.length / 8 ≤ 4294967296 := by omega
  have e8 : (m.data.length : Int).tdiv 8 = ((m.data.length / 8 : Nat) : Int) := by rw [Int.tdiv_eq_ediv_of_nonneg (by omega)]; omega
  have e8m : (m.data.length : Int).tmod 8 = ((m.data.length % 8 : Nat) : Int) := by rw [Int.tmod_eq_emod_of_nonneg (by omega)]; omega
  have HQ : Hid (((m.data.length / 8 : Nat) : Int) = (m.data.length : Int) / 8) := Lib.hid (by omega)
  have HA : Hid (alignB m = decide (m.kind = 1 ∧ (m.data.length = 0 ∨ m.data.length % 8 ≠ 0))) := Lib.hid rfl
  have HEn : Hid (entryB m = decide ((m.kind = 1 ∧ (m.entry < 0 ∨ (m.data.length : Int) / 8 ≤ m.entry)) ∨ (m.kind ≠ 1 ∧ m.entry ≠ 0))) := Lib.hid rfl
  simp only [SMod.val]
  by_cases k1 : m.kind = 1
  · have f1 : (m.kind == 1) = true := by simp [k1]
    cases hnm : nameB m.name
    case false =>
      have HN2 : Hid (∀ W, Calls Tryd.prog 50 #[.string ⟨m.name.toArray⟩] W fun e w' => e = .returned (.bool false) ∧ W = w') := Lib.hid (by intro W; have := HN.out W; rwa [hnm] at this)
      clear HN
      have HN := HN2
      clear HN2
      have HR : Hid (chkM [] m = 63) := Lib.hid (by
        rw [HC.out, if_pos hnm])
      clear hnm k1
      go_enter Tryd.func40, Tryd.ntmps40
      go_upto_region 1 with fail
      generalize w.alloc (.cells #[.string ⟨m.name.toArray⟩, .int .i64 m.kind, .int .i64 m.width, .int .i64 m.entry, .slice sA m.data.length sc] 41) = W at *
      generalize hNN : w.heap.size = N at *
      have HWB := Lib.hid hW
      have x0 : W.cell? ⟨N, 0, none⟩ = some (.string ⟨m.name.toArray⟩) := by rw [Lib.cell_of_heap hbx]; rfl
      have x1 : W.cell? ⟨N, 1, none⟩ = some (.int .i64 m.kind) := by rw [Lib.cell_of_heap hbx]; rfl
      have x2 : W.cell? ⟨N, 2, none⟩ = some (.int .i64 m.width) := by rw [Lib.cell_of_heap hbx]; rfl
      have x3 : W.cell? ⟨N, 3, none⟩ = some (.int .i64 m.entry) := by rw [Lib.cell_of_heap hbx]; rfl
      have x4 : W.cell? ⟨N, 4, none⟩ = some (.slice sA m.data.length sc) := by rw [Lib.cell_of_heap hbx]; rfl
      clear hbx hW
      go_wp2_with fail
      go_fit (HN.out _)
      rintro e w1 ⟨rfl, rfl⟩
      go_wp2
      go_ret
      exact ⟨congrArg (fun x : Int => Ending.returned (Value.int .i64 x)) HR.out.symm, by rw [hNN]; exact HWB.out⟩
    case true =>
      have HN2 : Hid (∀ W, Calls Tryd.prog 50 #[.string ⟨m.name.toArray⟩] W fun e w' => e = .returned (.bool true) ∧ W = w') := Lib.hid (by intro W; have := HN.out W; rwa [hnm] at this)
      clear HN
      have HN := HN2
      clear HN2
      cases hhw : hasW m.kind m.width
      case false =>
        have HH2 : Hid (∀ W, Calls Tryd.prog 51 #[.int .i64 m.kind, .int .i64 m.width] W fun e w' => e = .returned (.bool false) ∧ W = w') := Lib.hid (by intro W; have := HH.out W; rwa [hhw] at this)
        clear HH
        have HH := HH2
        clear HH2
        have HR : Hid (chkM [] m = 6) := Lib.hid (by
          rw [HC.out, if_neg (by rw [hnm]; simp), if_pos (by rw [← HRW.out, hhw]; rfl)])
        clear hnm hhw k1
        go_enter Tryd.func40, Tryd.ntmps40
        go_upto_region 1 with fail
        generalize w.alloc (.cells #[.string ⟨m.name.toArray⟩, .int .i64 m.kind, .int .i64 m.width, .int .i64 m.entry, .slice sA m.data.length sc] 41) = W at *
        generalize hNN : w.heap.size = N at *
        have HWB := Lib.hid hW
        have x0 : W.cell? ⟨N, 0, none⟩ = some (.string ⟨m.name.toArray⟩) := by rw [Lib.cell_of_heap hbx]; rfl
        have x1 : W.cell? ⟨N, 1, none⟩ = some (.int .i64 m.kind) := by rw [Lib.cell_of_heap hbx]; rfl
        have x2 : W.cell? ⟨N, 2, none⟩ = some (.int .i64 m.width) := by rw [Lib.cell_of_heap hbx]; rfl
        have x3 : W.cell? ⟨N, 3, none⟩ = some (.int .i64 m.entry) := by rw [Lib.cell_of_heap hbx]; rfl
        have x4 : W.cell? ⟨N, 4, none⟩ = some (.slice sA m.data.length sc) := by rw [Lib.cell_of_heap hbx]; rfl
        clear hbx hW
        go_wp2_with fail
        go_fit (HN.out _)
        rintro e w1 ⟨rfl, rfl⟩
        go_wp2_with fail
        go_fit (HH.out _)
        rintro e w1 ⟨rfl, rfl⟩
        go_wp2
        go_ret
        exact ⟨congrArg (fun x : Int => Ending.returned (Value.int .i64 x)) HR.out.symm, by rw [hNN]; exact HWB.out⟩
      case true =>
        have HH2 : Hid (∀ W, Calls Tryd.prog 51 #[.int .i64 m.kind, .int .i64 m.width] W fun e w' => e = .returned (.bool true) ∧ W = w') := Lib.hid (by intro W; have := HH.out W; rwa [hhw] at this)
        clear HH
        have HH := HH2
        clear HH2
        have HC2 : Hid (chkM [] m = if alignB m = true then 59 else if entryB m = true then 6 else 0) := Lib.hid (by rw [HC.out, if_neg (by rw [hnm]; simp), if_neg (by rw [← HRW.out, hhw]; simp)])
        clear HC HRW hnm hhw
        by_cases d0 : m.data.length = 0
        · have g1 : ((m.data.length : Int) == 0) = true := by simp [d0]
          have HR : Hid (chkM [] m = 59) := Lib.hid (by
            rw [HC2.out, if_pos (by rw [HA.out]; simp [k1, d0])])
          clear d0 k1
          go_enter Tryd.func40, Tryd.ntmps40
          go_upto_region 1 with fail
          generalize w.alloc (.cells #[.string ⟨m.name.toArray⟩, .int .i64 m.kind, .int .i64 m.width, .int .i64 m.entry, .slice sA m.data.length sc] 41) = W at *
          generalize hNN : w.heap.size = N at *
          have HWB := Lib.hid hW
          have x0 : W.cell? ⟨N, 0, none⟩ = some (.string ⟨m.name.toArray⟩) := by rw [Lib.cell_of_heap hbx]; rfl
          have x1 : W.cell? ⟨N, 1, none⟩ = some (.int .i64 m.kind) := by rw [Lib.cell_of_heap hbx]; rfl
          have x2 : W.cell? ⟨N, 2, none⟩ = some (.int .i64 m.width) := by rw [Lib.cell_of_heap hbx]; rfl
          have x3 : W.cell? ⟨N, 3, none⟩ = some (.int .i64 m.entry) := by rw [Lib.cell_of_heap hbx]; rfl
          have x4 : W.cell? ⟨N, 4, none⟩ = some (.slice sA m.data.length sc) := by rw [Lib.cell_of_heap hbx]; rfl
          clear hbx hW
          go_wp2_with fail
          go_fit (HN.out _)
          rintro e w1 ⟨rfl, rfl⟩
          go_wp2_with fail
          go_fit (HH.out _)
          rintro e w1 ⟨rfl, rfl⟩
          go_wp2
          go_ret
          exact ⟨congrArg (fun x : Int => Ending.returned (Value.int .i64 x)) HR.out.symm, by rw [hNN]; exact HWB.out⟩
        · have g1 : ((m.data.length : Int) == 0) = false := beq_false_of_ne (by omega)
          by_cases d8 : m.data.length % 8 = 0
          case neg =>
            have HR : Hid (chkM [] m = 59) := Lib.hid (by rw [HC2.out, if_pos (by rw [HA.out]; simp only [decide_eq_true_eq]; exact ⟨k1, .inr d8⟩)])
            generalize m.data.length % 8 = z at *
            have g3 : ((z : Int) != 0) = true := by simp; omega
            clear k1 d0 d8
            go_enter Tryd.func40, Tryd.ntmps40
            go_upto_region 1 with fail
            generalize w.alloc (.cells #[.string ⟨m.name.toArray⟩, .int .i64 m.kind, .int .i64 m.width, .int .i64 m.entry, .slice sA m.data.length sc] 41) = W at *
            generalize hNN : w.heap.size = N at *
            have HWB := Lib.hid hW
            have x0 : W.cell? ⟨N, 0, none⟩ = some (.string ⟨m.name.toArray⟩) := by rw [Lib.cell_of_heap hbx]; rfl
            have x1 : W.cell? ⟨N, 1, none⟩ = some (.int .i64 m.kind) := by rw [Lib.cell_of_heap hbx]; rfl
            have x2 : W.cell? ⟨N, 2, none⟩ = some (.int .i64 m.width) := by rw [Lib.cell_of_heap hbx]; rfl
            have x3 : W.cell? ⟨N, 3, none⟩ = some (.int .i64 m.entry) := by rw [Lib.cell_of_heap hbx]; rfl
            have x4 : W.cell? ⟨N, 4, none⟩ = some (.slice sA m.data.length sc) := by rw [Lib.cell_of_heap hbx]; rfl
            clear hbx hW
            go_wp2_with fail
            go_fit (HN.out _)
            rintro e w1 ⟨rfl, rfl⟩
            go_wp2_with fail
            go_fit (HH.out _)
            rintro e w1 ⟨rfl, rfl⟩
            go_wp2
            go_ret
            exact ⟨congrArg (fun x : Int => Ending.returned (Value.int .i64 x)) HR.out.symm, by rw [hNN]; exact HWB.out⟩
          case pos =>
            have HC3 : Hid (chkM [] m = if entryB m = true then 6 else 0) := Lib.hid (by rw [HC2.out, if_neg (by rw [HA.out]; simp only [decide_eq_true_eq]; omega)])
            have g3 : (((m.data.length % 8 : Nat) : Int) != 0) = false := by rw [d8]; rfl
            clear d8
            generalize m.data.length % 8 = z at *
            by_cases n0 : m.entry < 0
            · have g4 : decide (m.entry < 0) = true := by simpa using n0
              have HR : Hid (chkM [] m = 6) := Lib.hid (by
                rw [HC3.out, if_pos (by rw [HEn.out]; simp only [decide_eq_true_eq]; exact .inl ⟨k1, .inl n0⟩)])
              clear k1 n0 d0
              go_enter Tryd.func40, Tryd.ntmps40
              go_upto_region 1 with fail
              generalize w.alloc (.cells #[.string ⟨m.name.toArray⟩, .int .i64 m.kind, .int .i64 m.width, .int .i64 m.entry, .slice sA m.data.length sc] 41) = W at *
              generalize hNN : w.heap.size = N at *
              have HWB := Lib.hid hW
              have x0 : W.cell? ⟨N, 0, none⟩ = some (.string ⟨m.name.toArray⟩) := by rw [Lib.cell_of_heap hbx]; rfl
              have x1 : W.cell? ⟨N, 1, none⟩ = some (.int .i64 m.kind) := by rw [Lib.cell_of_heap hbx]; rfl
              have x2 : W.cell? ⟨N, 2, none⟩ = some (.int .i64 m.width) := by rw [Lib.cell_of_heap hbx]; rfl
              have x3 : W.cell? ⟨N, 3, none⟩ = some (.int .i64 m.entry) := by rw [Lib.cell_of_heap hbx]; rfl
              have x4 : W.cell? ⟨N, 4, none⟩ = some (.slice sA m.data.length sc) := by rw [Lib.cell_of_heap hbx]; rfl
              clear hbx hW
              go_wp2_with fail
              go_fit (HN.out _)
              rintro e w1 ⟨rfl, rfl⟩
              go_wp2_with fail
              go_fit (HH.out _)
              rintro e w1 ⟨rfl, rfl⟩
              go_wp2
              go_ret
              exact ⟨congrArg (fun x : Int => Ending.returned (Value.int .i64 x)) HR.out.symm, by rw [hNN]; exact HWB.out⟩
            · have g4 : decide (m.entry < 0) = false := by simpa using n0
              generalize m.data.length / 8 = q at *
              by_cases n1 : (q : Int) - 1 < m.entry
              · have g5 : decide ((q : Int) - 1 < m.entry) = true := by simpa using n1
                have HR : Hid (chkM [] m = 6) := Lib.hid (by
                  rw [HC3.out, if_pos (by rw [HEn.out]; simp only [decide_eq_true_eq]; have := HQ.out; exact .inl ⟨k1, .inr (by omega)⟩)]
                  )
                clear k1 n0 n1 d0
                go_enter Tryd.func40, Tryd.ntmps40
                go_upto_region 1 with fail
                generalize w.alloc (.cells #[.string ⟨m.name.toArray⟩, .int .i64 m.kind, .int .i64 m.width, .int .i64 m.entry, .slice sA m.data.length sc] 41) = W at *
                generalize hNN : w.heap.size = N at *
                have HWB := Lib.hid hW
                have x0 : W.cell? ⟨N, 0, none⟩ = some (.string ⟨m.name.toArray⟩) := by rw [Lib.cell_of_heap hbx]; rfl
                have x1 : W.cell? ⟨N, 1, none⟩ = some (.int .i64 m.kind) := by rw [Lib.cell_of_heap hbx]; rfl
                have x2 : W.cell? ⟨N, 2, none⟩ = some (.int .i64 m.width) := by rw [Lib.cell_of_heap hbx]; rfl
                have x3 : W.cell? ⟨N, 3, none⟩ = some (.int .i64 m.entry) := by rw [Lib.cell_of_heap hbx]; rfl
                have x4 : W.cell? ⟨N, 4, none⟩ = some (.slice sA m.data.length sc) := by rw [Lib.cell_of_heap hbx]; rfl
                clear hbx hW
                go_wp2_with fail
                go_fit (HN.out _)
                rintro e w1 ⟨rfl, rfl⟩
                go_wp2_with fail
                go_fit (HH.out _)
                rintro e w1 ⟨rfl, rfl⟩
                go_wp2
                go_ret
                exact ⟨congrArg (fun x : Int => Ending.returned (Value.int .i64 x)) HR.out.symm, by rw [hNN]; exact HWB.out⟩
              · have g5 : decide ((q : Int) - 1 < m.entry) = false := by simpa using n1
                have HR : Hid (chkM [] m = 0) := Lib.hid (by
                  rw [HC3.out, if_neg (by rw [HEn.out]; simp only [decide_eq_true_eq]; have := HQ.out; omega)])
                clear k1 n0 n1 d0
                go_enter Tryd.func40, Tryd.ntmps40
                go_upto_region 1 with fail
                generalize w.alloc (.cells #[.string ⟨m.name.toArray⟩, .int .i64 m.kind, .int .i64 m.width, .int .i64 m.entry, .slice sA m.data.length sc] 41) = W at *
                generalize hNN : w.heap.size = N at *
                have HWB := Lib.hid hW
                have x0 : W.cell? ⟨N, 0, none⟩ = some (.string ⟨m.name.toArray⟩) := by rw [Lib.cell_of_heap hbx]; rfl
                have x1 : W.cell? ⟨N, 1, none⟩ = some (.int .i64 m.kind) := by rw [Lib.cell_of_heap hbx]; rfl
                have x2 : W.cell? ⟨N, 2, none⟩ = some (.int .i64 m.width) := by rw [Lib.cell_of_heap hbx]; rfl
                have x3 : W.cell? ⟨N, 3, none⟩ = some (.int .i64 m.entry) := by rw [Lib.cell_of_heap hbx]; rfl
                have x4 : W.cell? ⟨N, 4, none⟩ = some (.slice sA m.data.length sc) := by rw [Lib.cell_of_heap hbx]; rfl
                clear hbx hW
                go_wp2_with fail
                go_fit (HN.out _)
                rintro e w1 ⟨rfl, rfl⟩
                go_wp2_with fail
                go_fit (HH.out _)
                rintro e w1 ⟨rfl, rfl⟩
                go_wp2
                go_ret
                exact ⟨congrArg (fun x : Int => Ending.returned (Value.int .i64 x)) HR.out.symm, by rw [hNN]; exact HWB.out⟩
  · have f1 : (m.kind == 1) = false := by simp [k1]
    cases hnm : nameB m.name
    case false =>
      have HN2 : Hid (∀ W, Calls Tryd.prog 50 #[.string ⟨m.name.toArray⟩] W fun e w' => e = .returned (.bool false) ∧ W = w') := Lib.hid (by intro W; have := HN.out W; rwa [hnm] at this)
      clear HN
      have HN := HN2
      clear HN2
      have HR : Hid (chkM [] m = 63) := Lib.hid (by
        rw [HC.out, if_pos hnm])
      clear hnm k1
      go_enter Tryd.func40, Tryd.ntmps40
      go_upto_region 1 with fail
      generalize w.alloc (.cells #[.string ⟨m.name.toArray⟩, .int .i64 m.kind, .int .i64 m.width, .int .i64 m.entry, .slice sA m.data.length sc] 41) = W at *
      generalize hNN : w.heap.size = N at *
      have HWB := Lib.hid hW
      have x0 : W.cell? ⟨N, 0, none⟩ = some (.string ⟨m.name.toArray⟩) := by rw [Lib.cell_of_heap hbx]; rfl
      have x1 : W.cell? ⟨N, 1, none⟩ = some (.int .i64 m.kind) := by rw [Lib.cell_of_heap hbx]; rfl
      have x2 : W.cell? ⟨N, 2, none⟩ = some (.int .i64 m.width) := by rw [Lib.cell_of_heap hbx]; rfl
      have x3 : W.cell? ⟨N, 3, none⟩ = some (.int .i64 m.entry) := by rw [Lib.cell_of_heap hbx]; rfl
      have x4 : W.cell? ⟨N, 4, none⟩ = some (.slice sA m.data.length sc) := by rw [Lib.cell_of_heap hbx]; rfl
      clear hbx hW
      go_wp2_with fail
      go_fit (HN.out _)
      rintro e w1 ⟨rfl, rfl⟩
      go_wp2
      go_ret
      exact ⟨congrArg (fun x : Int => Ending.returned (Value.int .i64 x)) HR.out.symm, by rw [hNN]; exact HWB.out⟩
    case true =>
      have HN2 : Hid (∀ W, Calls Tryd.prog 50 #[.string ⟨m.name.toArray⟩] W fun e w' => e = .returned (.bool true) ∧ W = w') := Lib.hid (by intro W; have := HN.out W; rwa [hnm] at this)
      clear HN
      have HN := HN2
      clear HN2
      cases hhw : hasW m.kind m.width
      case false =>
        have HH2 : Hid (∀ W, Calls Tryd.prog 51 #[.int .i64 m.kind, .int .i64 m.width] W fun e w' => e = .returned (.bool false) ∧ W = w') := Lib.hid (by intro W; have := HH.out W; rwa [hhw] at this)
        clear HH
        have HH := HH2
        clear HH2
        have HR : Hid (chkM [] m = 6) := Lib.hid (by
          rw [HC.out, if_neg (by rw [hnm]; simp), if_pos (by rw [← HRW.out, hhw]; rfl)])
        clear hnm hhw k1
        go_enter Tryd.func40, Tryd.ntmps40
        go_upto_region 1 with fail
        generalize w.alloc (.cells #[.string ⟨m.name.toArray⟩, .int .i64 m.kind, .int .i64 m.width, .int .i64 m.entry, .slice sA m.data.length sc] 41) = W at *
        generalize hNN : w.heap.size = N at *
        have HWB := Lib.hid hW
        have x0 : W.cell? ⟨N, 0, none⟩ = some (.string ⟨m.name.toArray⟩) := by rw [Lib.cell_of_heap hbx]; rfl
        have x1 : W.cell? ⟨N, 1, none⟩ = some (.int .i64 m.kind) := by rw [Lib.cell_of_heap hbx]; rfl
        have x2 : W.cell? ⟨N, 2, none⟩ = some (.int .i64 m.width) := by rw [Lib.cell_of_heap hbx]; rfl
        have x3 : W.cell? ⟨N, 3, none⟩ = some (.int .i64 m.entry) := by rw [Lib.cell_of_heap hbx]; rfl
        have x4 : W.cell? ⟨N, 4, none⟩ = some (.slice sA m.data.length sc) := by rw [Lib.cell_of_heap hbx]; rfl
        clear hbx hW
        go_wp2_with fail
        go_fit (HN.out _)
        rintro e w1 ⟨rfl, rfl⟩
        go_wp2_with fail
        go_fit (HH.out _)
        rintro e w1 ⟨rfl, rfl⟩
        go_wp2
        go_ret
        exact ⟨congrArg (fun x : Int => Ending.returned (Value.int .i64 x)) HR.out.symm, by rw [hNN]; exact HWB.out⟩
      case true =>
        have HH2 : Hid (∀ W, Calls Tryd.prog 51 #[.int .i64 m.kind, .int .i64 m.width] W fun e w' => e = .returned (.bool true) ∧ W = w') := Lib.hid (by intro W; have := HH.out W; rwa [hhw] at this)
        clear HH
        have HH := HH2
        clear HH2
        have HC2 : Hid (chkM [] m = if alignB m = true then 59 else if entryB m = true then 6 else 0) := Lib.hid (by rw [HC.out, if_neg (by rw [hnm]; simp), if_neg (by rw [← HRW.out, hhw]; simp)])
        clear HC HRW hnm hhw
        have HC3 : Hid (chkM [] m = if entryB m = true then 6 else 0) := Lib.hid (by rw [HC2.out, if_neg (by rw [HA.out]; simp only [decide_eq_true_eq]; omega)])
        by_cases n0 : m.entry < 0
        · have g4 : decide (m.entry < 0) = true := by simpa using n0
          have HR : Hid (chkM [] m = 6) := Lib.hid (by
            rw [HC3.out, if_pos (by rw [HEn.out]; simp only [decide_eq_true_eq]; omega)])
          clear k1 n0
          go_enter Tryd.func40, Tryd.ntmps40
          go_upto_region 1 with fail
          generalize w.alloc (.cells #[.string ⟨m.name.toArray⟩, .int .i64 m.kind, .int .i64 m.width, .int .i64 m.entry, .slice sA m.data.length sc] 41) = W at *
          generalize hNN : w.heap.size = N at *
          have HWB := Lib.hid hW
          have x0 : W.cell? ⟨N, 0, none⟩ = some (.string ⟨m.name.toArray⟩) := by rw [Lib.cell_of_heap hbx]; rfl
          have x1 : W.cell? ⟨N, 1, none⟩ = some (.int .i64 m.kind) := by rw [Lib.cell_of_heap hbx]; rfl
          have x2 : W.cell? ⟨N, 2, none⟩ = some (.int .i64 m.width) := by rw [Lib.cell_of_heap hbx]; rfl
          have x3 : W.cell? ⟨N, 3, none⟩ = some (.int .i64 m.entry) := by rw [Lib.cell_of_heap hbx]; rfl
          have x4 : W.cell? ⟨N, 4, none⟩ = some (.slice sA m.data.length sc) := by rw [Lib.cell_of_heap hbx]; rfl
          clear hbx hW
          go_wp2_with fail
          go_fit (HN.out _)
          rintro e w1 ⟨rfl, rfl⟩
          go_wp2_with fail
          go_fit (HH.out _)
          rintro e w1 ⟨rfl, rfl⟩
          go_wp2
          go_ret
          exact ⟨congrArg (fun x : Int => Ending.returned (Value.int .i64 x)) HR.out.symm, by rw [hNN]; exact HWB.out⟩
        · have g4 : decide (m.entry < 0) = false := by simpa using n0
          by_cases n1 : 0 < m.entry
          · have g5 : decide (0 < m.entry) = true := by simpa using n1
            have HR : Hid (chkM [] m = 6) := Lib.hid (by
              rw [HC3.out, if_pos (by rw [HEn.out]; simp only [decide_eq_true_eq]; omega)])
            clear k1 n0 n1
            go_enter Tryd.func40, Tryd.ntmps40
            go_upto_region 1 with fail
            generalize w.alloc (.cells #[.string ⟨m.name.toArray⟩, .int .i64 m.kind, .int .i64 m.width, .int .i64 m.entry, .slice sA m.data.length sc] 41) = W at *
            generalize hNN : w.heap.size = N at *
            have HWB := Lib.hid hW
            have x0 : W.cell? ⟨N, 0, none⟩ = some (.string ⟨m.name.toArray⟩) := by rw [Lib.cell_of_heap hbx]; rfl
            have x1 : W.cell? ⟨N, 1, none⟩ = some (.int .i64 m.kind) := by rw [Lib.cell_of_heap hbx]; rfl
            have x2 : W.cell? ⟨N, 2, none⟩ = some (.int .i64 m.width) := by rw [Lib.cell_of_heap hbx]; rfl
            have x3 : W.cell? ⟨N, 3, none⟩ = some (.int .i64 m.entry) := by rw [Lib.cell_of_heap hbx]; rfl
            have x4 : W.cell? ⟨N, 4, none⟩ = some (.slice sA m.data.length sc) := by rw [Lib.cell_of_heap hbx]; rfl
            clear hbx hW
            go_wp2_with fail
            go_fit (HN.out _)
            rintro e w1 ⟨rfl, rfl⟩
            go_wp2_with fail
            go_fit (HH.out _)
            rintro e w1 ⟨rfl, rfl⟩
            go_wp2
            go_ret
            exact ⟨congrArg (fun x : Int => Ending.returned (Value.int .i64 x)) HR.out.symm, by rw [hNN]; exact HWB.out⟩
          · have g5 : decide (0 < m.entry) = false := by simpa using n1
            have HR : Hid (chkM [] m = 0) := Lib.hid (by
              rw [HC3.out, if_neg (by rw [HEn.out]; simp only [decide_eq_true_eq]; omega)])
            clear k1 n0 n1
            go_enter Tryd.func40, Tryd.ntmps40
            go_upto_region 1 with fail
            generalize w.alloc (.cells #[.string ⟨m.name.toArray⟩, .int .i64 m.kind, .int .i64 m.width, .int .i64 m.entry, .slice sA m.data.length sc] 41) = W at *
            generalize hNN : w.heap.size = N at *
            have HWB := Lib.hid hW
            have x0 : W.cell? ⟨N, 0, none⟩ = some (.string ⟨m.name.toArray⟩) := by rw [Lib.cell_of_heap hbx]; rfl
            have x1 : W.cell? ⟨N, 1, none⟩ = some (.int .i64 m.kind) := by rw [Lib.cell_of_heap hbx]; rfl
            have x2 : W.cell? ⟨N, 2, none⟩ = some (.int .i64 m.width) := by rw [Lib.cell_of_heap hbx]; rfl
            have x3 : W.cell? ⟨N, 3, none⟩ = some (.int .i64 m.entry) := by rw [Lib.cell_of_heap hbx]; rfl
            have x4 : W.cell? ⟨N, 4, none⟩ = some (.slice sA m.data.length sc) := by rw [Lib.cell_of_heap hbx]; rfl
            clear hbx hW
            go_wp2_with fail
            go_fit (HN.out _)
            rintro e w1 ⟨rfl, rfl⟩
            go_wp2_with fail
            go_fit (HH.out _)
            rintro e w1 ⟨rfl, rfl⟩
            go_wp2
            go_ret
            exact ⟨congrArg (fun x : Int => Ending.returned (Value.int .i64 x)) HR.out.symm, by rw [hNN]; exact HWB.out⟩
end Go.Proofs.YtcenonnccodfoaaDoor
