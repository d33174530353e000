/-
  Two programs' texts, one behind the other, are assembled as one program. Plain mathematics.
  Conditions: as each theorem says.
  Encoding and decoding are inverse, plain.
  Conditions: as each theorem says.
  isa.Disassemble, at a valid program: the walk.
  Conditions: the tables lie as the program's start lays them.
-/
import Derived.Test.YtahhmgoffdggpaaGreatDoorMb30
import Derived.Test.YtahhmgoffdggpaaGreatDoorMb25
import Derived.Test.YtahhmgoffdggpaaGreatDoorMb27
namespace Go.Proofs.YtahhmgoffdggpaaGreatDoor

open Go.RowKit Go.Shelf

/-- An instruction, its target moved by n. -/
def shI (n : Nat) (x : GIns) : GIns := if (fmtN x.op.toNat).2.2 = 2 then { x with imm := x.imm + n } else x
theorem shI_op (n : Nat) (x : GIns) : (shI n x).op = x.op := by unfold shI; split <;> rfl
def nmC (n : Nat) (pf : List UInt8) (i : Nat) : List UInt8 := if i < n then nmW i else pf ++ nmW (i - n)
def tgC (ps qs : List GIns) (i : Nat) : Bool := if i < ps.length then tgt ps i else tgt qs (i - ps.length)
theorem progB_app {dfn use : Nat → List UInt8} {tg : Nat → Bool} : ∀ (xs ys : List GIns) (i : Nat), progB dfn use tg i (xs ++ ys) = progB dfn use tg i xs ++ progB dfn use tg (i + xs.length) ys
  | [], ys, i => rfl
  | x :: xs, ys, i => by
    rw [List.cons_append, progB, progB, progB_app xs ys (i + 1), List.append_assoc, List.length_cons, show i + 1 + xs.length = i + (xs.length + 1) by omega]
theorem inst_congr {u1 u2 : Nat → List UInt8} (x : GIns) (h : (fmtN x.op.toNat).2.2 = 2 → u1 x.imm.toNat = u2 x.imm.toNat) : instB u1 x = instB u2 x := by
  unfold instB lastB
  by_cases h2 : (fmtN x.op.toNat).2.2 = 2
  · simp [h2, h h2]
  · simp [h2]
theorem cat_left {n N : Nat} {tg : Nat → Bool} {tg' : Nat → Bool} (pf : List UInt8) (ht : ∀ i, i < n → tg i = tg' i) : ∀ (xs : List GIns) (i : Nat), AllOk n xs → i + xs.length ≤ n → progB (nmC n pf) (nmC n pf) tg i xs = progB nmW nmW tg' i xs
  | [], i, _, _ => rfl
  | x :: xs, i, h, hn => by
    obtain ⟨k, hk, hx⟩ := h x List.mem_cons_self
    have hop : x.op.toNat = k := by rw [hx.op]; rfl
    simp only [List.length_cons] at hn
    rw [progB, progB, cat_left (N := N) pf ht xs (i + 1) (fun y hy => h y (List.mem_cons_of_mem _ hy)) (by omega)]
    congr 1
    unfold lineB
    rw [ht i (by omega), inst_congr (u1 := nmC n pf) (u2 := nmW) x (fun h2 => by
      have := hx.tg (by rw [← hop]; exact h2)
      unfold nmC; rw [if_pos (by omega)])]
    congr 2
    unfold nmC; rw [if_pos (by omega)]
theorem inst_shift {n k m : Nat} (pf : List UInt8) {x : GIns} (hx : InsOk k m x) : instB (nmC n pf) (shI n x) = instB (fun i => pf ++ nmW i) x := by
  have hop : x.op.toNat = k := by rw [hx.op]; rfl
  by_cases h2 : (fmtN x.op.toNat).2.2 = 2
  · have h0 := hx.tg (by rw [← hop]; exact h2)
    have e : shI n x = { x with imm := x.imm + n } := by unfold shI; rw [if_pos h2]
    rw [e]
    have e2 : (x.imm + (n : Int)).toNat = n + x.imm.toNat := by omega
    unfold instB lastB regsN
    simp only [h2]
    have e3 : nmC n pf (n + x.imm.toNat) = pf ++ nmW x.imm.toNat := by unfold nmC; rw [if_neg (by omega), show n + x.imm.toNat - n = x.imm.toNat by omega]
    simp [e2, e3]
  · have e : shI n x = x := by unfold shI; rw [if_neg h2]
    rw [e]
    exact inst_congr x fun h => absurd h h2
theorem cat_right {n m : Nat} {tg tg' : Nat → Bool} (pf : List UInt8) (ht : ∀ i, tg (n + i) = tg' i) : ∀ (xs : List GIns) (i : Nat), AllOk m xs → progB (nmC n pf) (nmC n pf) tg (n + i) (xs.map (shI n)) = progB (fun i => pf ++ nmW i) (fun i => pf ++ nmW i) tg' i xs
  | [], i, _ => rfl
  | x :: xs, i, h => by
    obtain ⟨k, hk, hx⟩ := h x List.mem_cons_self
    rw [List.map_cons, progB, progB, show n + i + 1 = n + (i + 1) by omega, cat_right pf ht xs (i + 1) (fun y hy => h y (List.mem_cons_of_mem _ hy))]
    congr 1
    unfold lineB
    rw [ht i, inst_shift pf hx]
    have e3 : nmC n pf (n + i) = pf ++ nmW i := by unfold nmC; rw [if_neg (by omega), show n + i - n = i by omega]
    rw [e3]
theorem InsOk.more {k n N : Nat} {x : GIns} (h : InsOk k n x) (hn : n ≤ N) : InsOk k N x := ⟨h.op, h.a, h.b, h.c, h.un, fun h2 => by have := h.tg h2; omega, h.lo, h.hi⟩
theorem InsOk.shift {k m n : Nat} {x : GIns} (h : InsOk k m x) (hs : n + m ≤ 4096) : InsOk k (n + m) (shI n x) := by
  have hop : x.op.toNat = k := by rw [h.op]; rfl
  by_cases h2 : (fmtN x.op.toNat).2.2 = 2
  · have e : shI n x = { x with imm := x.imm + n } := by unfold shI; rw [if_pos h2]
    rw [hop] at h2
    have h0 := h.tg h2
    rw [e]
    exact ⟨h.op, h.a, h.b, h.c, fun h3 => by omega, fun _ => ⟨by show 0 ≤ x.imm + (n : Int); omega, by show x.imm + (n : Int) < ((n + m : Nat) : Int); omega⟩, by show -2147483648 ≤ x.imm + (n : Int); omega, by show x.imm + (n : Int) ≤ 2147483647; omega⟩
  · have e : shI n x = x := by unfold shI; rw [if_neg h2]
    rw [e]
    exact h.more (by omega)
/-- The second prefix. -/
def secW : List UInt8 := [115, 101, 99, 111, 110, 100]
theorem cat_ok {ps qs : List GIns} (hp : AllOk ps.length ps) (hq : AllOk qs.length qs) (h1 : 1 ≤ ps.length) (h2 : ps.length ≤ 12) (h3 : 1 ≤ qs.length) (h4 : qs.length ≤ 12) {T U : List GTok} (hT : T.map GTok.bare = progB nmW nmW (tgt qs) 0 qs) (hU : U.map GTok.bare = (T.map GTok.bare).map (renB secW)) :
    (∃ s, asmAll (disF ps ps.length ++ fmtL U) = .ok () s ∧ s.prog = ps ++ qs.map (shI ps.length)) ∧ (disF ps ps.length).length ≤ 1728 ∧ (fmtL U).length ≤ 18400 ∧ Few U := by
  rw [hT, prog_ren secW qs 0 hq] at hU
  have hw : ∀ i, i < qs.length → wordB (secW ++ nmW i) = true ∧ (secW ++ nmW i).length ≤ 45 := fun i hi => by
    obtain ⟨w1, w2⟩ := nm_word i (by omega)
    exact ⟨word_app (by decide) w1, by rw [List.length_append]; simp [secW]; omega⟩
  have hf := progB_few (dfn := fun i => secW ++ nmW i) (use := fun i => secW ++ nmW i) (tg := tgt qs) qs 0
  have hok := ok_prog (n := qs.length) (N := qs.length) (tg := tgt qs) hw hw qs 0 hq (by omega)
  rw [← hU] at hok hf
  rw [List.length_map] at hf
  have hwf := bok_wf hok
  have htx := bok_tx hok
  have hfm : fmtL U = joinT U := by
    unfold fmtL
    rw [if_pos (List.all_eq_true.2 fun t ht => (hwf t ht).1)]
  have hlen := join_len9 U fun t h => (htx t h).1
  have hld := disF_len ps hp.imm (by omega) ps.length (Nat.le_refl _)
  refine ⟨?_, by omega, by rw [hfm]; omega, by omega, fun t h => ⟨by have := (htx t h).2; omega, (hwf t h).2⟩⟩
  have hlex := disF_lex hp (by omega) ps.length (Nat.le_refl _)
  rw [List.take_length] at hlex
  obtain ⟨q, us, e, hb⟩ := hlex (joinT U) trivial (1, 1)
  obtain ⟨vs, e2, hb2⟩ := lex_join U hwf q
  have hsc : scan (disF ps ps.length ++ joinT U) = .ok (us ++ vs) := by
    unfold scan
    rw [if_neg (by rw [List.length_append]; omega), e, e2]
    rfl
  have hbare : ((us ++ vs).map Tok.g ++ [endTok (disF ps ps.length ++ joinT U)]).map GTok.bare = progB (nmC ps.length secW) (nmC ps.length secW) (tgC ps qs) 0 (ps ++ qs.map (shI ps.length)) ++ [eB] := by
    unfold bareEq at hb2
    rw [progB_app, cat_left (N := 0) (tg' := tgt ps) secW (fun i hi => by unfold tgC; rw [if_pos hi]) ps 0 hp (by omega), show 0 + ps.length = ps.length + 0 by omega,
      cat_right (m := qs.length) (tg' := tgt qs) secW (fun i => by unfold tgC; rw [if_neg (by omega), show ps.length + i - ps.length = i by omega]) qs 0 hq, ← hU, ← hb2, ← hb]
    rw [List.map_append, List.map_map, List.map_append]
    rfl
  rw [hfm]
  unfold asmAll
  rw [hsc]
  have hlc : (ps ++ qs.map (shI ps.length)).length = ps.length + qs.length := by rw [List.length_append, List.length_map]
  refine all_prog (nm := nmC ps.length secW) (tg := tgC ps qs) (by rw [hlc]; omega) (by rw [hlc]; omega) ?_ ?_ ?_ ?_ hbare
  · intro x hx
    rw [hlc]
    rcases List.mem_append.1 hx with h | h
    · obtain ⟨k, hk, h5⟩ := hp x h
      exact ⟨k, hk, h5.more (by omega)⟩
    · obtain ⟨y, hy, rfl⟩ := List.mem_map.1 h
      obtain ⟨k, hk, h5⟩ := hq y hy
      exact ⟨k, hk, h5.shift (by omega)⟩
  · intro a b ha hb' hab
    rw [hlc] at ha hb'
    unfold nmC at hab
    split at hab
    · split at hab
      · exact nm_inj (by omega) (by omega) hab
      · simp [nmW, labW, secW] at hab
    · split at hab
      · simp [nmW, labW, secW] at hab
      · have := nm_inj (by omega) (by omega) (List.append_cancel_left hab)
        omega
  · intro a _
    refine has_noreg ?_
    unfold nmC
    split <;> simp [nmW, labW]
  · intro x hx hf2
    rcases List.mem_append.1 hx with h | h
    · obtain ⟨k, hk, h5⟩ := hp x h
      have hop : x.op.toNat = k := by rw [h5.op]; rfl
      have := h5.tg (by rw [← hop]; exact hf2)
      unfold tgC
      rw [if_pos (by omega)]
      exact tgt_mem hp x h hf2
    · obtain ⟨y, hy, rfl⟩ := List.mem_map.1 h
      rw [shI_op] at hf2
      obtain ⟨k, hk, h5⟩ := hq y hy
      have hop : y.op.toNat = k := by rw [h5.op]; rfl
      have h6 := h5.tg (by rw [← hop]; exact hf2)
      have e9 : (shI ps.length y).imm = y.imm + ps.length := by unfold shI; rw [if_pos hf2]
      unfold tgC
      rw [e9, if_neg (by omega), show (y.imm + (ps.length : Int)).toNat - ps.length = y.imm.toNat by omega]
      exact tgt_mem hq y hy hf2
end Go.Proofs.YtahhmgoffdggpaaGreatDoor


namespace Go.Proofs.YtahhmgoffdggpaaGreatDoor

open Go.RowKit

theorem bt_left {a b : List UInt8} {j : Nat} (h : j < a.length) : bt (a ++ b) j = bt a j := by
  unfold bt; rw [List.getD_eq_getElem?_getD, List.getD_eq_getElem?_getD, List.getElem?_append_left h]
theorem bt_right {a b : List UInt8} {j : Nat} : bt (a ++ b) (a.length + j) = bt b j := by
  unfold bt; rw [List.getD_eq_getElem?_getD, List.getD_eq_getElem?_getD, List.getElem?_append_right (by omega), Nat.add_sub_cancel_left]
theorem bt_enc : ∀ (ps : List GIns) (i j : Nat) (h : i < ps.length), j < 8 → bt (encL ps) (8 * i + j) = bt (encB ps[i]) j
  | [], i, j, h, _ => by simp at h
  | x :: r, 0, j, h, hj => by
    show bt (encB x ++ encL r) (8 * 0 + j) = _
    rw [Nat.mul_zero, Nat.zero_add, bt_left (by rw [length_encB]; exact hj)]; rfl
  | x :: r, i + 1, j, h, hj => by
    show bt (encB x ++ encL r) (8 * (i + 1) + j) = _
    have e : 8 * (i + 1) + j = (encB x).length + (8 * i + j) := by rw [length_encB]; omega
    rw [e, bt_right, bt_enc r i j (by simpa using h) hj]
    rfl
theorem leUp_cong {l m : List UInt8} {o p : Nat} : ∀ k, (∀ j < k, bt l (o + j) = bt m (p + j)) → leUp l o k = leUp m p k
  | 0, _ => rfl
  | k + 1, h => by
    show leUp l o k + bt l (o + k) * 256 ^ k = leUp m p k + bt m (p + k) * 256 ^ k
    rw [leUp_cong k (fun j hj => h j (by omega)), h k (by omega)]
theorem bt_b4 {x : GIns} (h : ByteOk x) : ((bt (encB x) 0 : Nat) : Int) = x.op ∧ ((bt (encB x) 1 : Nat) : Int) = x.a ∧ ((bt (encB x) 2 : Nat) : Int) = x.b ∧ ((bt (encB x) 3 : Nat) : Int) = x.c :=
  ⟨(byte_ok h.op).2, (byte_ok h.a).2, (byte_ok h.b).2, (byte_ok h.c).2⟩
theorem up_leB (v : Nat) (h : v < 4294967296) : leUp (leB v 4) 0 4 = v := by
  simp only [leB, leUp, bt, Nat.zero_add]
  simp
  omega
theorem up_enc {x : GIns} : leUp (encB x) 4 4 = u32N x.imm := by
  have h : u32N x.imm < 4294967296 := by unfold u32N; omega
  rw [← up_leB _ h]
  refine leUp_cong 4 fun j hj => ?_
  have e : 4 + j = (b4 x).length + j := rfl
  unfold encB
  rw [e, bt_right, Nat.zero_add]
theorem wrap_u32N {v : Int} (h : -2147483648 ≤ v ∧ v ≤ 2147483647) : IntKind.i32.wrap (u32N v : Nat) = v := by
  rw [IntKind.wrap_i32]; unfold u32N; omega
theorem dec_enc (ps : List GIns) (hn : ps.length ≤ 4096) (hb : ∀ x ∈ ps, ByteOk x) (hi : ∀ x ∈ ps, ImmOk x) : decP (encL ps) = ps := by
  have hl := length_encL ps
  have hN : decN (encL ps) = ps.length := by unfold decN; rw [hl]; omega
  refine List.ext_getElem (by rw [decP_len, hN]) fun i h1 h2 => ?_
  rw [decP_get]
  obtain ⟨c0, c1, c2, c3⟩ := bt_b4 (hb _ (List.getElem_mem h2))
  have e0 := bt_enc ps i 0 h2 (by omega)
  have e1 := bt_enc ps i 1 h2 (by omega)
  have e2 := bt_enc ps i 2 h2 (by omega)
  have e3 := bt_enc ps i 3 h2 (by omega)
  have e4 : uintV (encL ps) ((8 * i + 4 : Nat) : Int) 4 = u32N ps[i].imm := by
    unfold uintV
    rw [if_neg (by rw [hl]; omega), Int.toNat_natCast, ← up_enc]
    refine leUp_cong 4 fun j hj => ?_
    rw [show 8 * i + 4 + j = 8 * i + (4 + j) by omega]
    exact bt_enc ps i (4 + j) h2 (by omega)
  have h5 := wrap_u32N (hi _ (List.getElem_mem h2))
  unfold decI
  rw [Nat.add_zero] at e0
  rw [e0, e1, e2, e3, e4, c0, c1, c2, c3, h5]
theorem u32N_wrap {u : Nat} (h : u < 4294967296) : u32N (IntKind.i32.wrap (u : Nat)) = u := by
  rw [IntKind.wrap_i32]; unfold u32N; omega
theorem leB_digits {a b c d : Nat} (h0 : a < 256) (h1 : b < 256) (h2 : c < 256) (h3 : d < 256) : bt (leB (a + b * 256 + c * 65536 + d * 16777216) 4) 0 = a ∧ bt (leB (a + b * 256 + c * 65536 + d * 16777216) 4) 1 = b ∧ bt (leB (a + b * 256 + c * 65536 + d * 16777216) 4) 2 = c ∧ bt (leB (a + b * 256 + c * 65536 + d * 16777216) 4) 3 = d := by
  refine ⟨?_, ?_, ?_, ?_⟩
  · show (UInt8.ofNat ((a + b * 256 + c * 65536 + d * 16777216) / 256 ^ 0 % 256)).toNat = a
    rw [UInt8.toNat_ofNat']; omega
  · show (UInt8.ofNat ((a + b * 256 + c * 65536 + d * 16777216) / 256 ^ 1 % 256)).toNat = b
    rw [UInt8.toNat_ofNat']; omega
  · show (UInt8.ofNat ((a + b * 256 + c * 65536 + d * 16777216) / 256 ^ 2 % 256)).toNat = c
    rw [UInt8.toNat_ofNat']; omega
  · show (UInt8.ofNat ((a + b * 256 + c * 65536 + d * 16777216) / 256 ^ 3 % 256)).toNat = d
    rw [UInt8.toNat_ofNat']; omega
theorem leB_leUp (l : List UInt8) (o : Nat) : ∀ j, j < 4 → bt (leB (leUp l o 4) 4) j = bt l (o + j) := by
  have e : leUp l o 4 = bt l o + bt l (o + 1) * 256 + bt l (o + 2) * 65536 + bt l (o + 3) * 16777216 := by simp [leUp]
  obtain ⟨d0, d1, d2, d3⟩ := leB_digits (bt_lt l o) (bt_lt l (o + 1)) (bt_lt l (o + 2)) (bt_lt l (o + 3))
  rw [e]
  intro j hj
  rcases (by omega : j = 0 ∨ j = 1 ∨ j = 2 ∨ j = 3) with rfl | rfl | rfl | rfl
  · exact d0
  · exact d1
  · exact d2
  · exact d3
theorem encB_dec (l : List UInt8) (i : Nat) (h : 8 * i + 8 ≤ l.length) : ∀ j, j < 8 → bt (encB (decI l i)) j = bt l (8 * i + j) := by
  intro j hj
  have hu : uintV l ((8 * i + 4 : Nat) : Int) 4 = leUp l (8 * i + 4) 4 := by
    unfold uintV
    rw [if_neg (by omega), Int.toNat_natCast]
  rcases Nat.lt_or_ge j 4 with h4 | h4
  · unfold encB
    rw [bt_left (by show j < 4; exact h4)]
    have hb : ∀ m, (UInt8.ofNat ((bt l m : Nat) : Int).toNat).toNat = bt l m := fun m => by
      have := bt_lt l m
      rw [Int.toNat_natCast, UInt8.toNat_ofNat']; omega
    rcases (by omega : j = 0 ∨ j = 1 ∨ j = 2 ∨ j = 3) with rfl | rfl | rfl | rfl
    · exact hb (8 * i)
    · exact hb (8 * i + 1)
    · exact hb (8 * i + 2)
    · exact hb (8 * i + 3)
  · unfold encB
    have e : j = (b4 (decI l i)).length + (j - 4) := by show j = 4 + (j - 4); omega
    rw [e, bt_right]
    have hl4 : (b4 (decI l i)).length = 4 := rfl
    show bt (leB (u32N (IntKind.i32.wrap (uintV l ((8 * i + 4 : Nat) : Int) 4 : Nat))) 4) (j - 4) = _
    rw [hu, u32N_wrap (by have := leUp_lt l (8 * i + 4) 4; omega), leB_leUp l (8 * i + 4) (j - 4) (by omega), hl4]
    congr 1; omega
theorem enc_dec (l : List UInt8) (hm : l.length % 8 = 0) (hn : l.length / 8 ≤ 4096) : encL (decP l) = l := by
  have hN : decN l = l.length / 8 := by unfold decN; omega
  have hl : (encL (decP l)).length = l.length := by rw [length_encL, decP_len, hN]; omega
  refine List.ext_getElem hl fun m h1 h2 => ?_
  have hi : m / 8 < (decP l).length := by rw [decP_len, hN]; omega
  have e1 := bt_enc (decP l) (m / 8) (m % 8) hi (by omega)
  rw [decP_get, encB_dec l (m / 8) (by omega) (m % 8) (by omega), show 8 * (m / 8) + m % 8 = m by omega] at e1
  unfold bt at e1
  rw [List.getD_eq_getElem?_getD, List.getD_eq_getElem?_getD, List.getElem?_eq_getElem h1, List.getElem?_eq_getElem h2] at e1
  exact UInt8.toNat_inj.1 e1
end Go.Proofs.YtahhmgoffdggpaaGreatDoor


namespace Go.Proofs.YtahhmgoffdggpaaGreatDoor

open Go.RowKit Go.Shelf

/-- The builder and the instruction copied before it stand asx they were after a string is written. -/
theorem kept_ins {N X : Nat} {w w' : World} {cs : Array Value} (hX : w.heap[X]? = some (.cells cs 40 (0, 0))) (hk : Kept N w w') (hne : X ≠ N) : w'.heap[X]? = some (.cells cs 40 (0, 0)) :=
  hk X _ hX (by simp; omega) (by rintro c fz he; cases he)
theorem bld_lt {w : World} {N : Nat} {l : List UInt8} (h : Bld w N N l) : N < w.heap.size := by
  rcases h with ⟨_, v, hb, _⟩ | ⟨_, v, hb, _⟩
  all_goals
    rcases Nat.lt_or_ge N w.heap.size with h' | h'
    · exact h'
    · simp [Array.getElem?_eq_none h'] at hb
set_option maxRecDepth 50000 in
set_option maxHeartbeats 2000000 in
theorem dis_any (ps : List GIns) (A : Option Addr) (c : Nat) (w : World) (hG : GlobF w) (hP : Pow w) (h : GRow GIns.cells 5 w w.heap.size A ps) (hi : ∀ x ∈ ps, ImmOk x) (hv : valP ps = 0) :
    Calls Tryz.prog 13 #[.slice A ps.length c] w fun e w' => e = .returned (.string ⟨(disF ps ps.length).toArray⟩) ∧ Below w.heap.size w w' := by
  have HVA := Lib.hid (validate_any ps A c w hG h hi)
  rw [hv] at HVA
  obtain ⟨hn1, hn0, hvl⟩ : ps.length ≤ 4096 ∧ 1 ≤ ps.length ∧ valL ps.length ps = 0 := by
    unfold valP at hv
    by_cases h0 : ps.length = 0 ∨ 4096 < ps.length
    · rw [if_pos h0] at hv; omega
    · rw [if_neg h0] at hv; exact ⟨by omega, by omega, hv⟩
  have HZ := Lib.hid (valL_zero hvl)
  have HTG := Lib.hid fun W (hW : Below w.heap.size w W) => targets_any ps A c W (hG.next hW) (h.next hW) hi hn1 (fun x hx => ins_valid (HZ.out x hx))
  have HG := Lib.hid hG
  have HPW := Lib.hid hP
  have HR := Lib.hid h
  have HI := Lib.hid hi
  have HDL := Lib.hid (disF_len ps hi hn1)
  clear hG hP h hi hv hvl
  go_enter Tryz.func13, Tryz.ntmps13
  go_wp2_with fail
  go_fit HVA.out
  rintro e w1 ⟨rfl, hb1⟩
  have HT1 := Lib.hid (HTG.out w1 hb1)
  have HB1 := Lib.hid hb1
  clear HVA HTG hb1
  go_wp2_with fail
  go_fit HT1.out
  rintro e w2 ⟨rfl, htb, hb2⟩
  have HTB := Lib.hid htb
  have HB2 := Lib.hid (bel_next HB1.out hb2)
  have hgg : w1.heap.size < w2.heap.size := by
    obtain ⟨cur, c1, _, _⟩ := htb
    rcases Nat.lt_or_ge w1.heap.size w2.heap.size with h | h
    · exact h
    · rw [Array.getElem?_eq_none h] at c1; cases c1
  clear htb hb2 HT1
  have HBD0 : Hid (Bld (w2.alloc (.cells #[.pointer none, .slice none 0 0] 57)) w2.heap.size w2.heap.size (disF ps 0)) := Lib.hid (bld_new w2)
  have HBW0 : Hid (Below w2.heap.size w2 (w2.alloc (.cells #[.pointer none, .slice none 0 0] 57))) := Lib.hid (bel_lit (Below.refl _ w2) _)
  have hz3 : (w2.alloc (.cells #[.pointer none, .slice none 0 0] 57)).heap.size = w2.heap.size + 1 := by simp
  go_wp2
  generalize w2.alloc (.cells #[.pointer none, .slice none 0 0] 57) = w3 at *
  go_loopw [15] (fun vi wr => ∃ k : Nat, vi = .int .i64 k ∧ k ≤ ps.length ∧ Hid (Bld wr w2.heap.size w2.heap.size (disF ps k)) ∧ Hid (Below w2.heap.size w2 wr) ∧ w2.heap.size < wr.heap.size) (fun vi _ => ps.length - (intOf vi).toNat)
  case atStart => exact ⟨0, rfl, by omega, HBD0, HBW0, by omega⟩
  case round =>
    obtain ⟨k, rfl, hk, HBD, HBW, hwr⟩ := hrel
    clear HBD0 HBW0 hz3
    rcases Nat.lt_or_ge k ps.length with hlt | hge
    · have f0 : decide ((k : Int) < ps.length) = true := by simp; omega
      have HWW := Lib.hid (HB2.out.trans (HBW.out.mono HB2.out.size))
      obtain ⟨b, off, rfl, hb, x0, x1, x2, x3, x4⟩ := (HR.out.keep (w' := wr) (fun g hg => HWW.out.block g hg)).ins hlt
      have hs := HWW.out.size
      have hbw : b < wr.heap.size := by omega
      have HTX : Hid (wr.cell? ⟨w1.heap.size, k, none⟩ = some (.bool (tgt ps k))) := Lib.hid (by
        obtain ⟨cur, c1, c2, c3⟩ := HTB.out
        rw [Lib.cell_of_heap ((HBW.out.block _ hgg).trans c1)]; exact c3 k hlt)
      have HSX := Lib.hid (disF_succ ps k hlt)
      have HIX := Lib.hid (HI.out _ (List.getElem_mem hlt))
      have HRX := Lib.hid (ins_regs (HZ.out _ (List.getElem_mem hlt)))
      have HVX := Lib.hid (ins_valid (HZ.out _ (List.getElem_mem hlt)))
      have HDK := Lib.hid (HDL.out k (by omega))
      generalize ps[k] = x at *
      have y0 := HTX.out
      have HPD : Hid (preD ps k = if tgt ps k = true then labW k ++ [58, 32] else []) := Lib.hid rfl
      generalize tgt ps k = tk at *
      generalize disF ps k = dk at *
      obtain ⟨xo, xa, xb, xc, xi⟩ := x
      simp only at x0 x1 x2 x3 x4
      obtain ⟨hop1, hop2⟩ := HVX.out.op
      obtain ⟨ha0, ha1, hb0, hb1, hc0, hc1⟩ := HRX.out.regs
      simp only at hop1 hop2 ha0 ha1 hb0 hb1 hc0 hc1
      obtain ⟨q, rfl⟩ : ∃ q : Nat, xo = q := ⟨xo.toNat, by omega⟩
      obtain ⟨xan, rfl⟩ : ∃ q : Nat, xa = q := ⟨xa.toNat, by omega⟩
      obtain ⟨xbn, rfl⟩ : ∃ q : Nat, xb = q := ⟨xb.toNat, by omega⟩
      obtain ⟨xcn, rfl⟩ : ∃ q : Nat, xc = q := ⟨xc.toNat, by omega⟩
      have hq : q < 28 := by omega
      have h1 : xan < 16 := by omega
      have h2 : xbn < 16 := by omega
      have h3 : xcn < 16 := by omega
      have HOS := Lib.hid (opW_short _ HIX.out)
      have HLN : Hid (insD ⟨q, xan, xbn, xcn, xi⟩ = (fmtN q).1 ++ ((if 0 < (opW ⟨q, xan, xbn, xcn, xi⟩).length then 32 :: joinW (opW ⟨q, xan, xbn, xcn, xi⟩) else []) ++ [59, 10])) := Lib.hid rfl
      have hdk := HDK.out
      have hdk9 : dk.length ≤ 600000 := by omega
      clear hdk ha0 ha1 hb0 hb1 hc0 hc1 hop1 hop2 HRX HVX HDK HZ HDL
      have HXX : Hid ((wr.alloc (.cells #[.int .i64 (q : Int), .int .i64 (xan : Int), .int .i64 (xbn : Int), .int .i64 (xcn : Int), .int .i32 xi] 40)).heap[wr.heap.size]? = some (.cells #[.int .i64 (q : Int), .int .i64 (xan : Int), .int .i64 (xbn : Int), .int .i64 (xcn : Int), .int .i32 xi] 40 (0, 0))) := Lib.hid (heap_alloc_new wr _)
      have HBA := Lib.hid (HBD.out.alloc (.cells #[.int .i64 (q : Int), .int .i64 (xan : Int), .int .i64 (xbn : Int), .int .i64 (xcn : Int), .int .i32 xi] 40))
      have HWA : Hid (Below w2.heap.size w2 (wr.alloc (.cells #[.int .i64 (q : Int), .int .i64 (xan : Int), .int .i64 (xbn : Int), .int .i64 (xcn : Int), .int .i32 xi] 40))) := Lib.hid (HBW.out.alloc HBW.out.size _)
      have hza : (wr.alloc (.cells #[.int .i64 (q : Int), .int .i64 (xan : Int), .int .i64 (xbn : Int), .int .i64 (xcn : Int), .int .i32 xi] 40)).heap.size = wr.heap.size + 1 := by simp
      have hgw1 : w1.heap.size < wr.heap.size := by omega
      cases tk
      · rw [if_neg (by simp)] at HPD
        rw [HPD.out, List.nil_append] at HSX
        have HB5 := HBA
        have HX5 := HXX
        have HW5 := HWA
        have hs5 : dk.length ≤ 600000 := hdk9
        clear HPD HBD HBW HBA HXX HWA
        go_upto_region 10 with fail
        generalize wr.alloc (.cells #[.int .i64 (q : Int), .int .i64 (xan : Int), .int .i64 (xbn : Int), .int .i64 (xcn : Int), .int .i32 xi] 40) = w5 at *
        have HWB5 := Lib.hid (HB2.out.trans (HW5.out.mono HB2.out.size))
        obtain ⟨q0, _, _⟩ := (HG.out.next HWB5.out).2 q hq
        have hgl5 := (HG.out.next HWB5.out).1
        have j0 : w5.cell? ⟨wr.heap.size, 0, none⟩ = some (.int .i64 q) := by rw [Lib.cell_of_heap HX5.out]; rfl
        have hxl5 : wr.heap.size < w5.heap.size := World.block_lt_of_cell? _ ⟨wr.heap.size, 0, none⟩ j0
        have HST5 := Lib.hid (bld_str w2.heap.size w2.heap.size dk (fmtN q).1 w5 HB5.out (by have := fmt_short q; omega) HW5.out.size)
        have hfl := fmt_short q
        have HF1 : Hid ((fmtN q).1 = (fmtN q).1) := Lib.hid rfl
        generalize (fmtN q).1 = fs at *
        clear HF1
        go_wp2_with fail
        go_fit HST5.out
        rintro e w6 ⟨rfl, hbd6, hb6, hk6⟩
        have HB6 := Lib.hid hbd6
        have HW6 := Lib.hid (HW5.out.trans hb6)
        have HX6 := Lib.hid (kept_ins HX5.out hk6 (by omega))
        have HWB6 := Lib.hid (HB2.out.trans (HW6.out.mono HB2.out.size))
        have HOP := Lib.hid (operandWords_any q xan xbn xcn xi w6 (HG.out.next HWB6.out) (HPW.out.next HWB6.out) hq h1 h2 h3 HIX.out)
        have i0 : w6.cell? ⟨wr.heap.size, 0, none⟩ = some (.int .i64 q) := by rw [Lib.cell_of_heap HX6.out]; rfl
        have i1 : w6.cell? ⟨wr.heap.size, 1, none⟩ = some (.int .i64 xan) := by rw [Lib.cell_of_heap HX6.out]; rfl
        have i2 : w6.cell? ⟨wr.heap.size, 2, none⟩ = some (.int .i64 xbn) := by rw [Lib.cell_of_heap HX6.out]; rfl
        have i3 : w6.cell? ⟨wr.heap.size, 3, none⟩ = some (.int .i64 xcn) := by rw [Lib.cell_of_heap HX6.out]; rfl
        have i4 : w6.cell? ⟨wr.heap.size, 4, none⟩ = some (.int .i32 xi) := by rw [Lib.cell_of_heap HX6.out]; rfl
        clear hbd6 hb6 hk6 HST5 q0 j0 HB5 HX5
        unfold GIns.val at HOP
        simp only at HOP
        go_wp2_with fail
        go_fit HOP.out
        rintro e w7 ⟨v, rfl, hown, hb7⟩
        obtain ⟨hop4, hop22⟩ := HOS.out
        obtain ⟨A7, cap7, rfl, hcap7, hcm7, _⟩ := hown.row encW_len
        have HB7 := Lib.hid (HB6.out.next hb7)
        have HW7 := Lib.hid (HW6.out.trans (hb7.mono HW6.out.size))
        have hjl := joinW_len _ hop22
        have HJ := Lib.hid fun hne => sjoin_any _ _ _ w7 hown hne (by omega) (by omega)
        clear hown hb7 HOP i0 i1 i2 i3 i4 HB6 hop22
        generalize opW ⟨q, xan, xbn, xcn, xi⟩ = ow at *
        generalize joinW ow = jw at *
        by_cases hw0 : 0 < ow.length
        · rw [if_pos hw0] at HLN
          have HJJ := Lib.hid (HJ.out hw0)
          have g0 : decide ((0 : Int) < ow.length) = true := decide_eq_true (by omega)
          have g1 : decide (0 < ow.length) = true := decide_eq_true (by omega)
          have hsj : (⟨jw.toArray⟩ : ByteArray).size = jw.length := by rw [ByteArray.size]; simp
          have hcj : (⟨#[32]⟩ ++ ⟨jw.toArray⟩ : ByteArray) = ⟨(32 :: jw).toArray⟩ := cons_cat 32 jw
          clear HJ hw0
          go_wp2_with fail
          go_fit HJJ.out
          rintro e w8 ⟨rfl, hb8⟩
          have HB8 := Lib.hid (HB7.out.next hb8)
          have HW8 := Lib.hid (HW7.out.trans (hb8.mono HW7.out.size))
          have HST8 := Lib.hid (bld_str w2.heap.size w2.heap.size _ (32 :: jw) w8 HB8.out (by simp; omega) HW8.out.size)
          clear hb8 HJJ HB7
          go_wp2_with fail
          go_fit HST8.out
          rintro e w9 ⟨rfl, hbd9, hb9, _⟩
          have HW9 := Lib.hid (HW8.out.trans hb9)
          have HST9 := Lib.hid (bld_str w2.heap.size w2.heap.size _ [59, 10] w9 hbd9 (by simp; omega) HW9.out.size)
          clear hbd9 hb9 HST8
          go_wp2_with fail
          go_fit HST9.out
          rintro e w10 ⟨rfl, hbd10, hb10, _⟩
          have HB10 : Hid (Bld w10 w2.heap.size w2.heap.size (disF ps (k + 1))) := Lib.hid (by rw [HSX.out, HLN.out]; simpa using hbd10)
          have HW10 := Lib.hid (HW9.out.trans hb10)
          have hz10 := HW10.out.size
          have hzz := HW9.out.size
          have hbb := hb10.size
          have hw10 : w2.heap.size < w10.heap.size := bld_lt HB10.out
          clear hbd10 hb10 HST9 HSX HLN
          go_wp2
          go_round
          case rel => exact ⟨k + 1, by go_num, by omega, HB10, HW10, hw10⟩
          case measure => simp [intOf]; omega
        · rw [if_neg hw0] at HLN
          have g0 : decide ((0 : Int) < ow.length) = false := decide_eq_false (by omega)
          have g1 : decide (0 < ow.length) = false := decide_eq_false (by omega)
          have HST9 := Lib.hid (bld_str w2.heap.size w2.heap.size _ [59, 10] w7 HB7.out (by simp; omega) HW7.out.size)
          clear HJ hw0
          go_wp2_with fail
          go_fit HST9.out
          rintro e w10 ⟨rfl, hbd10, hb10, _⟩
          have HB10 : Hid (Bld w10 w2.heap.size w2.heap.size (disF ps (k + 1))) := Lib.hid (by rw [HSX.out, HLN.out]; simpa using hbd10)
          have HW10 := Lib.hid (HW7.out.trans hb10)
          have hw10 : w2.heap.size < w10.heap.size := bld_lt HB10.out
          clear hbd10 hb10 HST9 HSX HLN
          go_wp2
          go_round
          case rel => exact ⟨k + 1, by go_num, by omega, HB10, HW10, hw10⟩
          case measure => simp [intOf]; omega
      · rw [if_pos rfl] at HPD
        rw [HPD.out] at HSX
        have HWBA := Lib.hid (HB2.out.trans (HWA.out.mono HB2.out.size))
        have HLW := Lib.hid (labelWord_any (k : Int) (by omega) (by omega) _ (HPW.out.next HWBA.out))
        have hll := Lib.itoa_length_le (k : Int) (by omega) (by omega)
        have hlw : (labW k).length ≤ 22 := by simp [labW]; omega
        clear hll HPD HBD HBW
        generalize labW k = lw at *
        have hsl : (⟨lw.toArray⟩ : ByteArray).size = lw.length := by rw [ByteArray.size]; simp
        have hcl : (⟨lw.toArray⟩ ++ ⟨#[58, 32]⟩ : ByteArray) = ⟨(lw ++ [58, 32]).toArray⟩ := by
          apply ByteArray.ext
          simp [ByteArray.data_append]
        go_wp2_with fail
        go_fit HLW.out
        rintro e w4 ⟨rfl, hb4⟩
        have HB4 := Lib.hid (HBA.out.next hb4)
        have HW4 := Lib.hid (HWA.out.trans (hb4.mono HWA.out.size))
        have HX4 := Lib.hid ((hb4.block wr.heap.size (by omega)).trans HXX.out)
        have HST4 := Lib.hid (bld_str w2.heap.size w2.heap.size _ (lw ++ [58, 32]) w4 HB4.out (by simp; omega) HW4.out.size)
        clear HLW hb4 HBA HWA HXX
        go_wp2_with fail
        go_fit HST4.out
        rintro e w5 ⟨rfl, hbd5, hb5, hk5⟩
        have HB5 := Lib.hid hbd5
        have HW5 := Lib.hid (HW4.out.trans hb5)
        have HX5 := Lib.hid (kept_ins HX4.out hk5 (by omega))
        have hs5 : (dk ++ (lw ++ [58, 32])).length ≤ 600100 := by simp; omega
        rw [← List.append_assoc] at HSX
        clear hbd5 hb5 hk5 HST4 HB4 HX4 HWBA
        generalize dk ++ (lw ++ [58, 32]) = l5 at *
        have HWB5 := Lib.hid (HB2.out.trans (HW5.out.mono HB2.out.size))
        obtain ⟨q0, _, _⟩ := (HG.out.next HWB5.out).2 q hq
        have hgl5 := (HG.out.next HWB5.out).1
        have j0 : w5.cell? ⟨wr.heap.size, 0, none⟩ = some (.int .i64 q) := by rw [Lib.cell_of_heap HX5.out]; rfl
        have hxl5 : wr.heap.size < w5.heap.size := World.block_lt_of_cell? _ ⟨wr.heap.size, 0, none⟩ j0
        have HST5 := Lib.hid (bld_str w2.heap.size w2.heap.size l5 (fmtN q).1 w5 HB5.out (by have := fmt_short q; omega) HW5.out.size)
        have hfl := fmt_short q
        have HF1 : Hid ((fmtN q).1 = (fmtN q).1) := Lib.hid rfl
        generalize (fmtN q).1 = fs at *
        clear HF1
        go_wp2_with fail
        go_fit HST5.out
        rintro e w6 ⟨rfl, hbd6, hb6, hk6⟩
        have HB6 := Lib.hid hbd6
        have HW6 := Lib.hid (HW5.out.trans hb6)
        have HX6 := Lib.hid (kept_ins HX5.out hk6 (by omega))
        have HWB6 := Lib.hid (HB2.out.trans (HW6.out.mono HB2.out.size))
        have HOP := Lib.hid (operandWords_any q xan xbn xcn xi w6 (HG.out.next HWB6.out) (HPW.out.next HWB6.out) hq h1 h2 h3 HIX.out)
        have i0 : w6.cell? ⟨wr.heap.size, 0, none⟩ = some (.int .i64 q) := by rw [Lib.cell_of_heap HX6.out]; rfl
        have i1 : w6.cell? ⟨wr.heap.size, 1, none⟩ = some (.int .i64 xan) := by rw [Lib.cell_of_heap HX6.out]; rfl
        have i2 : w6.cell? ⟨wr.heap.size, 2, none⟩ = some (.int .i64 xbn) := by rw [Lib.cell_of_heap HX6.out]; rfl
        have i3 : w6.cell? ⟨wr.heap.size, 3, none⟩ = some (.int .i64 xcn) := by rw [Lib.cell_of_heap HX6.out]; rfl
        have i4 : w6.cell? ⟨wr.heap.size, 4, none⟩ = some (.int .i32 xi) := by rw [Lib.cell_of_heap HX6.out]; rfl
        clear hbd6 hb6 hk6 HST5 q0 j0 HB5 HX5
        unfold GIns.val at HOP
        simp only at HOP
        go_wp2_with fail
        go_fit HOP.out
        rintro e w7 ⟨v, rfl, hown, hb7⟩
        obtain ⟨hop4, hop22⟩ := HOS.out
        obtain ⟨A7, cap7, rfl, hcap7, hcm7, _⟩ := hown.row encW_len
        have HB7 := Lib.hid (HB6.out.next hb7)
        have HW7 := Lib.hid (HW6.out.trans (hb7.mono HW6.out.size))
        have hjl := joinW_len _ hop22
        have HJ := Lib.hid fun hne => sjoin_any _ _ _ w7 hown hne (by omega) (by omega)
        clear hown hb7 HOP i0 i1 i2 i3 i4 HB6 hop22
        generalize opW ⟨q, xan, xbn, xcn, xi⟩ = ow at *
        generalize joinW ow = jw at *
        by_cases hw0 : 0 < ow.length
        · rw [if_pos hw0] at HLN
          have HJJ := Lib.hid (HJ.out hw0)
          have g0 : decide ((0 : Int) < ow.length) = true := decide_eq_true (by omega)
          have g1 : decide (0 < ow.length) = true := decide_eq_true (by omega)
          have hsj : (⟨jw.toArray⟩ : ByteArray).size = jw.length := by rw [ByteArray.size]; simp
          have hcj : (⟨#[32]⟩ ++ ⟨jw.toArray⟩ : ByteArray) = ⟨(32 :: jw).toArray⟩ := cons_cat 32 jw
          clear HJ hw0
          go_wp2_with fail
          go_fit HJJ.out
          rintro e w8 ⟨rfl, hb8⟩
          have HB8 := Lib.hid (HB7.out.next hb8)
          have HW8 := Lib.hid (HW7.out.trans (hb8.mono HW7.out.size))
          have HST8 := Lib.hid (bld_str w2.heap.size w2.heap.size _ (32 :: jw) w8 HB8.out (by simp; omega) HW8.out.size)
          clear hb8 HJJ HB7
          go_wp2_with fail
          go_fit HST8.out
          rintro e w9 ⟨rfl, hbd9, hb9, _⟩
          have HW9 := Lib.hid (HW8.out.trans hb9)
          have HST9 := Lib.hid (bld_str w2.heap.size w2.heap.size _ [59, 10] w9 hbd9 (by simp; omega) HW9.out.size)
          clear hbd9 hb9 HST8
          go_wp2_with fail
          go_fit HST9.out
          rintro e w10 ⟨rfl, hbd10, hb10, _⟩
          have HB10 : Hid (Bld w10 w2.heap.size w2.heap.size (disF ps (k + 1))) := Lib.hid (by rw [HSX.out, HLN.out]; simpa using hbd10)
          have HW10 := Lib.hid (HW9.out.trans hb10)
          have hz10 := HW10.out.size
          have hzz := HW9.out.size
          have hbb := hb10.size
          have hw10 : w2.heap.size < w10.heap.size := bld_lt HB10.out
          clear hbd10 hb10 HST9 HSX HLN
          go_wp2
          go_round
          case rel => exact ⟨k + 1, by go_num, by omega, HB10, HW10, hw10⟩
          case measure => simp [intOf]; omega
        · rw [if_neg hw0] at HLN
          have g0 : decide ((0 : Int) < ow.length) = false := decide_eq_false (by omega)
          have g1 : decide (0 < ow.length) = false := decide_eq_false (by omega)
          have HST9 := Lib.hid (bld_str w2.heap.size w2.heap.size _ [59, 10] w7 HB7.out (by simp; omega) HW7.out.size)
          clear HJ hw0
          go_wp2_with fail
          go_fit HST9.out
          rintro e w10 ⟨rfl, hbd10, hb10, _⟩
          have HB10 : Hid (Bld w10 w2.heap.size w2.heap.size (disF ps (k + 1))) := Lib.hid (by rw [HSX.out, HLN.out]; simpa using hbd10)
          have HW10 := Lib.hid (HW7.out.trans hb10)
          have hw10 : w2.heap.size < w10.heap.size := bld_lt HB10.out
          clear hbd10 hb10 HST9 HSX HLN
          go_wp2
          go_round
          case rel => exact ⟨k + 1, by go_num, by omega, HB10, HW10, hw10⟩
          case measure => simp [intOf]; omega
    · obtain rfl : k = ps.length := by omega
      have f0 : decide ((ps.length : Int) < ps.length) = false := by simp
      have HST := Lib.hid (bld_string w2.heap.size w2.heap.size _ wr HBD.out HBW.out.size)
      clear HBD
      go_wp2_with fail
      go_fit HST.out
      rintro e w9 ⟨rfl, hb9⟩
      have HB9 := Lib.hid (HB2.out.trans ((HBW.out.trans hb9).mono HB2.out.size))
      clear hb9
      go_wp2
      go_ret
      exact ⟨rfl, HB9.out⟩
end Go.Proofs.YtahhmgoffdggpaaGreatDoor
