/-
  The reference's Retype.
  Conditions: none.
-/
import Derived.Test.YtpjakfbjiioflaaCab
namespace Go.Proofs.Ytpjakfbjiioflaa

open Go.RowKit

def RC1 (s : GC) : Prop := vC s = true ∧ s.kind = 1
def RC3 (obj n lev wid off cnt : Int) : Prop := sizB obj n = true ∧ (obj = 3 → levB wid lev = true) ∧ 1 ≤ cnt ∧ cnt ≤ 8 ∧ 0 ≤ off
def RC4 (s : GC) (obj : Int) : Prop := s.device = true → obj = 1 ∨ obj = 2
def RC5 (s : GC) (obj n off cnt : Int) : Prop := off % pw n = 0 ∧ off ≤ pw s.bits ∧ cnt * pw n ≤ pw s.bits - off ∧ (obj = 1 → n < s.bits)
instance (s : GC) : Decidable (RC1 s) := by unfold RC1; infer_instance
instance (a b c d e f : Int) : Decidable (RC3 a b c d e f) := by unfold RC3; infer_instance
instance (s : GC) (o : Int) : Decidable (RC4 s o) := by unfold RC4; infer_instance
instance (s : GC) (a b c d : Int) : Decidable (RC5 s a b c d) := by unfold RC5; infer_instance
/-- The error of Retype; 0 if there is none. -/
def retErr (s : GC) (obj n lev wid off cnt : Int) : Int :=
  if RC1 s then (if bits .and .i64 s.rights 2 = 0 then 8 else if RC3 obj n lev wid off cnt then (if RC4 s obj then (if RC5 s obj n off cnt then 0 else 6) else 5) else 1) else 5
def retOne (s : GC) (obj n lev wid off : Int) (i : Nat) : GC := ⟨obj, s.base + off + (i : Int) * pw n, n, s.rights, if obj = 3 then wid else 0, if obj = 3 then lev else 0, s.device⟩
def retL (s : GC) (obj n lev wid off cnt : Int) : List GC := if retErr s obj n lev wid off cnt = 0 then (List.range cnt.toNat).map (retOne s obj n lev wid off) else []
abbrev OwnC (w : World) (base : Nat) (v : Value) (xs : List GC) : Prop := OwnG GC.cells 23 7 w base v xs
def RetEnd (q : Int) (l : List GC) (w : World) (e : Ending) (w' : World) : Prop := ∃ v, e = .returned (.tuple #[v, .int .i64 q]) ∧ OwnC w' w.heap.size v l ∧ Below w.heap.size w w'
theorem siz_bound {k n : Int} (h : sizB k n = true) : 6 ≤ n ∧ n ≤ 40 := by
  unfold sizB at h
  split at h
  · simp at h; omega
  · split at h
    · simp at h; omega
    · simp at h
      have := h.2
      unfold fixN at this
      split at this
      · omega
      · split at this
        · omega
        · split at this
          · omega
          · split at this <;> omega
theorem elt_cap : Elt 32 23 7 56 := Elt.of (.agg #[.int .i64 0, .int .i64 0, .int .i64 0, .int .i64 0, .int .i64 0, .int .i64 0, .bool false]) Try.underlying32 (by kernel_rfl) rfl (by decide)
theorem ret_bad {q : Int} {l : List GC} {w W : World} (hb : Below w.heap.size w W) {p : Int} (h : q = p) (hl : q ≠ 0 → l = []) (hp : p ≠ 0) : RetEnd q l w (.returned (.tuple #[.slice none 0 0, .int .i64 p])) W := by
  subst h
  rw [hl hp]
  exact ⟨_, rfl, OwnG.nil _ _, hb⟩
theorem lit_cap (w : World) (c : GC) : GRow GC.cells 7 (w.alloc (.cells #[.int .i64 c.kind, .int .i64 c.base, .int .i64 c.bits, .int .i64 c.rights, .int .i64 c.width, .int .i64 c.level, .bool c.device] 23)) (w.heap.size + 1) (some ⟨w.heap.size, 0, none⟩) [c] := by
  have h := (OwnG.lit GC.len w w.heap.size (T := 23) [c] #[.int .i64 c.kind, .int .i64 c.base, .int .i64 c.bits, .int .i64 c.rights, .int .i64 c.width, .int .i64 c.level, .bool c.device] rfl (Nat.le_refl _) (by unfold maxLen; simp)).row GC.len
  obtain ⟨A, c', e, _, _, hr⟩ := h
  cases e
  simpa using hr
theorem OwnG.base11 {w : World} {b b' : Nat} {v : Value} {l : List GC} (h : OwnC w b v l) (hb : b' ≤ b) : OwnC w b' v l := by
  refine ⟨h.1, ?_⟩
  rcases h.2 with hh | ⟨g, c, cur, e1, hbs, rest⟩
  · exact .inl hh
  · exact .inr ⟨g, c, cur, e1, by omega, rest⟩
/-- A capability that lies in a new block is appended to a row of the call's own. -/
theorem OwnC.boxed {w1 w0 : World} {v : Value} {xs : List GC} (h : OwnC w1 w0.heap.size v xs) (hb : Below w0.heap.size w0 w1) (c : GC) (hl : xs.length ≤ 1000000) :
    ∃ v' w', (Builtin.append_ #[32, 32] 32 #[v, .slice (some ⟨w1.heap.size + 1, 0, none⟩) 1 1]).run Try.prog ((w1.alloc (.cells #[.int .i64 c.kind, .int .i64 c.base, .int .i64 c.bits, .int .i64 c.rights, .int .i64 c.width, .int .i64 c.level, .bool c.device] 23)).alloc (.cells #[.int .i64 c.kind, .int .i64 c.base, .int .i64 c.bits, .int .i64 c.rights, .int .i64 c.width, .int .i64 c.level, .bool c.device] 23)) = .ok v' w' ∧ OwnC w' w0.heap.size v' (xs ++ [c]) ∧ Below w0.heap.size w0 w' := by
  have hs := hb.size
  have e1 : (w1.alloc (.cells #[.int .i64 c.kind, .int .i64 c.base, .int .i64 c.bits, .int .i64 c.rights, .int .i64 c.width, .int .i64 c.level, .bool c.device] 23)).heap.size = w1.heap.size + 1 := by simp
  have hlit := lit_cap (w1.alloc (.cells #[.int .i64 c.kind, .int .i64 c.base, .int .i64 c.bits, .int .i64 c.rights, .int .i64 c.width, .int .i64 c.level, .bool c.device] 23)) c
  rw [e1] at hlit
  obtain ⟨v', w', hrun, hown, hg, _⟩ := OwnG.app elt_cap GC.len GC.one ((h.alloc (.cells #[.int .i64 c.kind, .int .i64 c.base, .int .i64 c.bits, .int .i64 c.rights, .int .i64 c.width, .int .i64 c.level, .bool c.device] 23)).alloc (.cells #[.int .i64 c.kind, .int .i64 c.base, .int .i64 c.bits, .int .i64 c.rights, .int .i64 c.width, .int .i64 c.level, .bool c.device] 23)) 1 hlit (by simp; omega) (by unfold maxLen; simp; omega) (by simp; omega)
  exact ⟨v', w', hrun, hown, ((hb.alloc hs _).alloc (by simp; omega) _).grown hg (by simp; omega) (fun g e => (h.lt g e).1)⟩
/-- The third and the fourth check. -/
def C3P (sz lv : Bool) (obj cnt off : Int) : Prop := sz = true ∧ (obj = 3 → lv = true) ∧ 1 ≤ cnt ∧ cnt ≤ 8 ∧ 0 ≤ off
def C4P (d : Bool) (obj : Int) : Prop := d = true → obj = 1 ∨ obj = 2
/-- The errors of Retype, one by one. -/
structure RetS (s : GC) (vc sz lv : Bool) (obj n cnt off q : Int) : Prop where
  e1 : ¬ (vc = true ∧ s.kind = 1) → q = 5
  e2 : vc = true → s.kind = 1 → bits .and .i64 s.rights 2 = 0 → q = 8
  e3 : vc = true → s.kind = 1 → bits .and .i64 s.rights 2 ≠ 0 → ¬ C3P sz lv obj cnt off → q = 1
  e4 : vc = true → s.kind = 1 → bits .and .i64 s.rights 2 ≠ 0 → C3P sz lv obj cnt off → s.device = true → obj ≠ 1 → obj ≠ 2 → q = 5
  e5 : vc = true → s.kind = 1 → bits .and .i64 s.rights 2 ≠ 0 → C3P sz lv obj cnt off → C4P s.device obj → ¬ (off % pw n = 0 ∧ off ≤ pw s.bits ∧ cnt * pw n ≤ pw s.bits - off ∧ (obj = 1 → n < s.bits)) → q = 6
  e0 : vc = true → s.kind = 1 → bits .and .i64 s.rights 2 ≠ 0 → C3P sz lv obj cnt off → C4P s.device obj → (off % pw n = 0 ∧ off ≤ pw s.bits ∧ cnt * pw n ≤ pw s.bits - off ∧ (obj = 1 → n < s.bits)) → q = 0
theorem ret_s (s : GC) (obj n lev wid off cnt : Int) : RetS s (vC s) (sizB obj n) (levB wid lev) obj n cnt off (retErr s obj n lev wid off cnt) := by
  refine ⟨fun h => ?_, fun h1 h2 h => ?_, fun h1 h2 h3 h => ?_, fun h1 h2 h3 h4 h5 h6 h7 => ?_, fun h1 h2 h3 h4 h5 h => ?_, fun h1 h2 h3 h4 h5 h6 => ?_⟩ <;> unfold retErr
  · rw [if_neg (show ¬ RC1 s from h)]
  · rw [if_pos (show RC1 s from ⟨h1, h2⟩), if_pos h]
  · rw [if_pos (show RC1 s from ⟨h1, h2⟩), if_neg h3, if_neg (show ¬ RC3 obj n lev wid off cnt from h)]
  · rw [if_pos (show RC1 s from ⟨h1, h2⟩), if_neg h3, if_pos (show RC3 obj n lev wid off cnt from h4), if_neg fun (h : RC4 s obj) => by rcases h h5 with e | e <;> contradiction]
  · rw [if_pos (show RC1 s from ⟨h1, h2⟩), if_neg h3, if_pos (show RC3 obj n lev wid off cnt from h4), if_pos (show RC4 s obj from h5), if_neg (show ¬ RC5 s obj n off cnt from h)]
  · rw [if_pos (show RC1 s from ⟨h1, h2⟩), if_neg h3, if_pos (show RC3 obj n lev wid off cnt from h4), if_pos (show RC4 s obj from h5), if_pos (show RC5 s obj n off cnt from h6)]
set_option maxRecDepth 20000 in
set_option maxHeartbeats 4000000 in
theorem rRet_any (s : GC) (obj n lev wid off cnt : Int) (w : World) :
    Calls Try.prog 24 #[s.val, .int .i64 obj, .int .i64 n, .int .i64 lev, .int .i64 wid, .int .i64 off, .int .i64 cnt] w (RetEnd (retErr s obj n lev wid off cnt) (retL s obj n lev wid off cnt) w) := by
  have HV := Lib.hid fun W => rVC_any s W
  have HS := Lib.hid fun W => rSiz_any obj n W
  have HL := Lib.hid fun W => rLev_any wid lev W
  have HR := Lib.hid (ret_s s obj n lev wid off cnt)
  have HL0 : Hid (retErr s obj n lev wid off cnt ≠ 0 → retL s obj n lev wid off cnt = []) := Lib.hid fun h => by unfold retL; rw [if_neg h]
  have HL1 : Hid (retErr s obj n lev wid off cnt = 0 → retL s obj n lev wid off cnt = (List.range cnt.toNat).map (retOne s obj n lev wid off)) := Lib.hid fun h => by unfold retL; rw [if_pos h]
  have HX := Lib.hid (CB.new w s)
  have HSB := Lib.hid (siz_bound (k := obj) (n := n))
  have HVS : Hid (vC s = true → VR s.rng ∧ 6 ≤ s.bits ∧ s.bits ≤ 40) := Lib.hid fun h => by
    unfold vC at h
    simp at h
    exact ⟨vR_iff.1 h.1.1.1.1.2, siz_bound h.1.1.1.1.1⟩
  generalize retErr s obj n lev wid off cnt = q at *
  generalize retL s obj n lev wid off cnt = l at *
  generalize vC s = vc at *
  generalize sizB obj n = sz at *
  generalize levB wid lev = lv at *
  obtain ⟨sk, sb, sn, sr, sw, sl, sd⟩ := s
  simp only [GC.val, GC.rng] at *
  have HB0 := Lib.hid (belt (Below.refl _ w) (.cells #[.int .i64 sk, .int .i64 sb, .int .i64 sn, .int .i64 sr, .int .i64 sw, .int .i64 sl, .bool sd] 23))
  go_enter Try.func24, Try.ntmps24
  go_wp2_with fail
  go_fit (HV.out _)
  rintro e w1 ⟨rfl, hb1⟩
  have HX1 := Lib.hid (HX.out.next hb1)
  have HB1 := Lib.hid (beln HB0.out hb1)
  clear hb1 HV HX HB0
  obtain ⟨y0, y1, y2, y3, y4, y5, y6⟩ := HX1.out.cells
  simp only at y0 y1 y2 y3 y4 y5 y6
  rcases vc with _ | _
  · go_wp2
    refine bodyPost_ret (v := .tuple #[.slice none 0 0, .int .i64 5]) (by simp [results, Try.results24]) rfl ?_
    exact ret_bad HB1.out (HR.out.e1 (by simp)) HL0.out (by decide)
  by_cases hk : sk = 1
  rotate_left
  · have fk : (sk == 1) = false := beq_eq_false_iff_ne.2 hk
    have HE := Lib.hid (HR.out.e1 fun h => hk h.2)
    clear hk
    go_wp2
    refine bodyPost_ret (v := .tuple #[.slice none 0 0, .int .i64 5]) (by simp [results, Try.results24]) rfl ?_
    exact ret_bad HB1.out HE.out HL0.out (by decide)
  subst hk
  obtain ⟨ra, hra⟩ : ∃ ra, bits BinOp.and IntKind.i64 sr 2 = ra := ⟨_, rfl⟩
  by_cases h0 : ra = 0
  · subst h0
    have HE := Lib.hid (HR.out.e2 rfl rfl hra)
    go_wp2
    refine bodyPost_ret (v := .tuple #[.slice none 0 0, .int .i64 8]) (by simp [results, Try.results24]) rfl ?_
    exact ret_bad HB1.out HE.out HL0.out (by decide)
  have fra : (ra == 0) = false := beq_eq_false_iff_ne.2 h0
  have HRN : Hid (bits BinOp.and IntKind.i64 sr 2 ≠ 0) := Lib.hid (by rw [hra]; exact h0)
  clear h0
  go_wp2_with fail
  go_fit (HS.out _)
  rintro e w2 ⟨rfl, hww⟩
  obtain rfl : w1 = w2 := hww.symm
  clear HS hra fra
  rcases sz with _ | _
  · have HE := Lib.hid (HR.out.e3 rfl rfl HRN.out fun h => by cases h.1)
    go_wp2
    refine bodyPost_ret (v := .tuple #[.slice none 0 0, .int .i64 1]) (by simp [results, Try.results24]) rfl ?_
    exact ret_bad HB1.out HE.out HL0.out (by decide)
  obtain ⟨n0, n1⟩ := HSB.out rfl
  obtain ⟨hvr, s0, s1⟩ := HVS.out (by simp)
  have hb0 := hvr.b0
  have htop := hvr.top
  simp only [GR.sz] at hb0 htop
  have HZ0 := pw_pos n
  have HZ1 := pw_le (m := n) (n := 40) n1 (by omega)
  have HY0 := pw_pos sn
  have hcu : IntKind.u64.wrap n = n := by rw [IntKind.wrap_u64]; omega
  have hcs : IntKind.u64.wrap sn = sn := by rw [IntKind.wrap_u64]; omega
  have hsh : IntKind.i64.wrap (2 ^ n.toNat) = pw n := shl_one (by omega) (by omega)
  have hss : IntKind.i64.wrap (2 ^ sn.toNat) = pw sn := shl_one (by omega) (by omega)
  rw [show pw 40 = 1099511627776 by decide] at HZ1
  have HONE : Hid (∀ i, retOne ⟨1, sb, sn, sr, sw, sl, sd⟩ obj n lev wid off i = ⟨obj, sb + off + (i : Int) * pw n, n, sr, if obj = 3 then wid else 0, if obj = 3 then lev else 0, sd⟩) := Lib.hid fun _ => rfl
  generalize retOne ⟨1, sb, sn, sr, sw, sl, sd⟩ obj n lev wid off = f1 at *
  have HE5 : Hid (C3P true lv obj cnt off → C4P sd obj → ¬ (off % pw n = 0 ∧ off ≤ pw sn ∧ cnt * pw n ≤ pw sn - off ∧ (obj = 1 → n < sn)) → q = 6) := Lib.hid (HR.out.e5 rfl rfl HRN.out)
  have HE0 : Hid (C3P true lv obj cnt off → C4P sd obj → (off % pw n = 0 ∧ off ≤ pw sn ∧ cnt * pw n ≤ pw sn - off ∧ (obj = 1 → n < sn)) → q = 0) := Lib.hid (HR.out.e0 rfl rfl HRN.out)
  generalize pw n = z at *
  generalize pw sn = y at *
  clear hvr HSB HVS
  by_cases h3 : obj = 3
  · subst h3
    go_wp2_with fail
    go_fit (HL.out _)
    rintro e w2 ⟨rfl, hww⟩
    obtain rfl : w1 = w2 := hww.symm
    clear HL
    rcases lv with _ | _
    · have HE := Lib.hid (HR.out.e3 rfl rfl HRN.out fun h => by have := h.2.1 rfl; cases this)
      go_wp2
      refine bodyPost_ret (v := .tuple #[.slice none 0 0, .int .i64 1]) (by simp [results, Try.results24]) rfl ?_
      exact ret_bad HB1.out HE.out HL0.out (by decide)
    have HLV : Hid (true = true) := Lib.hid rfl
    by_cases g1 : cnt < 1
    · have HE := Lib.hid (HR.out.e3 rfl rfl HRN.out fun h => by have := h.2.2; omega)
      have fb : decide (cnt < 1) = true := decide_eq_true g1
      go_wp2
      refine bodyPost_ret (v := .tuple #[.slice none 0 0, .int .i64 1]) (by simp [results, Try.results24]) rfl ?_
      exact ret_bad HB1.out HE.out HL0.out (by decide)
    by_cases g2 : 8 < cnt
    · have HE := Lib.hid (HR.out.e3 rfl rfl HRN.out fun h => by have := h.2.2; omega)
      have fb : decide (8 < cnt) = true := decide_eq_true g2
      go_wp2
      refine bodyPost_ret (v := .tuple #[.slice none 0 0, .int .i64 1]) (by simp [results, Try.results24]) rfl ?_
      exact ret_bad HB1.out HE.out HL0.out (by decide)
    by_cases g3 : off < 0
    · have HE := Lib.hid (HR.out.e3 rfl rfl HRN.out fun h => by have := h.2.2; omega)
      have fb : decide (off < 0) = true := decide_eq_true g3
      go_wp2
      refine bodyPost_ret (v := .tuple #[.slice none 0 0, .int .i64 1]) (by simp [results, Try.results24]) rfl ?_
      exact ret_bad HB1.out HE.out HL0.out (by decide)
    have fg1 : decide (cnt < 1) = false := decide_eq_false g1
    have fg2 : decide (8 < cnt) = false := decide_eq_false g2
    have fg3 : decide (off < 0) = false := decide_eq_false g3
    have hm : IntKind.i64.wrap (cnt * z) = cnt * z := IntWalk.i64_in _ (by
      have h1 : cnt * z ≤ 8 * z := Int.mul_le_mul_of_nonneg_right (by omega) (by omega)
      have h2 : 0 ≤ cnt * z := Int.mul_nonneg (by omega) (by omega)
      omega)
    obtain ⟨cz, hcz⟩ : ∃ cz, cnt * z = cz := ⟨_, rfl⟩
    have HCZ := Lib.hid hcz
    rw [hcz] at hm
    have HC3 : Hid (C3P true true 3 cnt off) := Lib.hid ⟨rfl, fun _ => HLV.out, by omega, by omega, by omega⟩
    rcases sd with _ | _
    rotate_left
    · have HE := Lib.hid (HR.out.e4 rfl rfl HRN.out HC3.out rfl (by decide) (by decide))
      clear hm
      go_wp2
      refine bodyPost_ret (v := .tuple #[.slice none 0 0, .int .i64 5]) (by simp [results, Try.results24]) rfl ?_
      exact ret_bad HB1.out HE.out HL0.out (by decide)
    replace HE5 := Lib.hid (HE5.out HC3.out (fun h => by cases h))
    replace HE0 := Lib.hid (HE0.out HC3.out (fun h => by cases h))
    by_cases g7 : off % z = 0
    rotate_left
    · have HE := Lib.hid (HE5.out fun h => g7 h.1)
      have fb : (off % z == 0) = false := beq_eq_false_iff_ne.2 g7
      have fb2 : (off % z != 0) = true := by rw [bne, fb]; rfl
      clear g7 hm
      go_wp2
      refine bodyPost_ret (v := .tuple #[.slice none 0 0, .int .i64 6]) (by simp [results, Try.results24]) rfl ?_
      exact ret_bad HB1.out HE.out HL0.out (by decide)
    have fb : (off % z == 0) = true := beq_iff_eq.2 g7
    have fb2 : (off % z != 0) = false := by rw [bne, fb]; rfl
    have HG7 := Lib.hid g7
    clear g7 fb
    by_cases g8 : y < off
    · have HE := Lib.hid (HE5.out fun h => by have := h.2.1; omega)
      have fb3 : decide (y < off) = true := decide_eq_true g8
      clear hm
      go_wp2
      refine bodyPost_ret (v := .tuple #[.slice none 0 0, .int .i64 6]) (by simp [results, Try.results24]) rfl ?_
      exact ret_bad HB1.out HE.out HL0.out (by decide)
    have fb3 : decide (y < off) = false := decide_eq_false g8
    have hsub : IntKind.i64.wrap (y - off) = y - off := IntWalk.i64_in _ (by omega)
    by_cases g9 : y - off < cz
    · have HE := Lib.hid (HE5.out fun h => by have := h.2.2.1; have := HCZ.out; omega)
      have fb4 : decide (y - off < cz) = true := decide_eq_true g9
      clear g9
      go_wp2
      refine bodyPost_ret (v := .tuple #[.slice none 0 0, .int .i64 6]) (by simp [results, Try.results24]) rfl ?_
      exact ret_bad HB1.out HE.out HL0.out (by decide)
    have fb4 : decide (y - off < cz) = false := decide_eq_false g9
    have HQ0 : Hid (q = 0) := Lib.hid (HE0.out ⟨HG7.out, by omega, by have := HCZ.out; omega, fun h => absurd h (by decide)⟩)
    have HLQ := Lib.hid (HL1.out HQ0.out)
    have hw1 : IntKind.i64.wrap (sb + off) = sb + off := IntWalk.i64_in _ (by omega)
    have HEND : Hid (∀ (v : Value) (W : World), OwnC W w1.heap.size v ((List.range cnt.toNat).map f1) → Below w1.heap.size w1 W → RetEnd q l w (.returned (.tuple #[v, .int .i64 0])) W) := Lib.hid fun v W hO hB => by rw [HQ0.out, HLQ.out]; exact ⟨_, rfl, hO.base11 HB1.out.size, beln HB1.out hB⟩
    have HCZ2 := Lib.hid (show 0 < z ∧ sb + y ≤ 1099511627776 ∧ 0 ≤ sb ∧ 0 ≤ off ∧ off ≤ y ∧ cz ≤ y - off ∧ 1 ≤ cnt ∧ cnt ≤ 8 from ⟨HZ0, htop, hb0, by omega, by omega, by omega, by omega, by omega⟩)
    go_wp2
    clear fb2 hsub fb3 fb4 hm HE5 HE0 HR HL0 HL1
    go_loopw [19, 20] (fun v19 v20 wr => ∃ j : Nat, v20 = .int .i64 j ∧ (j : Int) ≤ cnt ∧ Hid (OwnC wr w1.heap.size v19 ((List.range j).map f1)) ∧ Hid (Below w1.heap.size w1 wr)) (fun _ v20 _ => cnt.toNat - (intOf v20).toNat)
    case atStart => exact ⟨0, rfl, by omega, Lib.hid (OwnG.nil _ _), Lib.hid (Below.refl _ _)⟩
    case round =>
      obtain ⟨j, rfl, hj, HO, HB⟩ := hrel
      obtain ⟨An, cn, rfl, hcn, hmn, hrn⟩ := HO.out.row GC.len
      clear hcn hmn hrn
      generalize wr = wA at *
      by_cases hlt : (j : Int) < cnt
      · have hjz : (j : Int) * z ≤ cz ∧ 0 ≤ (j : Int) * z := ⟨by rw [← HCZ.out]; exact Int.mul_le_mul_of_nonneg_right (by omega) (by omega), Int.mul_nonneg (by omega) (by omega)⟩
        obtain ⟨jz, hjze⟩ : ∃ jz, (j : Int) * z = jz := ⟨_, rfl⟩
        have h2 := HCZ2.out
        rw [hjze] at hjz
        have hw2 : IntKind.i64.wrap ((j : Int) * z) = jz := by rw [hjze]; exact IntWalk.i64_in _ (by omega)
        have hw3 : IntKind.i64.wrap (sb + off + jz) = sb + off + jz := IntWalk.i64_in _ (by omega)
        have HF : Hid ((List.range (j + 1)).map f1 = (List.range j).map f1 ++ [⟨3, sb + off + jz, n, sr, wid, lev, false⟩]) := Lib.hid (by
          rw [List.range_succ, List.map_append, List.map_singleton, HONE.out j, hjze]
          simp)
        have fj : decide ((j : Int) < cnt) = true := decide_eq_true hlt
        obtain ⟨y0, y1, y2, y3, y4, y5, y6⟩ := (HX1.out.next HB.out).cells
        simp only at y0 y1 y2 y3 y4 y5 y6
        have hNl := (HX1.out.next HB.out).lt
        obtain ⟨v9, w9, hrun, hown9, hb9⟩ := OwnC.boxed HO.out HB.out ⟨3, sb + off + jz, n, sr, wid, lev, false⟩ (by rw [List.length_map, List.length_range]; omega)
        have HRUN := Lib.hid hrun
        have HO9 : Hid (OwnC w9 w1.heap.size v9 ((List.range (j + 1)).map f1)) := Lib.hid (by rw [HF.out]; exact hown9)
        have HB9 := Lib.hid hb9
        have hjn : j ≤ 8 := by omega
        have HM : Hid (cnt.toNat - (j + 1) < cnt.toNat - j ∧ ((j + 1 : Nat) : Int) ≤ cnt) := Lib.hid (by omega)
        clear hrun hown9 hb9 HF hjz hjze HB HO h2
        generalize hnl : ((List.range j).map f1).length = nl at *
        clear hnl
        go_wp2_with (at_builtin; refine wpList_gapp HRUN.out rfl rfl rfl rfl rfl ?_)
        go_roundw
        case rel => exact ⟨j + 1, by go_num, HM.out.2, HO9, HB9⟩
        case measure => simp [intOf]; have := HM.out.1; omega
      · have fj : decide ((j : Int) < cnt) = false := decide_eq_false hlt
        have ej : j = cnt.toNat := by omega
        have HE := Lib.hid (HEND.out (.slice An ((List.range j).map f1).length cn) wA (by rw [← ej]; exact HO.out) HB.out)
        generalize ((List.range j).map f1).length = nl at *
        clear HO HB ej hlt hj
        go_wp2
        refine bodyPost_ret (v := .tuple #[.slice An nl cn, .int .i64 0]) (by simp [results, Try.results24]) rfl ?_
        exact HE.out
  have f3 : (obj == 3) = false := beq_eq_false_iff_ne.2 h3
  have HN3 := Lib.hid h3
  clear HL
  by_cases g1 : cnt < 1
  · have HE := Lib.hid (HR.out.e3 rfl rfl HRN.out fun h => by have := h.2.2; omega)
    have fb : decide (cnt < 1) = true := decide_eq_true g1
    go_wp2
    refine bodyPost_ret (v := .tuple #[.slice none 0 0, .int .i64 1]) (by simp [results, Try.results24]) rfl ?_
    exact ret_bad HB1.out HE.out HL0.out (by decide)
  by_cases g2 : 8 < cnt
  · have HE := Lib.hid (HR.out.e3 rfl rfl HRN.out fun h => by have := h.2.2; omega)
    have fb : decide (8 < cnt) = true := decide_eq_true g2
    go_wp2
    refine bodyPost_ret (v := .tuple #[.slice none 0 0, .int .i64 1]) (by simp [results, Try.results24]) rfl ?_
    exact ret_bad HB1.out HE.out HL0.out (by decide)
  by_cases g3 : off < 0
  · have HE := Lib.hid (HR.out.e3 rfl rfl HRN.out fun h => by have := h.2.2; omega)
    have fb : decide (off < 0) = true := decide_eq_true g3
    go_wp2
    refine bodyPost_ret (v := .tuple #[.slice none 0 0, .int .i64 1]) (by simp [results, Try.results24]) rfl ?_
    exact ret_bad HB1.out HE.out HL0.out (by decide)
  have fg1 : decide (cnt < 1) = false := decide_eq_false g1
  have fg2 : decide (8 < cnt) = false := decide_eq_false g2
  have fg3 : decide (off < 0) = false := decide_eq_false g3
  have hm : IntKind.i64.wrap (cnt * z) = cnt * z := IntWalk.i64_in _ (by
    have h1 : cnt * z ≤ 8 * z := Int.mul_le_mul_of_nonneg_right (by omega) (by omega)
    have h2 : 0 ≤ cnt * z := Int.mul_nonneg (by omega) (by omega)
    omega)
  obtain ⟨cz, hcz⟩ : ∃ cz, cnt * z = cz := ⟨_, rfl⟩
  have HCZ := Lib.hid hcz
  rw [hcz] at hm
  have HC3 : Hid (C3P true lv obj cnt off) := Lib.hid ⟨rfl, fun h => absurd h HN3.out, by omega, by omega, by omega⟩
  by_cases h1 : obj = 1
  · subst h1
    clear f3 h3
    rcases sd with _ | _
    · replace HE5 := Lib.hid (HE5.out HC3.out (fun h => by cases h))
      replace HE0 := Lib.hid (HE0.out HC3.out (fun h => by cases h))
      by_cases g7 : off % z = 0
      rotate_left
      · have HE := Lib.hid (HE5.out fun h => g7 h.1)
        have fb : (off % z == 0) = false := beq_eq_false_iff_ne.2 g7
        have fb2 : (off % z != 0) = true := by rw [bne, fb]; rfl
        clear g7 hm
        go_wp2
        refine bodyPost_ret (v := .tuple #[.slice none 0 0, .int .i64 6]) (by simp [results, Try.results24]) rfl ?_
        exact ret_bad HB1.out HE.out HL0.out (by decide)
      have fb : (off % z == 0) = true := beq_iff_eq.2 g7
      have fb2 : (off % z != 0) = false := by rw [bne, fb]; rfl
      have HG7 := Lib.hid g7
      clear g7 fb
      by_cases g8 : y < off
      · have HE := Lib.hid (HE5.out fun h => by have := h.2.1; omega)
        have fb3 : decide (y < off) = true := decide_eq_true g8
        clear hm
        go_wp2
        refine bodyPost_ret (v := .tuple #[.slice none 0 0, .int .i64 6]) (by simp [results, Try.results24]) rfl ?_
        exact ret_bad HB1.out HE.out HL0.out (by decide)
      have fb3 : decide (y < off) = false := decide_eq_false g8
      have hsub : IntKind.i64.wrap (y - off) = y - off := IntWalk.i64_in _ (by omega)
      by_cases g9 : y - off < cz
      · have HE := Lib.hid (HE5.out fun h => by have := h.2.2.1; have := HCZ.out; omega)
        have fb4 : decide (y - off < cz) = true := decide_eq_true g9
        clear g9
        go_wp2
        refine bodyPost_ret (v := .tuple #[.slice none 0 0, .int .i64 6]) (by simp [results, Try.results24]) rfl ?_
        exact ret_bad HB1.out HE.out HL0.out (by decide)
      have fb4 : decide (y - off < cz) = false := decide_eq_false g9
      by_cases g10 : sn ≤ n
      · have HE := Lib.hid (HE5.out fun h => by have := h.2.2.2 rfl; omega)
        have fb5 : decide (sn ≤ n) = true := decide_eq_true g10
        go_wp2
        refine bodyPost_ret (v := .tuple #[.slice none 0 0, .int .i64 6]) (by simp [results, Try.results24]) rfl ?_
        exact ret_bad HB1.out HE.out HL0.out (by decide)
      have fb5 : decide (sn ≤ n) = false := decide_eq_false g10
      have HQ0 : Hid (q = 0) := Lib.hid (HE0.out ⟨HG7.out, by omega, by have := HCZ.out; omega, fun _ => by omega⟩)
      have HLQ := Lib.hid (HL1.out HQ0.out)
      have hw1 : IntKind.i64.wrap (sb + off) = sb + off := IntWalk.i64_in _ (by omega)
      have HEND : Hid (∀ (v : Value) (W : World), OwnC W w1.heap.size v ((List.range cnt.toNat).map f1) → Below w1.heap.size w1 W → RetEnd q l w (.returned (.tuple #[v, .int .i64 0])) W) := Lib.hid fun v W hO hB => by rw [HQ0.out, HLQ.out]; exact ⟨_, rfl, hO.base11 HB1.out.size, beln HB1.out hB⟩
      have HCZ2 := Lib.hid (show 0 < z ∧ sb + y ≤ 1099511627776 ∧ 0 ≤ sb ∧ 0 ≤ off ∧ off ≤ y ∧ cz ≤ y - off ∧ 1 ≤ cnt ∧ cnt ≤ 8 from ⟨HZ0, htop, hb0, by omega, by omega, by omega, by omega, by omega⟩)
      go_wp2
      clear fb2 hsub fb3 fb4 fb5 hm HE5 HE0 HR HL0 HL1
      go_loopw [19, 20] (fun v19 v20 wr => ∃ j : Nat, v20 = .int .i64 j ∧ (j : Int) ≤ cnt ∧ Hid (OwnC wr w1.heap.size v19 ((List.range j).map f1)) ∧ Hid (Below w1.heap.size w1 wr)) (fun _ v20 _ => cnt.toNat - (intOf v20).toNat)
      case atStart => exact ⟨0, rfl, by omega, Lib.hid (OwnG.nil _ _), Lib.hid (Below.refl _ _)⟩
      case round =>
        obtain ⟨j, rfl, hj, HO, HB⟩ := hrel
        obtain ⟨An, cn, rfl, hcn, hmn, hrn⟩ := HO.out.row GC.len
        clear hcn hmn hrn
        generalize wr = wA at *
        by_cases hlt : (j : Int) < cnt
        · have hjz : (j : Int) * z ≤ cz ∧ 0 ≤ (j : Int) * z := ⟨by rw [← HCZ.out]; exact Int.mul_le_mul_of_nonneg_right (by omega) (by omega), Int.mul_nonneg (by omega) (by omega)⟩
          obtain ⟨jz, hjze⟩ : ∃ jz, (j : Int) * z = jz := ⟨_, rfl⟩
          have h2 := HCZ2.out
          rw [hjze] at hjz
          have hw2 : IntKind.i64.wrap ((j : Int) * z) = jz := by rw [hjze]; exact IntWalk.i64_in _ (by omega)
          have hw3 : IntKind.i64.wrap (sb + off + jz) = sb + off + jz := IntWalk.i64_in _ (by omega)
          have HF : Hid ((List.range (j + 1)).map f1 = (List.range j).map f1 ++ [⟨1, sb + off + jz, n, sr, 0, 0, false⟩]) := Lib.hid (by
            rw [List.range_succ, List.map_append, List.map_singleton, HONE.out j, hjze]
            rw [if_neg (by decide), if_neg (by decide)])
          have fj : decide ((j : Int) < cnt) = true := decide_eq_true hlt
          obtain ⟨y0, y1, y2, y3, y4, y5, y6⟩ := (HX1.out.next HB.out).cells
          simp only at y0 y1 y2 y3 y4 y5 y6
          have hNl := (HX1.out.next HB.out).lt
          obtain ⟨v9, w9, hrun, hown9, hb9⟩ := OwnC.boxed HO.out HB.out ⟨1, sb + off + jz, n, sr, 0, 0, false⟩ (by rw [List.length_map, List.length_range]; omega)
          have HRUN := Lib.hid hrun
          have HO9 : Hid (OwnC w9 w1.heap.size v9 ((List.range (j + 1)).map f1)) := Lib.hid (by rw [HF.out]; exact hown9)
          have HB9 := Lib.hid hb9
          have hjn : j ≤ 8 := by omega
          have HM : Hid (cnt.toNat - (j + 1) < cnt.toNat - j ∧ ((j + 1 : Nat) : Int) ≤ cnt) := Lib.hid (by omega)
          clear hrun hown9 hb9 HF hjz hjze HB HO h2
          generalize hnl : ((List.range j).map f1).length = nl at *
          clear hnl
          go_wp2_with (at_builtin; refine wpList_gapp HRUN.out rfl rfl rfl rfl rfl ?_)
          go_roundw
          case rel => exact ⟨j + 1, by go_num, HM.out.2, HO9, HB9⟩
          case measure => simp [intOf]; have := HM.out.1; omega
        · have fj : decide ((j : Int) < cnt) = false := decide_eq_false hlt
          have ej : j = cnt.toNat := by omega
          have HE := Lib.hid (HEND.out (.slice An ((List.range j).map f1).length cn) wA (by rw [← ej]; exact HO.out) HB.out)
          generalize ((List.range j).map f1).length = nl at *
          clear HO HB ej hlt hj
          go_wp2
          refine bodyPost_ret (v := .tuple #[.slice An nl cn, .int .i64 0]) (by simp [results, Try.results24]) rfl ?_
          exact HE.out
    · replace HE5 := Lib.hid (HE5.out HC3.out (fun _ => .inl rfl))
      replace HE0 := Lib.hid (HE0.out HC3.out (fun _ => .inl rfl))
      by_cases g7 : off % z = 0
      rotate_left
      · have HE := Lib.hid (HE5.out fun h => g7 h.1)
        have fb : (off % z == 0) = false := beq_eq_false_iff_ne.2 g7
        have fb2 : (off % z != 0) = true := by rw [bne, fb]; rfl
        clear g7 hm
        go_wp2
        refine bodyPost_ret (v := .tuple #[.slice none 0 0, .int .i64 6]) (by simp [results, Try.results24]) rfl ?_
        exact ret_bad HB1.out HE.out HL0.out (by decide)
      have fb : (off % z == 0) = true := beq_iff_eq.2 g7
      have fb2 : (off % z != 0) = false := by rw [bne, fb]; rfl
      have HG7 := Lib.hid g7
      clear g7 fb
      by_cases g8 : y < off
      · have HE := Lib.hid (HE5.out fun h => by have := h.2.1; omega)
        have fb3 : decide (y < off) = true := decide_eq_true g8
        clear hm
        go_wp2
        refine bodyPost_ret (v := .tuple #[.slice none 0 0, .int .i64 6]) (by simp [results, Try.results24]) rfl ?_
        exact ret_bad HB1.out HE.out HL0.out (by decide)
      have fb3 : decide (y < off) = false := decide_eq_false g8
      have hsub : IntKind.i64.wrap (y - off) = y - off := IntWalk.i64_in _ (by omega)
      by_cases g9 : y - off < cz
      · have HE := Lib.hid (HE5.out fun h => by have := h.2.2.1; have := HCZ.out; omega)
        have fb4 : decide (y - off < cz) = true := decide_eq_true g9
        clear g9
        go_wp2
        refine bodyPost_ret (v := .tuple #[.slice none 0 0, .int .i64 6]) (by simp [results, Try.results24]) rfl ?_
        exact ret_bad HB1.out HE.out HL0.out (by decide)
      have fb4 : decide (y - off < cz) = false := decide_eq_false g9
      by_cases g10 : sn ≤ n
      · have HE := Lib.hid (HE5.out fun h => by have := h.2.2.2 rfl; omega)
        have fb5 : decide (sn ≤ n) = true := decide_eq_true g10
        go_wp2
        refine bodyPost_ret (v := .tuple #[.slice none 0 0, .int .i64 6]) (by simp [results, Try.results24]) rfl ?_
        exact ret_bad HB1.out HE.out HL0.out (by decide)
      have fb5 : decide (sn ≤ n) = false := decide_eq_false g10
      have HQ0 : Hid (q = 0) := Lib.hid (HE0.out ⟨HG7.out, by omega, by have := HCZ.out; omega, fun _ => by omega⟩)
      have HLQ := Lib.hid (HL1.out HQ0.out)
      have hw1 : IntKind.i64.wrap (sb + off) = sb + off := IntWalk.i64_in _ (by omega)
      have HEND : Hid (∀ (v : Value) (W : World), OwnC W w1.heap.size v ((List.range cnt.toNat).map f1) → Below w1.heap.size w1 W → RetEnd q l w (.returned (.tuple #[v, .int .i64 0])) W) := Lib.hid fun v W hO hB => by rw [HQ0.out, HLQ.out]; exact ⟨_, rfl, hO.base11 HB1.out.size, beln HB1.out hB⟩
      have HCZ2 := Lib.hid (show 0 < z ∧ sb + y ≤ 1099511627776 ∧ 0 ≤ sb ∧ 0 ≤ off ∧ off ≤ y ∧ cz ≤ y - off ∧ 1 ≤ cnt ∧ cnt ≤ 8 from ⟨HZ0, htop, hb0, by omega, by omega, by omega, by omega, by omega⟩)
      go_wp2
      clear fb2 hsub fb3 fb4 fb5 hm HE5 HE0 HR HL0 HL1
      go_loopw [19, 20] (fun v19 v20 wr => ∃ j : Nat, v20 = .int .i64 j ∧ (j : Int) ≤ cnt ∧ Hid (OwnC wr w1.heap.size v19 ((List.range j).map f1)) ∧ Hid (Below w1.heap.size w1 wr)) (fun _ v20 _ => cnt.toNat - (intOf v20).toNat)
      case atStart => exact ⟨0, rfl, by omega, Lib.hid (OwnG.nil _ _), Lib.hid (Below.refl _ _)⟩
      case round =>
        obtain ⟨j, rfl, hj, HO, HB⟩ := hrel
        obtain ⟨An, cn, rfl, hcn, hmn, hrn⟩ := HO.out.row GC.len
        clear hcn hmn hrn
        generalize wr = wA at *
        by_cases hlt : (j : Int) < cnt
        · have hjz : (j : Int) * z ≤ cz ∧ 0 ≤ (j : Int) * z := ⟨by rw [← HCZ.out]; exact Int.mul_le_mul_of_nonneg_right (by omega) (by omega), Int.mul_nonneg (by omega) (by omega)⟩
          obtain ⟨jz, hjze⟩ : ∃ jz, (j : Int) * z = jz := ⟨_, rfl⟩
          have h2 := HCZ2.out
          rw [hjze] at hjz
          have hw2 : IntKind.i64.wrap ((j : Int) * z) = jz := by rw [hjze]; exact IntWalk.i64_in _ (by omega)
          have hw3 : IntKind.i64.wrap (sb + off + jz) = sb + off + jz := IntWalk.i64_in _ (by omega)
          have HF : Hid ((List.range (j + 1)).map f1 = (List.range j).map f1 ++ [⟨1, sb + off + jz, n, sr, 0, 0, true⟩]) := Lib.hid (by
            rw [List.range_succ, List.map_append, List.map_singleton, HONE.out j, hjze]
            rw [if_neg (by decide), if_neg (by decide)])
          have fj : decide ((j : Int) < cnt) = true := decide_eq_true hlt
          obtain ⟨y0, y1, y2, y3, y4, y5, y6⟩ := (HX1.out.next HB.out).cells
          simp only at y0 y1 y2 y3 y4 y5 y6
          have hNl := (HX1.out.next HB.out).lt
          obtain ⟨v9, w9, hrun, hown9, hb9⟩ := OwnC.boxed HO.out HB.out ⟨1, sb + off + jz, n, sr, 0, 0, true⟩ (by rw [List.length_map, List.length_range]; omega)
          have HRUN := Lib.hid hrun
          have HO9 : Hid (OwnC w9 w1.heap.size v9 ((List.range (j + 1)).map f1)) := Lib.hid (by rw [HF.out]; exact hown9)
          have HB9 := Lib.hid hb9
          have hjn : j ≤ 8 := by omega
          have HM : Hid (cnt.toNat - (j + 1) < cnt.toNat - j ∧ ((j + 1 : Nat) : Int) ≤ cnt) := Lib.hid (by omega)
          clear hrun hown9 hb9 HF hjz hjze HB HO h2
          generalize hnl : ((List.range j).map f1).length = nl at *
          clear hnl
          go_wp2_with (at_builtin; refine wpList_gapp HRUN.out rfl rfl rfl rfl rfl ?_)
          go_roundw
          case rel => exact ⟨j + 1, by go_num, HM.out.2, HO9, HB9⟩
          case measure => simp [intOf]; have := HM.out.1; omega
        · have fj : decide ((j : Int) < cnt) = false := decide_eq_false hlt
          have ej : j = cnt.toNat := by omega
          have HE := Lib.hid (HEND.out (.slice An ((List.range j).map f1).length cn) wA (by rw [← ej]; exact HO.out) HB.out)
          generalize ((List.range j).map f1).length = nl at *
          clear HO HB ej hlt hj
          go_wp2
          refine bodyPost_ret (v := .tuple #[.slice An nl cn, .int .i64 0]) (by simp [results, Try.results24]) rfl ?_
          exact HE.out
  have fo1 : (obj == 1) = false := beq_eq_false_iff_ne.2 h1
  have f1n : (obj != 1) = true := by rw [bne, fo1]; rfl
  have HN1 := Lib.hid h1
  clear h1 h3
  rcases sd with _ | _
  · replace HE5 := Lib.hid (HE5.out HC3.out (fun h => by cases h))
    replace HE0 := Lib.hid (HE0.out HC3.out (fun h => by cases h))
    by_cases g7 : off % z = 0
    rotate_left
    · have HE := Lib.hid (HE5.out fun h => g7 h.1)
      have fb : (off % z == 0) = false := beq_eq_false_iff_ne.2 g7
      have fb2 : (off % z != 0) = true := by rw [bne, fb]; rfl
      clear g7 hm
      go_wp2
      refine bodyPost_ret (v := .tuple #[.slice none 0 0, .int .i64 6]) (by simp [results, Try.results24]) rfl ?_
      exact ret_bad HB1.out HE.out HL0.out (by decide)
    have fb : (off % z == 0) = true := beq_iff_eq.2 g7
    have fb2 : (off % z != 0) = false := by rw [bne, fb]; rfl
    have HG7 := Lib.hid g7
    clear g7 fb
    by_cases g8 : y < off
    · have HE := Lib.hid (HE5.out fun h => by have := h.2.1; omega)
      have fb3 : decide (y < off) = true := decide_eq_true g8
      clear hm
      go_wp2
      refine bodyPost_ret (v := .tuple #[.slice none 0 0, .int .i64 6]) (by simp [results, Try.results24]) rfl ?_
      exact ret_bad HB1.out HE.out HL0.out (by decide)
    have fb3 : decide (y < off) = false := decide_eq_false g8
    have hsub : IntKind.i64.wrap (y - off) = y - off := IntWalk.i64_in _ (by omega)
    by_cases g9 : y - off < cz
    · have HE := Lib.hid (HE5.out fun h => by have := h.2.2.1; have := HCZ.out; omega)
      have fb4 : decide (y - off < cz) = true := decide_eq_true g9
      clear g9
      go_wp2
      refine bodyPost_ret (v := .tuple #[.slice none 0 0, .int .i64 6]) (by simp [results, Try.results24]) rfl ?_
      exact ret_bad HB1.out HE.out HL0.out (by decide)
    have fb4 : decide (y - off < cz) = false := decide_eq_false g9
    have HQ0 : Hid (q = 0) := Lib.hid (HE0.out ⟨HG7.out, by omega, by have := HCZ.out; omega, fun h => absurd h HN1.out⟩)
    have HLQ := Lib.hid (HL1.out HQ0.out)
    have hw1 : IntKind.i64.wrap (sb + off) = sb + off := IntWalk.i64_in _ (by omega)
    have HEND : Hid (∀ (v : Value) (W : World), OwnC W w1.heap.size v ((List.range cnt.toNat).map f1) → Below w1.heap.size w1 W → RetEnd q l w (.returned (.tuple #[v, .int .i64 0])) W) := Lib.hid fun v W hO hB => by rw [HQ0.out, HLQ.out]; exact ⟨_, rfl, hO.base11 HB1.out.size, beln HB1.out hB⟩
    have HCZ2 := Lib.hid (show 0 < z ∧ sb + y ≤ 1099511627776 ∧ 0 ≤ sb ∧ 0 ≤ off ∧ off ≤ y ∧ cz ≤ y - off ∧ 1 ≤ cnt ∧ cnt ≤ 8 from ⟨HZ0, htop, hb0, by omega, by omega, by omega, by omega, by omega⟩)
    go_wp2
    clear fb2 hsub fb3 fb4 hm HE5 HE0 HR HL0 HL1
    go_loopw [19, 20] (fun v19 v20 wr => ∃ j : Nat, v20 = .int .i64 j ∧ (j : Int) ≤ cnt ∧ Hid (OwnC wr w1.heap.size v19 ((List.range j).map f1)) ∧ Hid (Below w1.heap.size w1 wr)) (fun _ v20 _ => cnt.toNat - (intOf v20).toNat)
    case atStart => exact ⟨0, rfl, by omega, Lib.hid (OwnG.nil _ _), Lib.hid (Below.refl _ _)⟩
    case round =>
      obtain ⟨j, rfl, hj, HO, HB⟩ := hrel
      obtain ⟨An, cn, rfl, hcn, hmn, hrn⟩ := HO.out.row GC.len
      clear hcn hmn hrn
      generalize wr = wA at *
      by_cases hlt : (j : Int) < cnt
      · have hjz : (j : Int) * z ≤ cz ∧ 0 ≤ (j : Int) * z := ⟨by rw [← HCZ.out]; exact Int.mul_le_mul_of_nonneg_right (by omega) (by omega), Int.mul_nonneg (by omega) (by omega)⟩
        obtain ⟨jz, hjze⟩ : ∃ jz, (j : Int) * z = jz := ⟨_, rfl⟩
        have h2 := HCZ2.out
        rw [hjze] at hjz
        have hw2 : IntKind.i64.wrap ((j : Int) * z) = jz := by rw [hjze]; exact IntWalk.i64_in _ (by omega)
        have hw3 : IntKind.i64.wrap (sb + off + jz) = sb + off + jz := IntWalk.i64_in _ (by omega)
        have HF : Hid ((List.range (j + 1)).map f1 = (List.range j).map f1 ++ [⟨obj, sb + off + jz, n, sr, 0, 0, false⟩]) := Lib.hid (by
          rw [List.range_succ, List.map_append, List.map_singleton, HONE.out j, hjze]
          rw [if_neg HN3.out, if_neg HN3.out])
        have fj : decide ((j : Int) < cnt) = true := decide_eq_true hlt
        obtain ⟨y0, y1, y2, y3, y4, y5, y6⟩ := (HX1.out.next HB.out).cells
        simp only at y0 y1 y2 y3 y4 y5 y6
        have hNl := (HX1.out.next HB.out).lt
        obtain ⟨v9, w9, hrun, hown9, hb9⟩ := OwnC.boxed HO.out HB.out ⟨obj, sb + off + jz, n, sr, 0, 0, false⟩ (by rw [List.length_map, List.length_range]; omega)
        have HRUN := Lib.hid hrun
        have HO9 : Hid (OwnC w9 w1.heap.size v9 ((List.range (j + 1)).map f1)) := Lib.hid (by rw [HF.out]; exact hown9)
        have HB9 := Lib.hid hb9
        have hjn : j ≤ 8 := by omega
        have HM : Hid (cnt.toNat - (j + 1) < cnt.toNat - j ∧ ((j + 1 : Nat) : Int) ≤ cnt) := Lib.hid (by omega)
        clear hrun hown9 hb9 HF hjz hjze HB HO h2
        generalize hnl : ((List.range j).map f1).length = nl at *
        clear hnl
        go_wp2_with (at_builtin; refine wpList_gapp HRUN.out rfl rfl rfl rfl rfl ?_)
        go_roundw
        case rel => exact ⟨j + 1, by go_num, HM.out.2, HO9, HB9⟩
        case measure => simp [intOf]; have := HM.out.1; omega
      · have fj : decide ((j : Int) < cnt) = false := decide_eq_false hlt
        have ej : j = cnt.toNat := by omega
        have HE := Lib.hid (HEND.out (.slice An ((List.range j).map f1).length cn) wA (by rw [← ej]; exact HO.out) HB.out)
        generalize ((List.range j).map f1).length = nl at *
        clear HO HB ej hlt hj
        go_wp2
        refine bodyPost_ret (v := .tuple #[.slice An nl cn, .int .i64 0]) (by simp [results, Try.results24]) rfl ?_
        exact HE.out
  · by_cases h2 : obj = 2
    · subst h2
      clear fo1 f1n f3
      replace HE5 := Lib.hid (HE5.out HC3.out (fun _ => .inr rfl))
      replace HE0 := Lib.hid (HE0.out HC3.out (fun _ => .inr rfl))
      by_cases g7 : off % z = 0
      rotate_left
      · have HE := Lib.hid (HE5.out fun h => g7 h.1)
        have fb : (off % z == 0) = false := beq_eq_false_iff_ne.2 g7
        have fb2 : (off % z != 0) = true := by rw [bne, fb]; rfl
        clear g7 hm
        go_wp2
        refine bodyPost_ret (v := .tuple #[.slice none 0 0, .int .i64 6]) (by simp [results, Try.results24]) rfl ?_
        exact ret_bad HB1.out HE.out HL0.out (by decide)
      have fb : (off % z == 0) = true := beq_iff_eq.2 g7
      have fb2 : (off % z != 0) = false := by rw [bne, fb]; rfl
      have HG7 := Lib.hid g7
      clear g7 fb
      by_cases g8 : y < off
      · have HE := Lib.hid (HE5.out fun h => by have := h.2.1; omega)
        have fb3 : decide (y < off) = true := decide_eq_true g8
        clear hm
        go_wp2
        refine bodyPost_ret (v := .tuple #[.slice none 0 0, .int .i64 6]) (by simp [results, Try.results24]) rfl ?_
        exact ret_bad HB1.out HE.out HL0.out (by decide)
      have fb3 : decide (y < off) = false := decide_eq_false g8
      have hsub : IntKind.i64.wrap (y - off) = y - off := IntWalk.i64_in _ (by omega)
      by_cases g9 : y - off < cz
      · have HE := Lib.hid (HE5.out fun h => by have := h.2.2.1; have := HCZ.out; omega)
        have fb4 : decide (y - off < cz) = true := decide_eq_true g9
        clear g9
        go_wp2
        refine bodyPost_ret (v := .tuple #[.slice none 0 0, .int .i64 6]) (by simp [results, Try.results24]) rfl ?_
        exact ret_bad HB1.out HE.out HL0.out (by decide)
      have fb4 : decide (y - off < cz) = false := decide_eq_false g9
      have HQ0 : Hid (q = 0) := Lib.hid (HE0.out ⟨HG7.out, by omega, by have := HCZ.out; omega, fun h => absurd h (by decide)⟩)
      have HLQ := Lib.hid (HL1.out HQ0.out)
      have hw1 : IntKind.i64.wrap (sb + off) = sb + off := IntWalk.i64_in _ (by omega)
      have HEND : Hid (∀ (v : Value) (W : World), OwnC W w1.heap.size v ((List.range cnt.toNat).map f1) → Below w1.heap.size w1 W → RetEnd q l w (.returned (.tuple #[v, .int .i64 0])) W) := Lib.hid fun v W hO hB => by rw [HQ0.out, HLQ.out]; exact ⟨_, rfl, hO.base11 HB1.out.size, beln HB1.out hB⟩
      have HCZ2 := Lib.hid (show 0 < z ∧ sb + y ≤ 1099511627776 ∧ 0 ≤ sb ∧ 0 ≤ off ∧ off ≤ y ∧ cz ≤ y - off ∧ 1 ≤ cnt ∧ cnt ≤ 8 from ⟨HZ0, htop, hb0, by omega, by omega, by omega, by omega, by omega⟩)
      go_wp2
      clear fb2 hsub fb3 fb4 hm HE5 HE0 HR HL0 HL1
      go_loopw [19, 20] (fun v19 v20 wr => ∃ j : Nat, v20 = .int .i64 j ∧ (j : Int) ≤ cnt ∧ Hid (OwnC wr w1.heap.size v19 ((List.range j).map f1)) ∧ Hid (Below w1.heap.size w1 wr)) (fun _ v20 _ => cnt.toNat - (intOf v20).toNat)
      case atStart => exact ⟨0, rfl, by omega, Lib.hid (OwnG.nil _ _), Lib.hid (Below.refl _ _)⟩
      case round =>
        obtain ⟨j, rfl, hj, HO, HB⟩ := hrel
        obtain ⟨An, cn, rfl, hcn, hmn, hrn⟩ := HO.out.row GC.len
        clear hcn hmn hrn
        generalize wr = wA at *
        by_cases hlt : (j : Int) < cnt
        · have hjz : (j : Int) * z ≤ cz ∧ 0 ≤ (j : Int) * z := ⟨by rw [← HCZ.out]; exact Int.mul_le_mul_of_nonneg_right (by omega) (by omega), Int.mul_nonneg (by omega) (by omega)⟩
          obtain ⟨jz, hjze⟩ : ∃ jz, (j : Int) * z = jz := ⟨_, rfl⟩
          have h2 := HCZ2.out
          rw [hjze] at hjz
          have hw2 : IntKind.i64.wrap ((j : Int) * z) = jz := by rw [hjze]; exact IntWalk.i64_in _ (by omega)
          have hw3 : IntKind.i64.wrap (sb + off + jz) = sb + off + jz := IntWalk.i64_in _ (by omega)
          have HF : Hid ((List.range (j + 1)).map f1 = (List.range j).map f1 ++ [⟨2, sb + off + jz, n, sr, 0, 0, true⟩]) := Lib.hid (by
            rw [List.range_succ, List.map_append, List.map_singleton, HONE.out j, hjze]
            rw [if_neg (by decide), if_neg (by decide)])
          have fj : decide ((j : Int) < cnt) = true := decide_eq_true hlt
          obtain ⟨y0, y1, y2, y3, y4, y5, y6⟩ := (HX1.out.next HB.out).cells
          simp only at y0 y1 y2 y3 y4 y5 y6
          have hNl := (HX1.out.next HB.out).lt
          obtain ⟨v9, w9, hrun, hown9, hb9⟩ := OwnC.boxed HO.out HB.out ⟨2, sb + off + jz, n, sr, 0, 0, true⟩ (by rw [List.length_map, List.length_range]; omega)
          have HRUN := Lib.hid hrun
          have HO9 : Hid (OwnC w9 w1.heap.size v9 ((List.range (j + 1)).map f1)) := Lib.hid (by rw [HF.out]; exact hown9)
          have HB9 := Lib.hid hb9
          have hjn : j ≤ 8 := by omega
          have HM : Hid (cnt.toNat - (j + 1) < cnt.toNat - j ∧ ((j + 1 : Nat) : Int) ≤ cnt) := Lib.hid (by omega)
          clear hrun hown9 hb9 HF hjz hjze HB HO h2
          generalize hnl : ((List.range j).map f1).length = nl at *
          clear hnl
          go_wp2_with (at_builtin; refine wpList_gapp HRUN.out rfl rfl rfl rfl rfl ?_)
          go_roundw
          case rel => exact ⟨j + 1, by go_num, HM.out.2, HO9, HB9⟩
          case measure => simp [intOf]; have := HM.out.1; omega
        · have fj : decide ((j : Int) < cnt) = false := decide_eq_false hlt
          have ej : j = cnt.toNat := by omega
          have HE := Lib.hid (HEND.out (.slice An ((List.range j).map f1).length cn) wA (by rw [← ej]; exact HO.out) HB.out)
          generalize ((List.range j).map f1).length = nl at *
          clear HO HB ej hlt hj
          go_wp2
          refine bodyPost_ret (v := .tuple #[.slice An nl cn, .int .i64 0]) (by simp [results, Try.results24]) rfl ?_
          exact HE.out
    · have HE := Lib.hid (HR.out.e4 rfl rfl HRN.out HC3.out rfl HN1.out h2)
      have f2 : (obj == 2) = false := beq_eq_false_iff_ne.2 h2
      have f2n : (obj != 2) = true := by rw [bne, f2]; rfl
      clear hm h2
      go_wp2
      refine bodyPost_ret (v := .tuple #[.slice none 0 0, .int .i64 5]) (by simp [results, Try.results24]) rfl ?_
      exact ret_bad HB1.out HE.out HL0.out (by decide)
end Go.Proofs.Ytpjakfbjiioflaa
