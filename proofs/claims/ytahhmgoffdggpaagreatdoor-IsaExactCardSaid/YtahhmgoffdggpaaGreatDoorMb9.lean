/-
  The assembler's small methods: throw, isMark, take, skip, mark, number, comma.
  Conditions: the tokens end with one of kind 0, and no other has that kind.
  Contracts of Go's library, as the kit's shelf has them, laid at this program: each is the library's own theorem at this program's numbers.
  Conditions: as each says.
  The assembler's methods number and comma; registers' and operations' words.
  Conditions: the tokens end with one of kind 0, and no other has that kind.
-/
import Derived.Test.YtahhmgoffdggpaaGreatDoorMb8
import Derived.Test.YtahhmgoffdggpaaGreatDoorMb7
import Derived.Test.YtahhmgoffdggpaaGreatDoorMb1
import Derived.WalkSmall
import Derived.Shelf.Strings.Builder1
import Derived.Shelf.Strings.Builder2
import Derived.Shelf.Strings.OnBuilder
import Derived.Shelf.Small.Strs
import Derived.Shelf.Small.Wraps
import Derived.Shelf.Utf8.RuneCount
import Derived.Shelf.Strconv.Itoa0
import Derived.Shelf.Strconv.Itoa1
import Derived.Shelf.LaysM
import Derived.Shelf.Strconv.Itoa2
import Derived.Shelf.Strconv.Itoa3
import Derived.Shelf.Strconv.Clone
import Derived.Shelf.Strconv.Lower
import Derived.Shelf.Strconv.RangeError
import Derived.Shelf.LaysC
import Derived.Shelf.Strconv.ToErrorRange
import Derived.Shelf.Strconv.ParseUint10b64
import Derived.Ground.MpProg
import Derived.Shelf.Pu.ParseUintPublic10
import Derived.Shelf.Pu.ErrVarParseUint
import Derived.Shelf.Strings.Search1
import Derived.Shelf.Strings.Search2
import Derived.Shelf.Strings.Search3
import Derived.Shelf.Strings.Count
import Derived.Shelf.Strings.Shaped
import Derived.Shelf.Strings.LastIndex
import Derived.Shelf.Strings.Prefix
import Derived.Shelf.Strings.Split
import Derived.Shelf.Strings.RuneCount
import Derived.Test.YtahhmgoffdggpaaGreatDoorProg
import Derived.Test.YtahhmgoffdggpaaGreatDoorMb3
import Derived.Deep.MidRow
namespace Go.Proofs.YtahhmgoffdggpaaGreatDoor

open Go.RowKit

def GTok.tval (t : GTok) : Value := .agg #[.int .i64 t.kind, .string ⟨t.text.toArray⟩, .int .u64 t.value, .int .i64 t.line, .int .i64 t.col]
theorem throw_any (t : GTok) (x : Int) (w : World) : Calls Tryz.prog 80 #[t.tval, .int .i64 x] w fun e w' => e = .panicked [{ v := failV t.line t.col x, recovered := false }] ∧ Below w.heap.size w w' := by
  unfold GTok.tval
  have hp : ∀ (u : TypeId) (v : Value) (W : World), (Instr.panic (.iface u v)).run Tryz.prog W = .halt (.panic (.iface u v)) W := fun u v W => rfl
  go_enter Tryz.func80, Tryz.ntmps80
  go_wp2
  exact ⟨rfl, rfl, (Below.refl _ _).alloc (Nat.le_refl _) _⟩
theorem isMark_any (t : GTok) (m : List UInt8) (w : World) : Calls Tryz.prog 100 #[t.tval, .string ⟨m.toArray⟩] w fun e w' => e = .returned (.bool (isMk t m)) ∧ Below w.heap.size w w' := by
  have HD : Hid (isMk t m = (decide (t.kind = 4) && decide (t.text = m))) := Lib.hid rfl
  generalize isMk t m = q at *
  obtain ⟨tk, tt, tv, tl, tc⟩ := t
  simp only [GTok.tval] at *
  by_cases h1 : tk = 4
  · have f1 : (tk == 4) = true := by simp [h1]
    subst h1
    by_cases h2 : tt = m
    · have f2 : (tt == m) = true := by simp [h2]
      have HQ : Hid (q = true) := Lib.hid (by rw [HD.out]; simp [h2])
      have H2 := Lib.hid h2
      clear h2
      go_enter Tryz.func100, Tryz.ntmps100
      go_wp2
      go_ret
      exact ⟨ret_bool HQ.out.symm, (Below.refl _ _).alloc (Nat.le_refl _) _⟩
    · have f2 : (tt == m) = false := by simp [h2]
      have HQ : Hid (q = false) := Lib.hid (by rw [HD.out]; simp [h2])
      go_enter Tryz.func100, Tryz.ntmps100
      go_wp2
      go_ret
      exact ⟨ret_bool HQ.out.symm, (Below.refl _ _).alloc (Nat.le_refl _) _⟩
  · have f1 : (tk == 4) = false := by simp [h1]
    have HQ : Hid (q = false) := Lib.hid (by rw [HD.out]; simp [h1])
    go_enter Tryz.func100, Tryz.ntmps100
    go_wp2
    go_ret
    exact ⟨ret_bool HQ.out.symm, (Below.refl _ _).alloc (Nat.le_refl _) _⟩
/-- What a walk wants of the state. -/
theorem St.get {base p : Nat} {O : Nat → Prop} {w : World} {s : ASt} (h : St base p O w s) : ∃ t r b off c pv m ov, s.ts = t :: r ∧ s.hd = t ∧ StX base p O w s (some ⟨b, off, none⟩) c pv m ov ∧ b < base ∧ base ≤ p ∧ p < w.heap.size ∧ r.length + 1 ≤ c ∧ c ≤ maxLen ∧
    (w.cell? ⟨b, off, none⟩ = some (.int .i64 t.kind) ∧ w.cell? ⟨b, off + 1, none⟩ = some (.string ⟨t.text.toArray⟩) ∧ w.cell? ⟨b, off + 2, none⟩ = some (.int .u64 t.value) ∧ w.cell? ⟨b, off + 3, none⟩ = some (.int .i64 t.line) ∧ w.cell? ⟨b, off + 4, none⟩ = some (.int .i64 t.col)) ∧
    (w.cell? ⟨p, 0, none⟩ = some (.slice (some ⟨b, off, none⟩) (r.length + 1 : Nat) c) ∧ w.cell? ⟨p, 1, none⟩ = some pv ∧ w.cell? ⟨p, 2, none⟩ = some (.map (some m)) ∧ w.cell? ⟨p, 3, none⟩ = some ov ∧
    w.frozen? ⟨p, 0, none⟩ = false ∧ w.frozen? ⟨p, 1, none⟩ = false ∧ w.frozen? ⟨p, 2, none⟩ = false ∧ w.frozen? ⟨p, 3, none⟩ = false) := by
  obtain ⟨A, c, pv, m, ov, h⟩ := h
  have he := h.ends
  cases hts : s.ts with
  | nil => rw [hts] at he; exact he.elim
  | cons t r =>
    obtain ⟨b, off, rfl, hb, hx⟩ := h.head hts
    have hc := h.hc
    have hcl := h.cells
    rw [hts] at hc hcl
    exact ⟨t, r, b, off, c, pv, m, ov, rfl, by unfold ASt.hd; rw [hts]; rfl, h, hb, h.lt.1, h.lt.2, hc, h.hm, hx, hcl⟩
theorem mu_next {s : ASt} {t : GTok} {r : List GTok} (h : s.ts = t :: r) : mu s.next + 2 = mu s := by
  unfold mu ASt.next
  simp only [h, List.tail_cons, List.length_cons]
  omega
set_option maxRecDepth 50000 in
set_option maxHeartbeats 1000000 in
theorem atake_any (base p : Nat) (O : Nat → Prop) (s : ASt) (k : Int) (w : World) (h : St base p O w s) (hk0 : k ≠ 0) :
    Calls Tryz.prog 101 #[.pointer (some ⟨p, 0, none⟩), .int .i64 k] w (MEnd base p O w s GTok.tval (aTake k s)) := by
  have HS := Lib.hid h
  obtain ⟨t, r, b, off, c, pv, m, ov, hts, hhd, hX, hb, hbp, hpw, hc1, hc2, ⟨x0, x1, x2, x3, x4⟩, ⟨p0, p1, p2, p3, z0, z1, z2, z3⟩⟩ := h.get
  have HX := Lib.hid hX
  have HTS := Lib.hid hts
  have HD : Hid (aTake k s = if t.kind = k then .ok t s.next else thrAt t 50) := Lib.hid (by unfold aTake; rw [hhd])
  have HTH := Lib.hid fun W => throw_any t 50 W
  have HMU := Lib.hid (mu_next hts)
  have hbw : b < w.heap.size := by omega
  have hbn : b ≠ p := by omega
  generalize aTake k s = q at *
  by_cases hk : t.kind = k
  · have hmore := hX.ends
    rw [hts] at hmore
    obtain ⟨_, u, r2, hr2, _⟩ := hmore.more (by rw [hk]; exact hk0)
    have hl2 : 2 ≤ r.length + 1 := by rw [hr2]; simp
    have HQ : Hid (q = .ok t s.next) := Lib.hid (by rw [HD.out, if_pos hk])
    have HK : Hid (t.kind ≠ 0) := Lib.hid (by rw [hk]; exact hk0)
    have HT2 := Lib.hid (hX.tail hts (by rw [hk]; exact hk0))
    clear h hX hts hhd HD HTH HX hmore hr2 hk0
    obtain ⟨tk, tt, tv, tl, tc⟩ := t
    simp only at *
    subst hk
    have f1 : (tk != tk) = false := by simp
    have hn1 : ¬ c = 1 := by omega
    have hn2 : ¬ (1 : Int) = (c : Int) := by omega
    unfold maxLen at hc2
    generalize hrl : r.length = n at *
    go_enter Tryz.func101, Tryz.ntmps101
    go_wp2
    refine bodyPost_ret (v := .agg #[.int .i64 tk, .string ⟨tt.toArray⟩, .int .u64 tv, .int .i64 tl, .int .i64 tc]) (by simp [results, Tryz.results101, go_sem]) rfl ?_
    rw [HQ.out]
    exact ⟨rfl, by have := HMU.out; omega, O, ⟨_, _, _, _, _, (HT2.out.lit _).lit _⟩, (((Fr.refl w O).set ⟨p, 0, none⟩ _ (.inl HS.out.lt.2.2)).lit _).lit _⟩
  · have HQ : Hid (q = thrAt t 50) := Lib.hid (by rw [HD.out, if_neg hk])
    have f1 : (t.kind != k) = true := by simp [hk]
    clear h hX hts hhd HD HX
    go_enter Tryz.func101, Tryz.ntmps101
    go_wp2_with fail
    go_fit (HTH.out _)
    rintro e w1 ⟨rfl, hb1⟩
    have HB1 := Lib.hid (bel_alloc (bel_lit (Below.refl _ w) _) hb1)
    clear hb1
    go_wp2
    refine ⟨rfl, ?_⟩
    rw [HQ.out]
    exact ⟨rfl, HB1.out.mono HS.out.lo.2.2⟩
set_option maxRecDepth 50000 in
set_option maxHeartbeats 1000000 in
theorem skip_any (base p : Nat) (O : Nat → Prop) (s : ASt) (mk : List UInt8) (w : World) (h : St base p O w s) :
    Calls Tryz.prog 120 #[.pointer (some ⟨p, 0, none⟩), .string ⟨mk.toArray⟩] w (MEnd base p O w s Value.bool (aSkip mk s)) := by
  have HS := Lib.hid h
  obtain ⟨t, r, b, off, c, pv, m, ov, hts, hhd, hX, hb, hbp, hpw, hc1, hc2, ⟨x0, x1, x2, x3, x4⟩, ⟨p0, p1, p2, p3, z0, z1, z2, z3⟩⟩ := h.get
  have HX := Lib.hid hX
  have HD : Hid (aSkip mk s = if isMk t mk then .ok true s.next else .ok false s) := Lib.hid (by unfold aSkip; rw [hhd])
  have HIM := Lib.hid fun W => isMark_any t mk W
  have HMU := Lib.hid (mu_next hts)
  have hbw : b < w.heap.size := by omega
  have hbn : b ≠ p := by omega
  generalize aSkip mk s = q at *
  cases hk : isMk t mk
  · have HQ : Hid (q = .ok false s) := Lib.hid (by rw [HD.out, hk]; rfl)
    rw [hk] at HIM
    clear h hX hts hhd HD HX hk
    go_enter Tryz.func120, Tryz.ntmps120
    go_wp2_with fail
    go_fit (HIM.out _)
    rintro e w1 ⟨rfl, hb1⟩
    have HB1 := Lib.hid hb1
    clear hb1
    go_wp2
    go_ret
    rw [HQ.out]
    exact ⟨rfl, Nat.le_refl _, O, HS.out.next HB1.out, Fr.below HB1.out⟩
  · have hk4 : t.kind ≠ 0 := by
      unfold isMk at hk
      intro e
      rw [e] at hk
      simp at hk
    have hmore := hX.ends
    rw [hts] at hmore
    obtain ⟨_, u, r2, hr2, _⟩ := hmore.more hk4
    have hl2 : 2 ≤ r.length + 1 := by rw [hr2]; simp
    have HQ : Hid (q = .ok true s.next) := Lib.hid (by rw [HD.out, hk]; rfl)
    rw [hk] at HIM
    have HTL := Lib.hid fun W hW => StX.tail (base := base) (p := p) (O := O) (w := W) (s := s) (b := b) (off := off) (c := c) (pv := pv) (m := m) (ov := ov) hW hts hk4
    clear h hX hts hhd HD hk hmore hr2 hk4
    have hn1 : ¬ c = 1 := by omega
    have hn2 : ¬ (1 : Int) = (c : Int) := by omega
    unfold maxLen at hc2
    generalize hrl : r.length = n at *
    go_enter Tryz.func120, Tryz.ntmps120
    go_wp2_with fail
    go_fit (HIM.out _)
    rintro e w1 ⟨rfl, hb1⟩
    have HB1 := Lib.hid hb1
    have HX1 := Lib.hid (HX.out.next hb1)
    have hcl := HX1.out.cells
    obtain ⟨q0, _, _, _, y0, _⟩ := hcl
    have q0' : w1.cell? ⟨p, 0, none⟩ = some (.slice (some ⟨b, off, none⟩) (n + 1 : Nat) c) := (hb1.cell (p := ⟨p, 0, none⟩) hpw).trans p0
    have hpw1 : p < w1.heap.size := by have := hb1.size; omega
    clear hb1 p0 p1 p2 p3 x0 x1 x2 x3 x4 z0 z1 z2 z3 q0
    go_wp2
    go_ret
    rw [HQ.out]
    exact ⟨rfl, by have := HMU.out; omega, O, ⟨_, _, _, _, _, HTL.out _ HX1.out⟩, (Fr.below HB1.out).set ⟨p, 0, none⟩ _ (.inl HS.out.lt.2.2)⟩
set_option maxRecDepth 50000 in
set_option maxHeartbeats 1000000 in
theorem amark_any (base p : Nat) (O : Nat → Prop) (s : ASt) (mk : List UInt8) (w : World) (h : St base p O w s) :
    Calls Tryz.prog 103 #[.pointer (some ⟨p, 0, none⟩), .string ⟨mk.toArray⟩] w (MEnd base p O w s (fun _ => .tuple #[]) (aMark mk s)) := by
  have HSK := skip_any base p O s mk w h
  have hD : aMark mk s = if isMk s.hd mk then .ok () s.next else thrAt s.hd 50 := rfl
  have hD2 : aSkip mk s = if isMk s.hd mk then .ok true s.next else .ok false s := rfl
  have HBB := Lib.hid h.lo
  cases hk : isMk s.hd mk
  · rw [hk] at hD hD2
    simp only [Bool.false_eq_true, if_false] at hD hD2
    rw [hD2] at HSK
    have HQ := Lib.hid hD
    have HTH := Lib.hid fun W => throw_any s.hd 50 W
    have HK := Lib.hid HSK
    have HR : Hid (s.hd = s.hd) := Lib.hid rfl
    generalize aMark mk s = q at *
    clear hD hD2 HSK hk
    go_enter Tryz.func103, Tryz.ntmps103
    go_wp2_with fail
    go_fit HK.out
    rintro e w1 ⟨rfl, _, O1, hst1, hf1⟩
    obtain ⟨t, r, b, off, c, pv, m, ov, hts, hhd, hX, hb, hbp, hpw, hc1, hc2, ⟨x0, x1, x2, x3, x4⟩, ⟨p0, p1, p2, p3, z0, z1, z2, z3⟩⟩ := hst1.get
    rw [hhd] at HTH HQ
    have HF := Lib.hid (hf1.bel HBB.out.1 HBB.out.2.2)
    have HL1 := Lib.hid hst1.lo
    have hbw : b < w1.heap.size := by omega
    clear hst1 hf1 hX hts hhd HK HR h
    go_wp2_with fail
    go_fit (HTH.out _)
    rintro e w2 ⟨rfl, hb2⟩
    have HB2 := Lib.hid (HF.out.trans (hb2.mono HL1.out.2.2))
    clear hb2
    go_wp2
    refine ⟨rfl, ?_⟩
    rw [HQ.out]
    exact ⟨rfl, HB2.out⟩
  · rw [hk] at hD hD2
    simp only [if_true] at hD hD2
    rw [hD2] at HSK
    have HQ := Lib.hid hD
    have HK := Lib.hid HSK
    generalize aMark mk s = q at *
    clear hD hD2 HSK hk
    go_enter Tryz.func103, Tryz.ntmps103
    go_wp2_with fail
    go_fit HK.out
    rintro e w1 ⟨rfl, hmu, O1, hst1, hf1⟩
    have HST := Lib.hid hst1
    have HF := Lib.hid hf1
    have HM := Lib.hid hmu
    clear hst1 hf1 hmu
    go_wp2
    go_end0
    rw [HQ.out]
    exact ⟨rfl, HM.out, O1, HST.out, HF.out⟩
end Go.Proofs.YtahhmgoffdggpaaGreatDoor


namespace Go.Proofs
open Go.Shelf
def Tryz.laysM171_ren : Go.Shelf.Ren := ⟨fun | 171 => 47 | 243 => 68 | 246 => 91 | 283 => 111 | 284 => 112 | 285 => 113 | 286 => 114 | 129 => 98 | 317 => 129 | 318 => 130 | 319 => 131 | 320 => 132 | 337 => 144 | 338 => 145 | n => n, fun | 3 => 3 | 9 => 9 | 2 => 2 | 4 => 4 | 171 => 148 | 0 => 0 | 53 => 46 | 37 => 23 | 5 => 5 | 173 => 150 | 212 => 157 | 51 => 42 | 20 => 20 | 213 => 158 | 46 => 43 | 232 => 175 | 233 => 176 | n => n, fun | 17 => 2 | 18 => 5 | 19 => 6 | n => n⟩
theorem Tryz.laysM171 : Go.Proofs.LaysM.n171 Tryz.prog Tryz.laysM171_ren := {
  mixed := by kernel_rfl
  f129 := Tryz.func98.trans (congrArg some (by kernel_rfl))
  f171 := Tryz.func47.trans (congrArg some (by kernel_rfl))
  f243 := Tryz.func68.trans (congrArg some (by kernel_rfl))
  f246 := Tryz.func91.trans (congrArg some (by kernel_rfl))
  f283 := Tryz.func111.trans (congrArg some (by kernel_rfl))
  f284 := Tryz.func112.trans (congrArg some (by kernel_rfl))
  f285 := Tryz.func113.trans (congrArg some (by kernel_rfl))
  f286 := Tryz.func114.trans (congrArg some (by kernel_rfl))
  f317 := Tryz.func129.trans (congrArg some (by kernel_rfl))
  f318 := Tryz.func130.trans (congrArg some (by kernel_rfl))
  f319 := Tryz.func131.trans (congrArg some (by kernel_rfl))
  f320 := Tryz.func132.trans (congrArg some (by kernel_rfl))
  f337 := Tryz.func144.trans (congrArg some (by kernel_rfl))
  f338 := Tryz.func145.trans (congrArg some (by kernel_rfl))
  t0 := Tryz.underlying0
  a0 := Tryz.isAgg0
  z0 := Tryz.sizeOf0
  v0 := Tryz.zeroValue0
  t2 := Tryz.underlying2
  a2 := Tryz.isAgg2
  z2 := Tryz.sizeOf2
  v2 := Tryz.zeroValue2
  t3 := Tryz.underlying3
  a3 := Tryz.isAgg3
  z3 := Tryz.sizeOf3
  v3 := Tryz.zeroValue3
  t4 := Tryz.underlying4
  a4 := Tryz.isAgg4
  z4 := Tryz.sizeOf4
  v4 := Tryz.zeroValue4
  t5 := Tryz.underlying5
  a5 := Tryz.isAgg5
  z5 := Tryz.sizeOf5
  v5 := Tryz.zeroValue5
  t9 := Tryz.underlying9
  a9 := Tryz.isAgg9
  z9 := Tryz.sizeOf9
  v9 := Tryz.zeroValue9
  t20 := Tryz.underlying20
  a20 := Tryz.isAgg20
  z20 := Tryz.sizeOf20
  v20 := Tryz.zeroValue20
  t37 := Tryz.underlying23
  a37 := Tryz.isAgg23
  z37 := Tryz.sizeOf23
  v37 := Tryz.zeroValue23
  t46 := Tryz.underlying43
  a46 := Tryz.isAgg43
  z46 := Tryz.sizeOf43
  v46 := Tryz.zeroValue43
  t51 := Tryz.underlying42
  a51 := Tryz.isAgg42
  z51 := Tryz.sizeOf42
  v51 := Tryz.zeroValue42
  t53 := Tryz.underlying46
  a53 := Tryz.isAgg46
  z53 := Tryz.sizeOf46
  v53 := Tryz.zeroValue46
  t171 := Tryz.underlying148
  a171 := Tryz.isAgg148
  z171 := Tryz.sizeOf148
  v171 := Tryz.zeroValue148
  t173 := Tryz.underlying150
  a173 := Tryz.isAgg150
  z173 := Tryz.sizeOf150
  v173 := Tryz.zeroValue150
  t212 := Tryz.underlying157
  a212 := Tryz.isAgg157
  z212 := Tryz.sizeOf157
  v212 := Tryz.zeroValue157
  t213 := Tryz.underlying158
  a213 := Tryz.isAgg158
  z213 := Tryz.sizeOf158
  t232 := Tryz.underlying175
  a232 := Tryz.isAgg175
  z232 := Tryz.sizeOf175
  v232 := Tryz.zeroValue175
  t233 := Tryz.underlying176
  a233 := Tryz.isAgg176
  z233 := Tryz.sizeOf176
  v233 := Tryz.zeroValue176
  g17 := by kernel_rfl
  g18 := by kernel_rfl
  g19 := by kernel_rfl
  i0 := by kernel_rfl
  i2 := by kernel_rfl
  i3 := by kernel_rfl
  i4 := by kernel_rfl
  i5 := by kernel_rfl
  i9 := by kernel_rfl
  i20 := by kernel_rfl
  i37 := by kernel_rfl
  i46 := by kernel_rfl
  i51 := by kernel_rfl
  i53 := by kernel_rfl
  i171 := by kernel_rfl
  i173 := by kernel_rfl
  i212 := by kernel_rfl
  i232 := by kernel_rfl
  i233 := by kernel_rfl
  m17 := by kernel_rfl
  m18 := by kernel_rfl
  m19 := by kernel_rfl }
open Go.RowKit Go.Sort Go.Lib in
theorem Tryz.strconv_Itoa (n : Int) (h0 : -9223372036854775808 ≤ n) (h1 : n ≤ 9223372036854775807) (w : World) (htab : Lib.TabIs Tryz.prog w "internal/strconv.uint64pow10" .u64 Lib.pow10Tab) :
    Calls Tryz.prog 47 #[.int .i64 n] w fun e w' => e = .returned (.string ⟨(Lib.itoa n).toArray⟩) ∧ ∃ k os, w' = grow (w.drewN k) os := Any.strconv_Itoa Tryz.laysM171 n h0 h1 w htab
def Tryz.lays171_ren : Go.Shelf.Ren := ⟨fun | 171 => 47 | 243 => 68 | 246 => 91 | 283 => 111 | 284 => 112 | 285 => 113 | 286 => 114 | 129 => 98 | 317 => 129 | 318 => 130 | 319 => 131 | 320 => 132 | 337 => 144 | 338 => 145 | n => n, fun | 3 => 3 | 9 => 9 | 2 => 2 | 4 => 4 | 171 => 148 | 0 => 0 | 53 => 46 | 37 => 23 | 5 => 5 | 173 => 150 | 212 => 157 | 51 => 42 | 20 => 20 | 213 => 158 | 46 => 43 | 232 => 175 | 233 => 176 | n => n, fun | 17 => 2 | 18 => 5 | 19 => 6 | n => n⟩
theorem Tryz.lays171 : Go.Proofs.Lays.n171 Tryz.prog Tryz.lays171_ren := {
  mixed := by kernel_rfl
  f129 := Tryz.func98.trans (congrArg some (by kernel_rfl))
  f171 := Tryz.func47.trans (congrArg some (by kernel_rfl))
  f243 := Tryz.func68.trans (congrArg some (by kernel_rfl))
  f246 := Tryz.func91.trans (congrArg some (by kernel_rfl))
  f283 := Tryz.func111.trans (congrArg some (by kernel_rfl))
  f284 := Tryz.func112.trans (congrArg some (by kernel_rfl))
  f285 := Tryz.func113.trans (congrArg some (by kernel_rfl))
  f286 := Tryz.func114.trans (congrArg some (by kernel_rfl))
  f317 := Tryz.func129.trans (congrArg some (by kernel_rfl))
  f318 := Tryz.func130.trans (congrArg some (by kernel_rfl))
  f319 := Tryz.func131.trans (congrArg some (by kernel_rfl))
  f320 := Tryz.func132.trans (congrArg some (by kernel_rfl))
  f337 := Tryz.func144.trans (congrArg some (by kernel_rfl))
  f338 := Tryz.func145.trans (congrArg some (by kernel_rfl))
  t0 := Tryz.underlying0
  a0 := Tryz.isAgg0
  z0 := Tryz.sizeOf0
  v0 := Tryz.zeroValue0
  t2 := Tryz.underlying2
  a2 := Tryz.isAgg2
  z2 := Tryz.sizeOf2
  v2 := Tryz.zeroValue2
  t3 := Tryz.underlying3
  a3 := Tryz.isAgg3
  z3 := Tryz.sizeOf3
  v3 := Tryz.zeroValue3
  t4 := Tryz.underlying4
  a4 := Tryz.isAgg4
  z4 := Tryz.sizeOf4
  v4 := Tryz.zeroValue4
  t5 := Tryz.underlying5
  a5 := Tryz.isAgg5
  z5 := Tryz.sizeOf5
  v5 := Tryz.zeroValue5
  t9 := Tryz.underlying9
  a9 := Tryz.isAgg9
  z9 := Tryz.sizeOf9
  v9 := Tryz.zeroValue9
  t20 := Tryz.underlying20
  a20 := Tryz.isAgg20
  z20 := Tryz.sizeOf20
  v20 := Tryz.zeroValue20
  t37 := Tryz.underlying23
  a37 := Tryz.isAgg23
  z37 := Tryz.sizeOf23
  v37 := Tryz.zeroValue23
  t46 := Tryz.underlying43
  a46 := Tryz.isAgg43
  z46 := Tryz.sizeOf43
  v46 := Tryz.zeroValue43
  t51 := Tryz.underlying42
  a51 := Tryz.isAgg42
  z51 := Tryz.sizeOf42
  v51 := Tryz.zeroValue42
  t53 := Tryz.underlying46
  a53 := Tryz.isAgg46
  z53 := Tryz.sizeOf46
  v53 := Tryz.zeroValue46
  t171 := Tryz.underlying148
  a171 := Tryz.isAgg148
  z171 := Tryz.sizeOf148
  v171 := Tryz.zeroValue148
  t173 := Tryz.underlying150
  a173 := Tryz.isAgg150
  z173 := Tryz.sizeOf150
  v173 := Tryz.zeroValue150
  t212 := Tryz.underlying157
  a212 := Tryz.isAgg157
  z212 := Tryz.sizeOf157
  v212 := Tryz.zeroValue157
  t213 := Tryz.underlying158
  a213 := Tryz.isAgg158
  z213 := Tryz.sizeOf158
  t232 := Tryz.underlying175
  a232 := Tryz.isAgg175
  z232 := Tryz.sizeOf175
  v232 := Tryz.zeroValue175
  t233 := Tryz.underlying176
  a233 := Tryz.isAgg176
  z233 := Tryz.sizeOf176
  v233 := Tryz.zeroValue176
  g17 := by kernel_rfl
  g18 := by kernel_rfl
  g19 := by kernel_rfl }
open Go.RowKit Go.Sort Go.Lib in
theorem Tryz.strconv_Itoa_small (i : Nat) (hi : i < 100) (w : World) :
    Calls Tryz.prog 47 #[.int .i64 i] w fun e w' => e = .returned (.string ⟨(Lib.decDigits i).toArray⟩) ∧ w' = w := Any.strconv_Itoa_small Tryz.lays171 i hi w
def Tryz.lays138_ren : Go.Shelf.Ren := ⟨fun | 138 => 55 | 195 => 81 | 218 => 82 | 143 => 83 | 219 => 106 | 217 => 93 | 225 => 125 | 224 => 126 | 267 => 127 | 266 => 115 | 314 => 143 | n => n, fun | 9 => 9 | 3 => 3 | 4 => 4 | 5 => 5 | 0 => 0 | 46 => 43 | 146 => 168 | 51 => 42 | n => n, fun | 1 => 1 | n => n⟩
theorem Tryz.lays138 : Go.Proofs.Lays.n138 Tryz.prog Tryz.lays138_ren := {
  mixed := by kernel_rfl
  f138 := Tryz.func55.trans (congrArg some (by kernel_rfl))
  f143 := Tryz.func83.trans (congrArg some (by kernel_rfl))
  f195 := Tryz.func81.trans (congrArg some (by kernel_rfl))
  f217 := Tryz.func93.trans (congrArg some (by kernel_rfl))
  f218 := Tryz.func82.trans (congrArg some (by kernel_rfl))
  f219 := Tryz.func106.trans (congrArg some (by kernel_rfl))
  f224 := Tryz.func126.trans (congrArg some (by kernel_rfl))
  f225 := Tryz.func125.trans (congrArg some (by kernel_rfl))
  f266 := Tryz.func115.trans (congrArg some (by kernel_rfl))
  f267 := Tryz.func127.trans (congrArg some (by kernel_rfl))
  f314 := Tryz.func143.trans (congrArg some (by kernel_rfl))
  t0 := Tryz.underlying0
  a0 := Tryz.isAgg0
  z0 := Tryz.sizeOf0
  v0 := Tryz.zeroValue0
  t3 := Tryz.underlying3
  a3 := Tryz.isAgg3
  z3 := Tryz.sizeOf3
  v3 := Tryz.zeroValue3
  t4 := Tryz.underlying4
  a4 := Tryz.isAgg4
  z4 := Tryz.sizeOf4
  v4 := Tryz.zeroValue4
  t5 := Tryz.underlying5
  a5 := Tryz.isAgg5
  z5 := Tryz.sizeOf5
  v5 := Tryz.zeroValue5
  t9 := Tryz.underlying9
  a9 := Tryz.isAgg9
  z9 := Tryz.sizeOf9
  v9 := Tryz.zeroValue9
  t46 := Tryz.underlying43
  a46 := Tryz.isAgg43
  z46 := Tryz.sizeOf43
  v46 := Tryz.zeroValue43
  t51 := Tryz.underlying42
  a51 := Tryz.isAgg42
  z51 := Tryz.sizeOf42
  v51 := Tryz.zeroValue42
  t146 := Tryz.underlying168
  a146 := Tryz.isAgg168
  z146 := Tryz.sizeOf168
  v146 := Tryz.zeroValue168
  g1 := by kernel_rfl }
open Go.RowKit Go.Lib in
theorem Tryz.strings_Count_one (s : ByteArray) (c : UInt8) (w : World) :
    Calls Tryz.prog 55 #[.string s, .string ⟨#[c]⟩] w fun e w' => e = .returned (.int .i64 (Lib.countByte s.data.toList c)) ∧ w' = w := Any.strings_Count_one Tryz.lays138 s c w
def Tryz.lays149_ren : Go.Shelf.Ren := ⟨fun | 149 => 56 | 222 => 84 | n => n, fun | 9 => 9 | 5 => 5 | 3 => 3 | 4 => 4 | n => n, fun | n => n⟩
theorem Tryz.lays149 : Go.Proofs.Lays.n149 Tryz.prog Tryz.lays149_ren := {
  mixed := by kernel_rfl
  f149 := Tryz.func56.trans (congrArg some (by kernel_rfl))
  f222 := Tryz.func84.trans (congrArg some (by kernel_rfl))
  t3 := Tryz.underlying3
  a3 := Tryz.isAgg3
  z3 := Tryz.sizeOf3
  v3 := Tryz.zeroValue3
  t4 := Tryz.underlying4
  a4 := Tryz.isAgg4
  z4 := Tryz.sizeOf4
  v4 := Tryz.zeroValue4
  t5 := Tryz.underlying5
  a5 := Tryz.isAgg5
  z5 := Tryz.sizeOf5
  v5 := Tryz.zeroValue5
  t9 := Tryz.underlying9
  a9 := Tryz.isAgg9
  z9 := Tryz.sizeOf9
  v9 := Tryz.zeroValue9 }
open Go.RowKit Go.Lib in
theorem Tryz.strings_LastIndexByte (s : ByteArray) (c : Int) (hs : s.size < 4611686018427387904) (w : World) :
    Calls Tryz.prog 56 #[.string s, .int .u8 c] w fun e w' => e = .returned (.int .i64 (Lib.lastIndexByte s c)) ∧ w' = w := Any.strings_LastIndexByte Tryz.lays149 s c hs w
end Go.Proofs


namespace Go.Proofs.YtahhmgoffdggpaaGreatDoor

open Go.RowKit

set_option maxRecDepth 50000 in
set_option maxHeartbeats 1000000 in
theorem anumber_any (base p : Nat) (O : Nat → Prop) (s : ASt) (g : Int) (w : World) (h : St base p O w s) :
    Calls Tryz.prog 141 #[.pointer (some ⟨p, 0, none⟩), .int .u64 g] w (MEnd base p O w s (fun v => .int .u64 v) (aNumber g s)) := by
  have HTK := Lib.hid (atake_any base p O s 2 w h (by decide))
  have HD : Hid (aNumber g s = (aTake 2 s).bind fun t s1 => if g < t.value then thrAt t 6 else .ok t.value s1) := Lib.hid rfl
  have HBB := Lib.hid h.lo
  generalize aNumber g s = q at *
  generalize aTake 2 s = r at *
  clear h
  rcases r with ⟨t, s1⟩ | ⟨l, c, x⟩
  · have HTH := Lib.hid fun W => throw_any t 6 W
    by_cases hg : g < t.value
    · have HQ : Hid (q = thrAt t 6) := Lib.hid (by rw [HD.out]; show (if g < t.value then _ else _) = _; rw [if_pos hg])
      have f1 : decide (g < t.value) = true := by simp [hg]
      clear HD
      obtain ⟨tk, tt, tv, tl, tc⟩ := t
      simp only [GTok.tval] at *
      go_enter Tryz.func141, Tryz.ntmps141
      go_wp2_with fail
      go_fit HTK.out
      rintro e w1 ⟨he, hmu, O1, hst1, hf1⟩
      simp only [GTok.tval] at he
      subst he
      have HF := Lib.hid (hf1.bel HBB.out.1 HBB.out.2.2)
      have HL1 := Lib.hid hst1.lo
      clear hmu hst1 hf1
      go_wp2_with fail
      go_fit (HTH.out _)
      rintro e w2 ⟨rfl, hb2⟩
      have HB2 := Lib.hid (HF.out.trans ((bel_alloc (Below.refl _ w1) hb2).mono HL1.out.2.2))
      clear hb2
      go_wp2
      refine ⟨rfl, ?_⟩
      rw [HQ.out]
      exact ⟨rfl, HB2.out⟩
    · have HQ : Hid (q = .ok t.value s1) := Lib.hid (by rw [HD.out]; show (if g < t.value then _ else _) = _; rw [if_neg hg])
      have f1 : decide (g < t.value) = false := by simp [hg]
      clear HD
      obtain ⟨tk, tt, tv, tl, tc⟩ := t
      simp only [GTok.tval] at *
      go_enter Tryz.func141, Tryz.ntmps141
      go_wp2_with fail
      go_fit HTK.out
      rintro e w1 ⟨he, hmu, O1, hst1, hf1⟩
      simp only [GTok.tval] at he
      subst he
      have HST := Lib.hid hst1
      have HF := Lib.hid hf1
      have HM := Lib.hid hmu
      clear hst1 hf1 hmu
      go_wp2
      go_ret
      rw [HQ.out]
      exact ⟨rfl, HM.out, O1, HST.out.lit _, HF.out.lit _⟩
  · have HQ : Hid (q = .thr l c x) := Lib.hid HD.out
    go_enter Tryz.func141, Tryz.ntmps141
    go_wp2_with fail
    go_fit HTK.out
    rintro e w1 ⟨rfl, hb1⟩
    have HB1 := Lib.hid hb1
    clear hb1
    go_wp2
    refine ⟨rfl, ?_⟩
    rw [HQ.out]
    exact ⟨rfl, HB1.out⟩
set_option maxRecDepth 50000 in
set_option maxHeartbeats 1000000 in
theorem comma_any (base p : Nat) (O : Nat → Prop) (s : ASt) (i : Nat) (w : World) (h : St base p O w s) :
    Calls Tryz.prog 121 #[.pointer (some ⟨p, 0, none⟩), .int .i64 i] w (MEnd base p O w s (fun _ => .tuple #[]) (aComma i s)) := by
  have HS := Lib.hid h
  have HMK := Lib.hid (amark_any base p O s [44] w h)
  have HD : Hid (aComma i s = if 0 < i then aMark [44] s else .ok () s) := Lib.hid rfl
  generalize aComma i s = q at *
  generalize aMark [44] s = r at *
  clear h
  by_cases hi : 0 < i
  · have HQ : Hid (q = r) := Lib.hid (by rw [HD.out, if_pos hi])
    have f1 : decide ((0 : Int) < i) = true := by simp; omega
    rcases r with ⟨u, s1⟩ | ⟨l, c, x⟩
    · go_enter Tryz.func121, Tryz.ntmps121
      go_wp2_with fail
      go_fit HMK.out
      rintro e w1 ⟨rfl, hmu, O1, hst1, hf1⟩
      have HST := Lib.hid hst1
      have HF := Lib.hid hf1
      have HM := Lib.hid hmu
      clear hst1 hf1 hmu
      go_wp2
      go_end0
      rw [HQ.out]
      exact ⟨rfl, HM.out, O1, HST.out, HF.out⟩
    · go_enter Tryz.func121, Tryz.ntmps121
      go_wp2_with fail
      go_fit HMK.out
      rintro e w1 ⟨rfl, hb1⟩
      have HB1 := Lib.hid hb1
      clear hb1
      go_wp2
      refine ⟨rfl, ?_⟩
      rw [HQ.out]
      exact ⟨rfl, HB1.out⟩
  · have HQ : Hid (q = .ok () s) := Lib.hid (by rw [HD.out, if_neg hi])
    obtain rfl : i = 0 := by omega
    go_enter Tryz.func121, Tryz.ntmps121
    go_wp2
    go_end0
    rw [HQ.out]
    exact ⟨rfl, Nat.le_refl _, O, HS.out, Fr.refl _ _⟩
theorem regW_eq {n : Nat} (h : n < 16) : regW n = 114 :: Lib.decDigits n := by
  have : ∀ n : Fin 16, regW n = 114 :: Lib.decDigits n := by decide +kernel
  exact this ⟨n, h⟩
theorem regW_len {n : Nat} (h : n < 16) : (Lib.decDigits n).length ≤ 2 := by
  have : ∀ n : Fin 16, (Lib.decDigits n).length ≤ 2 := by decide +kernel
  exact this ⟨n, h⟩
theorem registerWord_any (n : Nat) (hn : n < 16) (w : World) : Calls Tryz.prog 48 #[.int .i64 n] w fun e w' => e = .returned (.string ⟨(regW n).toArray⟩) ∧ w = w' := by
  have HI := Lib.hid (Tryz.strconv_Itoa_small n (by omega) w)
  have HE := Lib.hid (regW_eq hn)
  have hl := regW_len hn
  generalize Lib.decDigits n = d at *
  generalize regW n = r at *
  have hsz : (⟨d.toArray⟩ : ByteArray).size = d.length := by rw [ByteArray.size]; simp
  go_enter Tryz.func48, Tryz.ntmps48
  go_wp2_with fail
  go_fit HI.out
  rintro e w1 ⟨rfl, hww⟩
  obtain rfl : w = w1 := hww.symm
  go_wp2
  go_ret
  refine ⟨?_, rfl⟩
  rw [HE.out]
  show Ending.returned (.string (⟨#[114]⟩ ++ ⟨d.toArray⟩)) = _
  congr 2
set_option maxRecDepth 50000 in
set_option maxHeartbeats 1000000 in
theorem register_any (s : List UInt8) (w : World) : Calls Tryz.prog 102 #[.string ⟨s.toArray⟩] w fun e w' => e = .returned (.tuple #[.int .i64 ((regNo s).getD 0 : Nat), .bool (regNo s).isSome]) ∧ Below w.heap.size w w' := by
  have HD : Hid (regNo s = firstN (fun n => decide (regW n = s)) 0 16) := Lib.hid rfl
  generalize regNo s = q at *
  have HR := Lib.hid fun (n : Nat) (hn : n < 16) W => registerWord_any n hn W
  go_enter Tryz.func102, Tryz.ntmps102
  go_wp2
  go_loopw [5] (fun vi wr => ∃ k : Nat, vi = .int .i64 k ∧ k ≤ 16 ∧ Hid (q = firstN (fun n => decide (regW n = s)) k (16 - k)) ∧ Hid (Below w.heap.size w wr)) (fun vi _ => 16 - (intOf vi).toNat)
  case atStart => exact ⟨0, rfl, by omega, HD, Lib.hid (Below.refl _ _)⟩
  case round =>
    obtain ⟨k, rfl, hk, HT, HB⟩ := hrel
    by_cases hlt : k < 16
    · have hs := firstN_step (f := fun n => decide (regW n = s)) hlt
      have HQ : Hid (q = if decide (regW k = s) then some k else firstN (fun n => decide (regW n = s)) (k + 1) (16 - (k + 1))) := Lib.hid (by rw [HT.out, hs])
      have HW := Lib.hid fun W => HR.out k hlt W
      have f0 : decide ((k : Int) < 16) = true := by simp; omega
      clear hs HT HD
      generalize hrw : regW k = rw at *
      by_cases he : rw = s
      · have f1 : (rw == s) = true := by simp [he]
        have HE : Hid (q = some k) := Lib.hid (by rw [HQ.out, if_pos (by simp [he])])
        have HH := Lib.hid he
        clear he
        go_wp2_with fail
        go_fit (HW.out _)
        rintro e w2 ⟨rfl, hww⟩
        obtain rfl := hww
        go_wp2
        refine bodyPost_ret (v := .tuple #[.int .i64 k, .bool true]) (by simp [results, Tryz.results102, go_sem]) rfl ?_
        rw [HE.out]
        exact ⟨rfl, HB.out⟩
      · have f1 : (rw == s) = false := by simp [he]
        have HE : Hid (q = firstN (fun n => decide (regW n = s)) (k + 1) (16 - (k + 1))) := Lib.hid (by rw [HQ.out, if_neg (by simp [he])])
        go_wp2_with fail
        go_fit (HW.out _)
        rintro e w2 ⟨rfl, hww⟩
        obtain rfl := hww
        go_wp2
        go_round
        case rel => exact ⟨k + 1, by go_num, by omega, HE, HB⟩
        case measure => simp [intOf]; omega
    · obtain rfl : k = 16 := by omega
      have HE : Hid (q = none) := Lib.hid (by rw [HT.out]; rfl)
      go_wp2
      refine bodyPost_ret (v := .tuple #[.int .i64 0, .bool false]) (by simp [results, Tryz.results102, go_sem]) rfl ?_
      rw [HE.out]
      exact ⟨rfl, HB.out⟩
end Go.Proofs.YtahhmgoffdggpaaGreatDoor
