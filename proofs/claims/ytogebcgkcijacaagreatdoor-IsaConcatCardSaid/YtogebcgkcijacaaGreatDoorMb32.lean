/-
  The reference's Same, and the model's == at instructions.
  Conditions: none.
  The law IsaRoundTrip returns true, whatever the numbers and the bytes.
  Conditions: the listed variables lie as the program's start lays them.
  Tokens renamed one by one, as lists; two lists of one's own, one of them grown. Plain, but for the last.
  Conditions: as each theorem says.
-/
import Derived.Test.YtogebcgkcijacaaGreatDoorMb30
import Derived.Test.YtogebcgkcijacaaGreatDoorMb31
import Derived.Test.YtogebcgkcijacaaGreatDoorMb25
import Derived.Test.YtogebcgkcijacaaGreatDoorMb28
import Derived.Laws.StructEq
import Derived.Test.YtogebcgkcijacaaGreatDoorMb10
namespace Go.Proofs.YtogebcgkcijacaaGreatDoor

open Go.RowKit Go.Shelf

/-- Two instructions are equal. -/
def eqI (x y : GIns) : Bool := x.op == y.op && (x.a == y.a && (x.b == y.b && (x.c == y.c && x.imm == y.imm)))
theorem eqI_iff (x y : GIns) : eqI x y = true ↔ x = y := by
  cases x; cases y
  simp [eqI]
theorem ins_eql (x y : GIns) (w : World) : (Op.equalIn 10000 52 x.val y.val).run Tryz.prog w = .ok (eqI x y) w := by
  have u3 := Tryz.underlying3
  have u2 := Tryz.underlying21
  have hS : Tryz.prog.underlying 52 = some (.struct (Tryz.prog.fieldsOf 52)) := by kernel_rfl
  have hp : Tryz.prog.stoodInHeld 52 = false := by kernel_rfl
  have a3 := Tryz.isAgg3
  have z3 := Tryz.sizeOf3
  have a2 := Tryz.isAgg21
  have z2 := Tryz.sizeOf21
  unfold eqI
  simp only [GIns.val]
  rw [show (10000 : Nat) = 9999 + 1 from rfl, run_equalIn_struct w 9999 52 _ _ hS hp]
  simp only [Program.fieldsOf, Tryz.underlying52]
  go_simp
  by_cases h0 : x.op = y.op
  rotate_left
  · simp [h0]
  by_cases h1 : x.a = y.a
  rotate_left
  · simp [h0, h1]
  by_cases h2 : x.b = y.b
  rotate_left
  · simp [h0, h1, h2]
  by_cases h3 : x.c = y.c
  rotate_left
  · simp [h0, h1, h2, h3]
  by_cases h4 : x.imm = y.imm <;> simp [h0, h1, h2, h3, h4]
set_option maxRecDepth 20000 in
set_option maxHeartbeats 1000000 in
theorem rSmi_any (xs ys : List GIns) (A B : Option Addr) (c d : Nat) (w : World) (h1 : GRow GIns.cells 5 w w.heap.size A xs) (h2 : GRow GIns.cells 5 w w.heap.size B ys) (hl : xs.length ≤ 17179869184) (hl2 : ys.length ≤ 17179869184) :
    Calls Tryz.prog 13 #[.slice A xs.length c, .slice B ys.length d] w fun e w' => e = .returned (.bool (decide (xs = ys))) ∧ Below w.heap.size w w' := by
  have H1 := Lib.hid h1
  have H2 := Lib.hid h2
  have HD : Hid (decide (xs = ys) = decide (xs = ys)) := Lib.hid rfl
  generalize hq : decide (xs = ys) = q at *
  clear h1 h2 HD
  by_cases hn : xs.length = ys.length
  case neg =>
    have HQ : Hid (q = false) := Lib.hid (by rw [← hq, decide_eq_false_iff_not]; exact fun e => hn (by rw [e]))
    have f1 : ((xs.length : Int) != (ys.length : Int)) = true := by simp; omega
    clear hq hn
    generalize xs.length = n at *
    generalize ys.length = m at *
    go_enter Tryz.func13, Tryz.ntmps13
    go_wp2
    go_ret
    exact ⟨congrArg (fun b => Ending.returned (Value.bool b)) HQ.out.symm, Below.refl _ _⟩
  have HN := Lib.hid hn
  have f1 : ((xs.length : Int) != (ys.length : Int)) = false := by simp; omega
  have HQ := Lib.hid hq
  clear hq hn
  go_enter Tryz.func13, Tryz.ntmps13
  go_wp2
  clear f1
  go_loopw [5] (fun vi wr => ∃ k : Nat, vi = .int .i64 k ∧ k ≤ xs.length ∧ Hid (xs.take k = ys.take k) ∧ Hid (Below w.heap.size w wr)) (fun vi _ => xs.length - (intOf vi).toNat)
  case atStart => exact ⟨0, rfl, Nat.zero_le _, Lib.hid (by simp), Lib.hid (Below.refl _ _)⟩
  case round =>
    obtain ⟨k, rfl, hk, HT, HB⟩ := hrel
    rcases Nat.lt_or_ge k xs.length with hlt | hge
    · have hlt2 : k < ys.length := by have := HN.out; omega
      obtain ⟨b1, o1, rfl, hb1, x0, x1, x2, x3, x4⟩ := (H1.out.next HB.out).ins hlt
      obtain ⟨b2, o2, rfl, hb2, y0, y1, y2, y3, y4⟩ := (H2.out.next HB.out).ins hlt2
      have HBD := Lib.hid HB.out.drew
      have HEQ := Lib.hid fun W => ins_eql xs[k] ys[k] W
      rcases he : eqI xs[k] ys[k] with _ | _
      · have HF : Hid (q = false) := Lib.hid (by
          rw [← HQ.out, decide_eq_false_iff_not]
          rintro rfl
          rw [(eqI_iff _ _).2 rfl] at he; cases he)
        rw [he] at HEQ
        have heq := fun W => HEQ.out W
        generalize xs[k] = x at *
        generalize ys[k] = y at *
        obtain ⟨xo, xa, xb, xc, xi⟩ := x
        obtain ⟨yo, ya, yb, yc, yi⟩ := y
        simp only [GIns.val] at heq x0 x1 x2 x3 x4 y0 y1 y2 y3 y4
        clear he HEQ
        go_upto_region 6 with fail
        go_region
        go_wp2
        go_ret
        exact ⟨congrArg (fun b => Ending.returned (Value.bool b)) HF.out.symm, HBD.out⟩
      · have HT2 : Hid (xs.take (k + 1) = ys.take (k + 1)) := Lib.hid (by rw [List.take_succ_eq_append_getElem hlt, List.take_succ_eq_append_getElem hlt2, HT.out, (eqI_iff _ _).1 he])
        rw [he] at HEQ
        have heq := fun W => HEQ.out W
        generalize xs[k] = x at *
        generalize ys[k] = y at *
        obtain ⟨xo, xa, xb, xc, xi⟩ := x
        obtain ⟨yo, ya, yb, yc, yi⟩ := y
        simp only [GIns.val] at heq x0 x1 x2 x3 x4 y0 y1 y2 y3 y4
        clear he HEQ
        go_upto_region 6 with fail
        go_region
        go_wp2
        go_roundw
        case rel => exact ⟨k + 1, by go_num, by omega, HT2, HBD⟩
        case measure => simp [intOf]; omega
    · have HF : Hid (q = true) := Lib.hid (by
        rw [← HQ.out, decide_eq_true_eq]
        have h9 := HT.out
        have h8 := HN.out
        rwa [List.take_of_length_le hge, List.take_of_length_le (by omega)] at h9)
      go_wp2
      go_ret
      exact ⟨congrArg (fun b => Ending.returned (Value.bool b)) HF.out.symm, HB.out⟩
end Go.Proofs.YtogebcgkcijacaaGreatDoor


namespace Go.Proofs.YtogebcgkcijacaaGreatDoor

open Go.RowKit Go.Shelf

theorem Byt.next9 {w w' : World} {A : Option Addr} {n : Nat} {l : List UInt8} (h : Byt w w.heap.size A n l) (hb : Below w.heap.size w w') : Byt w' w'.heap.size A n l := (h.below hb).wide hb.size
theorem enc9 (ps : List GIns) (A : Option Addr) (c : Nat) (w : World) (hG : GlobP w) (h : GRow GIns.cells 5 w w.heap.size A ps) (hi : ∀ x ∈ ps, ImmOk x) (hv : valP ps = 0) :
    Calls Tryz.prog 9 #[.slice A ps.length c] w fun e w' => ∃ g, e = .returned (.tuple #[.slice (some ⟨g, 0, none⟩) (8 * ps.length) (8 * ps.length), .int .i64 0]) ∧ Byt w' w'.heap.size (some ⟨g, 0, none⟩) (8 * ps.length) (encL ps) ∧ Below w.heap.size w w' := by
  refine (encode_any ps A c w hG.1.2 h hi).mono ?_
  rintro e w' ⟨hb, h2⟩
  rw [if_pos hv] at h2
  obtain ⟨g, rfl, _, hbuf⟩ := h2
  have := hbuf.byt 0 (8 * ps.length) (by rw [length_encL]; omega)
  rw [List.drop_zero, List.take_of_length_le (by rw [length_encL]; omega)] at this
  exact ⟨g, rfl, this.wide (by have := hbuf.lt; omega), hb⟩
theorem dec9 (l : List UInt8) (A : Option Addr) (c : Nat) (w : World) (hG : GlobP w) (h : Byt w w.heap.size A l.length l) (hl : l.length ≤ 4294967296) (h8 : l.length % 8 = 0) (hv : valP (decP l) = 0) :
    Calls Tryz.prog 11 #[.slice A l.length c] w fun e w' => ∃ g, e = .returned (.tuple #[.slice (some ⟨g, 0, none⟩) (decP l).length (decP l).length, .int .i64 0]) ∧ GRow GIns.cells 5 w' w'.heap.size (some ⟨g, 0, none⟩) (decP l) ∧ Below w.heap.size w w' := by
  refine (decode_any l A c w h hl hG.1.2).mono ?_
  rintro e w' ⟨hb, h2⟩
  rw [if_neg (by omega), if_pos hv] at h2
  obtain ⟨g, rfl, _, hd⟩ := h2
  exact ⟨g, by rw [decP_len], hd.row, hb⟩
theorem dec9_bad (l : List UInt8) (A : Option Addr) (c : Nat) (w : World) (hG : GlobP w) (h : Byt w w.heap.size A l.length l) (hl : l.length ≤ 4294967296) (hv : ¬ (l.length % 8 = 0 ∧ valP (decP l) = 0)) :
    Calls Tryz.prog 11 #[.slice A l.length c] w fun e w' => ∃ x : Int, e = .returned (.tuple #[.slice none 0 0, .int .i64 x]) ∧ x ≠ 0 ∧ Below w.heap.size w w' := by
  refine (decode_any l A c w h hl hG.1.2).mono ?_
  rintro e w' ⟨hb, h2⟩
  by_cases h8 : l.length % 8 = 0
  · rw [if_neg (by omega), if_neg (fun hh => hv ⟨h8, hh⟩)] at h2
    exact ⟨_, h2, fun hh => hv ⟨h8, hh⟩, hb⟩
  · rw [if_pos h8] at h2
    exact ⟨_, h2, by decide, hb⟩
theorem asm9 (ps : List GIns) (h : AllOk ps.length ps) (h1 : 1 ≤ ps.length) (h2 : ps.length ≤ 12) (w : World) (hG : GlobP w) :
    Calls Tryz.prog 18 #[.string ⟨(disF ps ps.length).toArray⟩] w fun e w' => ∃ A c, e = .returned (.tuple #[.slice A ps.length c, .agg #[.int .i64 0, .int .i64 0], .int .i64 0]) ∧ GRow GIns.cells 5 w' w'.heap.size A ps ∧ Below w.heap.size w w' := by
  obtain ⟨s, hs, hp⟩ := dis_asm h h1 (by omega)
  have hl := disF_len ps h.imm (by omega) ps.length (Nat.le_refl _)
  have ha := asm_any (disF ps ps.length) w (by unfold maxLen; omega) hG.1.1 hG.1.2
  rw [hs] at ha
  refine ha.mono ?_
  intro e w' hE
  obtain ⟨pv, rfl, hown, hb⟩ := hE
  rw [hp] at hown
  obtain ⟨A1, c1, hv, _, _, hrow⟩ := hown.row GIns.len
  subst hv
  exact ⟨A1, c1, rfl, hrow, hb⟩
set_option maxRecDepth 50000 in
set_option maxHeartbeats 2000000 in
theorem roundtrip9 (A : Option Addr) (len cap : Nat) (zs : List Int) (B : Option Addr) (lb cb : Nat) (l : List UInt8) (w : World) (hG : GlobP w) (hr : IRow w w.heap.size A len cap zs) (hl : Byt w w.heap.size B lb l) :
    Calls Tryz.prog 5 #[.slice A len cap, .slice B lb cb] w fun e w' => e = .returned (.bool true) ∧ Below w.heap.size w w' := by
  obtain rfl : l.length = lb := hl.1
  have HG := Lib.hid hG
  have HAW := Lib.hid fun W (hW : GlobP W) => awake9 W hW.1
  by_cases hbig : 200 < len ∨ 1000 < l.length
  · have HA0 := Lib.hid (HAW.out w hG)
    clear hG hr hl
    have f0 : (if decide ((200 : Int) < len) = true then true else decide ((1000 : Int) < (l.length : Int))) = true := by
      rcases hbig with h | h
      · rw [if_pos (by simp; omega)]
      · split
        · rfl
        · simp; omega
    rcases Nat.lt_or_ge 200 len with h | h
    · have f1 : decide ((200 : Int) < len) = true := by simp; omega
      clear hbig f0
      go_enter Tryz.func5, Tryz.ntmps5
      go_wp2_with fail
      go_fit HA0.out
      rintro e w1 ⟨rfl, hb1⟩
      have HB1 := Lib.hid hb1
      clear hb1
      go_wp2
      go_ret
      exact ⟨rfl, HB1.out⟩
    · have f1 : decide ((200 : Int) < len) = false := by simp; omega
      have f2 : decide ((1000 : Int) < (l.length : Int)) = true := by simp; omega
      clear hbig f0
      go_enter Tryz.func5, Tryz.ntmps5
      go_wp2_with fail
      go_fit HA0.out
      rintro e w1 ⟨rfl, hb1⟩
      have HB1 := Lib.hid hb1
      clear hb1
      go_wp2
      go_ret
      exact ⟨rfl, HB1.out⟩
  have f1 : decide ((200 : Int) < len) = false := by simp; omega
  have f2 : decide ((1000 : Int) < (l.length : Int)) = false := by simp; omega
  have hl1 : l.length ≤ 1000 := by omega
  have HPK := Lib.hid (program_kit A len cap zs w hr)
  have HL := Lib.hid hl
  clear hG hr hl hbig
  go_enter Tryz.func5, Tryz.ntmps5
  go_wp2_with fail
  go_fit HPK.out
  rintro e w1 ⟨v, ps, rfl, hown, hn1, hn2, hall, hb1⟩
  have HB1 := Lib.hid hb1
  have HALL := Lib.hid hall
  obtain ⟨A1, c1, hv, hcap1, _, hrow⟩ := hown.row GIns.len
  subst hv
  have HROW := Lib.hid hrow
  have HV := Lib.hid (hall.valP hn1 (by omega))
  have HG1 := Lib.hid (HG.out.next hb1)
  have HL1 := Lib.hid (HL.out.next9 hb1)
  have HEN := Lib.hid (enc9 ps A1 c1 w1 HG1.out hrow hall.imm HV.out)
  have hbyt : ∀ x ∈ ps, ByteOk x := fun x hx => chkI_zero (valL_zero hall.val x hx)
  have HDE := Lib.hid (dec_enc ps (by omega) hbyt hall.imm)
  have HLE := Lib.hid (length_encL ps)
  clear hown hrow hb1 hall HPK HL f1 f2 hbyt
  go_wp2_with fail
  go_fit HEN.out
  rintro e w2 ⟨g2, rfl, hx2, hb2⟩
  have HB2 := Lib.hid (bel_next HB1.out hb2)
  have HG2 := Lib.hid (HG1.out.next hb2)
  have HL2 := Lib.hid (HL1.out.next9 hb2)
  have HROW2 := Lib.hid (HROW.out.next hb2)
  have HD : Hid (Calls Tryz.prog 11 #[.slice (some ⟨g2, 0, none⟩) (8 * ps.length) (8 * ps.length)] w2 fun e w' => ∃ g, e = .returned (.tuple #[.slice (some ⟨g, 0, none⟩) ps.length ps.length, .int .i64 0]) ∧ GRow GIns.cells 5 w' w'.heap.size (some ⟨g, 0, none⟩) ps ∧ Below w2.heap.size w2 w') := Lib.hid (by
    have h := dec9 (encL ps) (some ⟨g2, 0, none⟩) (8 * ps.length) w2 HG2.out (by rw [HLE.out]; exact hx2) (by rw [HLE.out]; omega) (by rw [HLE.out]; omega) (by rw [HDE.out]; exact HV.out)
    rw [HLE.out, HDE.out] at h
    exact h)
  clear hx2 hb2 HEN HB1 HG1 HL1 HROW
  go_wp2_with fail
  go_fit HD.out
  rintro e w3 ⟨g3, rfl, hq3, hb3⟩
  have HB3 := Lib.hid (bel_next HB2.out hb3)
  have HG3 := Lib.hid (HG2.out.next hb3)
  have HL3 := Lib.hid (HL2.out.next9 hb3)
  have HROW3 := Lib.hid (HROW2.out.next hb3)
  have HQ3 := Lib.hid hq3
  have HDI := Lib.hid (dis_any ps A1 c1 w3 HG3.out.1.2 HG3.out.2 HROW3.out HALL.out.imm HV.out)
  clear hb3 hq3 HD HB2 HG2 HL2 HROW2
  go_wp2_with fail
  go_fit HDI.out
  rintro e w4 ⟨rfl, hb4⟩
  have HB4 := Lib.hid (bel_next HB3.out hb4)
  have HG4 := Lib.hid (HG3.out.next hb4)
  have HL4 := Lib.hid (HL3.out.next9 hb4)
  have HROW4 := Lib.hid (HROW3.out.next hb4)
  have HQ4 := Lib.hid (HQ3.out.next hb4)
  have HAS := Lib.hid (asm9 ps HALL.out hn1 hn2 w4 HG4.out)
  clear hb4 HDI HB3 HG3 HL3 HROW3 HQ3
  go_wp2_with fail
  go_fit HAS.out
  rintro e w5 ⟨A5, c5, rfl, hr5, hb5⟩
  have hbA := bel_next hb5 (bel_lit (Below.refl _ w5) (.cells #[.int .i64 0, .int .i64 0] 35))
  have HR5 := Lib.hid (GRow.next hr5 (bel_lit (Below.refl _ w5) (.cells #[.int .i64 0, .int .i64 0] 35)))
  have HB5 := Lib.hid (bel_next HB4.out hbA)
  have HG5 := Lib.hid (HG4.out.next hbA)
  have HL5 := Lib.hid (HL4.out.next9 hbA)
  have HROW5 := Lib.hid (HROW4.out.next hbA)
  have HQ5 := Lib.hid (HQ4.out.next hbA)
  clear hb5 hr5 HAS HB4 HG4 HL4 HROW4 HQ4 hbA
  go_upto_region 7 with fail
  generalize w5.alloc (.cells #[.int .i64 0, .int .i64 0] 35) = W at *
  have g1 : wrap64 (8 * (ps.length : Int)) = ((8 * ps.length : Nat) : Int) := by rw [IntWalk.wrap64_in _ (by omega)]; omega
  have HS1 := Lib.hid (rSmi_any ps ps A1 (some ⟨g3, 0, none⟩) c1 ps.length W HROW5.out HQ5.out (by omega) (by omega))
  have HS2 := Lib.hid fun W2 (hW : Below W.heap.size W W2) => rSmi_any ps ps A1 A5 c1 c5 W2 (HROW5.out.next hW) (HR5.out.next hW) (by omega) (by omega)
  have HDT : Hid (decide (ps = ps) = true) := Lib.hid (by simp)
  rw [HDT.out] at HS1 HS2
  have g2 : (((8 * ps.length : Nat) : Int) != ((8 * ps.length : Nat) : Int)) = false := by simp
  generalize hn : ps.length = n at *
  generalize hm : 8 * n = m at *
  go_wp2_with fail
  go_fit HS1.out
  rintro e w6 ⟨rfl, hb6⟩
  have HB6 := Lib.hid (bel_next HB5.out hb6)
  have HG6 := Lib.hid (HG5.out.next hb6)
  have HL6 := Lib.hid (HL5.out.next9 hb6)
  have HS3 := Lib.hid (HS2.out w6 hb6)
  clear HS1 HS2 hb6 HB5 HG5 HL5 HROW5 HQ5 HR5 HDT
  go_wp2_with fail
  go_fit HS3.out
  rintro e w7 ⟨rfl, hb7⟩
  have HB7 := Lib.hid (bel_next HB6.out hb7)
  have HG7 := Lib.hid (HG6.out.next hb7)
  have HL7 := Lib.hid (HL6.out.next9 hb7)
  clear HS3 hb7 HB6 HG6 HL6 g1 g2
  clear HLE HDE HV HALL hn hm hn1 hn2 hcap1
  by_cases hok : l.length % 8 = 0 ∧ valP (decP l) = 0
  case neg =>
    have HD2 := Lib.hid (dec9_bad l B cb w7 HG7.out HL7.out (by omega) hok)
    clear hok HL7
    go_wp2_with fail
    go_fit HD2.out
    rintro e w8 ⟨x, rfl, hx, hb8⟩
    have HB8 := Lib.hid (bel_next HB7.out hb8)
    have HG8 := Lib.hid (HG7.out.next hb8)
    have hx2 : (x != 0) = true := by simp [hx]
    clear HD2 hb8 HB7 HG7 hx
    go_wp2_with fail
    go_fit (HAW.out _ HG8.out)
    rintro e w9 ⟨rfl, hb9⟩
    have HB9 := Lib.hid (bel_next HB8.out hb9)
    clear hb9
    go_wp2
    go_ret
    exact ⟨rfl, HB9.out⟩
  have HD2 := Lib.hid (dec9 l B cb w7 HG7.out HL7.out (by omega) hok.1 hok.2)
  have HEQ := Lib.hid (enc_dec l hok.1 (by omega))
  have HV2 := Lib.hid hok.2
  have HL8n : Hid (8 * (decP l).length = l.length) := Lib.hid (by rw [decP_len]; unfold decN; omega)
  clear hok
  go_wp2_with fail
  go_fit HD2.out
  rintro e w8 ⟨g8, rfl, hr8, hb8⟩
  have HB8 := Lib.hid (bel_next HB7.out hb8)
  have HG8 := Lib.hid (HG7.out.next hb8)
  have HL8 := Lib.hid (HL7.out.next9 hb8)
  have HE8 := Lib.hid (enc9 (decP l) (some ⟨g8, 0, none⟩) (decP l).length w8 HG8.out hr8 (fun x hx => by
    obtain ⟨i, hi, rfl⟩ := List.getElem_of_mem hx
    rw [decP_get l hi]; exact decI_imm l i) HV2.out)
  rw [HEQ.out, HL8n.out] at HE8
  clear hr8 hb8 HD2 HV2 HEQ HB7 HG7 HL7 HL8n
  generalize (decP l).length = dn at *
  go_wp2_with fail
  go_fit HE8.out
  rintro e w9 ⟨g9, rfl, hx9, hb9⟩
  have HB9 := Lib.hid (bel_next HB8.out hb9)
  have HG9 := Lib.hid (HG8.out.next hb9)
  have hk1 := hx9.str l.length
  have hk2 := (HL8.out.next9 hb9).str cb
  clear hx9 hb9 HE8 HB8 HG8 HL8
  generalize l.length = nl at *
  generalize bs l = sl at *
  go_wp2_with fail
  go_fit (HAW.out _ HG9.out)
  rintro e w10 ⟨rfl, hb10⟩
  have HB10 := Lib.hid (bel_next HB9.out hb10)
  clear hb10 hk1 hk2
  go_wp2
  go_ret
  exact ⟨rfl, HB10.out⟩
end Go.Proofs.YtogebcgkcijacaaGreatDoor


namespace Go.Proofs.YtogebcgkcijacaaGreatDoor
open Go.RowKit Go.Shelf

def renG (p : List UInt8) (t : GTok) : GTok := if isLB t.bare then { t with text := p ++ t.text } else t
theorem renG_bare (p : List UInt8) (t : GTok) : (renG p t).bare = renB p t.bare := by
  unfold renG renB; split <;> rfl
/-- The token i is a label's word at its use. -/
def useAt : List GTok → Nat → Bool
  | [], _ => false
  | t :: r, 0 => useB t.bare (r.map GTok.bare)
  | _ :: r, i + 1 => useAt r i
def misG (ms : List UInt8) (q : Bool) (t : GTok) : GTok := if q then { t with text := ms } else t
def ren2G (ms : List UInt8) : List GTok → List GTok
  | [] => []
  | t :: r => misG ms (useB t.bare (r.map GTok.bare)) t :: ren2G ms r
theorem ren2G_len (ms : List UInt8) : ∀ ts, (ren2G ms ts).length = ts.length
  | [] => rfl
  | t :: r => by rw [ren2G, List.length_cons, List.length_cons, ren2G_len ms r]
theorem ren2G_bare (ms : List UInt8) : ∀ ts, (ren2G ms ts).map GTok.bare = ren2 ms (ts.map GTok.bare)
  | [] => rfl
  | t :: r => by
    rw [ren2G, List.map_cons, List.map_cons, ren2, ren2G_bare ms r]
    congr 1
    unfold misG; split <;> rfl
theorem ren2G_get (ms : List UInt8) : ∀ (ts : List GTok) (i : Nat) (h : i < ts.length), (ren2G ms ts)[i]'(by rw [ren2G_len]; exact h) = misG ms (useAt ts i) ts[i]
  | t :: r, 0, _ => rfl
  | t :: r, i + 1, h => ren2G_get ms r i (by simpa using h)
def anyU (ts : List GTok) (i : Nat) : Bool := (List.range i).any (useAt ts)
theorem anyU_succ (ts : List GTok) (i : Nat) : anyU ts (i + 1) = (anyU ts i || useAt ts i) := by
  unfold anyU; rw [List.range_succ, List.any_append]; simp
theorem anyU_all : ∀ ts : List GTok, anyU ts ts.length = any2 (ts.map GTok.bare)
  | [] => rfl
  | t :: r => by
    rw [List.map_cons, any2, ← anyU_all r]
    unfold anyU
    rw [List.length_cons, List.range_succ_eq_map, List.any_cons, List.any_map]
    rfl
theorem useAt_no {ts : List GTok} {i : Nat} (h : i < ts.length) (hn : isLB ts[i].bare = false) : useAt ts i = false := by
  induction ts generalizing i with
  | nil => rfl
  | cons t r ih =>
    cases i with
    | zero => simp only [List.getElem_cons_zero] at hn; simp [useAt, useB, hn]
    | succ i => exact ih (by simpa using h) hn
theorem useAt_end {ts : List GTok} {i : Nat} (h : i < ts.length) (hn : isLB ts[i].bare = true) (he : ts.length ≤ i + 1) : useAt ts i = true := by
  induction ts generalizing i with
  | nil => simp at h
  | cons t r ih =>
    cases i with
    | zero =>
      have : r = [] := List.length_eq_zero_iff.1 (by rw [List.length_cons] at he; omega)
      subst this
      simp only [List.getElem_cons_zero] at hn
      simp [useAt, useB, hn, nextT]
    | succ i => exact ih (by simpa using h) hn (by simpa using he)
theorem useAt_next {ts : List GTok} {i : Nat} (h : i + 1 < ts.length) (hn : isLB (ts[i]'(by omega)).bare = true) : useAt ts i = !(ts[i + 1].text == [58]) := by
  induction ts generalizing i with
  | nil => simp at h
  | cons t r ih =>
    cases i with
    | zero =>
      cases r with
      | nil => simp at h
      | cons u r =>
        simp only [List.getElem_cons_zero] at hn
        show (isLB t.bare && !(u.text == [58])) = _
        rw [hn]
        rfl
    | succ i => exact ih (i := i) (by simpa using h) hn
theorem GRow.tok5 {w : World} {B : Nat} {A : Option Addr} {ts : List GTok} (h : GRow GTok.cells 5 w B A ts) {k : Nat} (hk : k < ts.length) : ∃ b off, A = some ⟨b, off, none⟩ ∧ b < B ∧
    w.cell? ⟨b, off + k * 5, none⟩ = some (.int .i64 ts[k].kind) ∧ w.cell? ⟨b, off + k * 5 + 1, none⟩ = some (.string ⟨ts[k].text.toArray⟩) ∧ w.cell? ⟨b, off + k * 5 + 2, none⟩ = some (.int .u64 ts[k].value) ∧ w.cell? ⟨b, off + k * 5 + 3, none⟩ = some (.int .i64 ts[k].line) ∧ w.cell? ⟨b, off + k * 5 + 4, none⟩ = some (.int .i64 ts[k].col) := by
  obtain ⟨b, off, rfl, hb, hc⟩ := h (by omega)
  exact ⟨b, off, rfl, hb, hc k hk 0 _ rfl, hc k hk 1 _ rfl, hc k hk 2 _ rfl, hc k hk 3 _ rfl, hc k hk 4 _ rfl⟩
abbrev OwnK (w : World) (base : Nat) (v : Value) (ts : List GTok) : Prop := OwnG GTok.cells 47 5 w base v ts
theorem tok_one (t : GTok) : ∀ u ∈ t.cells, u.oneCell' = true := by intro u hu; simp [GTok.cells] at hu; rcases hu with rfl | rfl | rfl | rfl | rfl <;> rfl
/-- Two lists of one's own. -/
structure Two2 (base : Nat) (w : World) (vu vw : Value) (us ws : List GTok) : Prop where
  u : OwnK w base vu us
  v : OwnK w base vw ws
  ne : ∀ g, vu.ownBlock = some g → vw.ownBlock ≠ some g
theorem Two2.swap {base : Nat} {w : World} {vu vw : Value} {us ws : List GTok} (h : Two2 base w vu vw us ws) : Two2 base w vw vu ws us := ⟨h.v, h.u, fun g h1 h2 => h.ne g h2 h1⟩
theorem Two2.next {base : Nat} {w w' : World} {vu vw : Value} {us ws : List GTok} (h : Two2 base w vu vw us ws) (hb : Below w.heap.size w w') : Two2 base w' vu vw us ws := ⟨h.u.next hb, h.v.next hb, h.ne⟩
/-- A token behind the first list: the second is asx it was. -/
theorem Two2.app {base : Nat} {W : World} {vu vw : Value} {us ws : List GTok} (h : Two2 base W vu vw us ws) (hb : base ≤ W.heap.size) (hn : us.length ≤ 100000) (t : GTok) :
    ∃ v' w', (Builtin.append_ #[42, 42] 42 #[vu, .slice (some ⟨W.heap.size, 0, none⟩) 1 1]).run Tryz.prog (W.alloc (.cells #[.int .i64 t.kind, .string ⟨t.text.toArray⟩, .int .u64 t.value, .int .i64 t.line, .int .i64 t.col] 47)) = .ok v' w' ∧ Two2 base w' v' vw (us ++ [t]) ws ∧ Below base W w' ∧ (∀ g, W.heap.size ≤ g ∨ vu.ownBlock ≠ some g → g < W.heap.size → w'.heap[g]? = W.heap[g]?) := by
  have hlit := GRow.lit GTok.len5 W 47 [t] #[.int .i64 t.kind, .string ⟨t.text.toArray⟩, .int .u64 t.value, .int .i64 t.line, .int .i64 t.col] rfl (by unfold maxLen; simp)
  obtain ⟨v', w3, hrun, hown3, hgr3, hob⟩ := OwnG.app elt_tok GTok.len5 tok_one (h.u.alloc (.cells #[.int .i64 t.kind, .string ⟨t.text.toArray⟩, .int .u64 t.value, .int .i64 t.line, .int .i64 t.col] 47)) 1 hlit (by simp; omega) (by unfold maxLen; simp; omega) (by simp; omega)
  have hbk : ∀ g, vu.ownBlock ≠ some g → g < W.heap.size → w3.heap[g]? = W.heap[g]? := fun g hg hlt => by
    have h1 := hgr3.block g (by simp; omega) (fun e => hg e.symm)
    rw [h1]
    exact heap_alloc_old _ _ hlt
  have hsz : W.heap.size + 1 ≤ w3.heap.size := by have := hgr3.size; simpa using this
  refine ⟨v', w3, hrun, ⟨hown3, h.v.keep fun g hg => hbk g (fun e => h.ne g e hg) (h.v.lt g hg).2, fun g hg hg2 => ?_⟩, ?_, fun g h1 h2 => hbk g (by rcases h1 with h1 | h1 <;> first | omega | exact h1) h2⟩
  · rcases hob with e | e
    · rw [e] at hg; exact h.ne g hg hg2
    · rw [e] at hg
      have := (h.v.lt g hg2).2
      simp at hg
      omega
  · have hba : Below base W (W.alloc (.cells #[.int .i64 t.kind, .string ⟨t.text.toArray⟩, .int .u64 t.value, .int .i64 t.line, .int .i64 t.col] 47)) := (Below.refl base W).alloc hb _
    refine hba.trans ⟨hgr3.os, hgr3.tape, hgr3.output, hgr3.size, ?_⟩
    intro k hk
    refine hgr3.block k (by simp; omega) (fun e => ?_)
    have := h.u.lt k e.symm
    omega
end Go.Proofs.YtogebcgkcijacaaGreatDoor
