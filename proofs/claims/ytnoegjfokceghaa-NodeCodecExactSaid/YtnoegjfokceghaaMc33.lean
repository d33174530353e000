/-
  The law NodeCodecExact returns true.
  Conditions: none.
-/
import Derived.Test.YtnoegjfokceghaaMc31
import Derived.Test.YtnoegjfokceghaaMc26
import Derived.Test.YtnoegjfokceghaaMc32
namespace Go.Proofs.Ytnoegjfokceghaa
open Go.RowKit

set_option maxRecDepth 20000 in
set_option maxHeartbeats 4000000 in
theorem lcod12 (n : GN) (A : Option Addr) (c : Nat) (B : Option Addr) (len cap : Nat) (l : List UInt8) (w : World) (h1 : n.path.length ≤ c ∧ PRow w w.heap.size A n.path) (hb : BytL w w.heap.size B len cap l) :
    Calls Try.prog 5 #[n.val A c, .slice B len cap] w fun e w' => e = .returned (.bool true) ∧ Below w.heap.size w w' := by
  obtain ⟨hlc, hby⟩ := hb
  obtain rfl : l.length = len := hby.1
  obtain ⟨hc, hp⟩ := h1
  have HAW := Lib.hid fun W => awake12 W
  have HN0 := Lib.hid (NB.new w n.id A n.path.length c n.cap)
  have HB0 := Lib.hid (belt (Below.refl _ w) (.cells #[.int .i64 n.id.core, .int .i64 n.id.op, .int .i64 n.id.part, .slice A n.path.length c, .int .i64 n.cap.kind, .int .i64 n.cap.base, .int .i64 n.cap.bits, .int .i64 n.cap.rights, .int .i64 n.cap.width, .int .i64 n.cap.level, .bool n.cap.device] 28))
  have HCN := Lib.hid fun W (hW : Below w.heap.size w W) (hl : n.path.length ≤ 40) => rCpn_any n A c W (hp.next hW) (by omega)
  have HPE := Lib.hid fun A' c' W (hr : PRow W W.heap.size A' n.path) (hl : n.path.length ≤ 40) (hcc : n.path.length ≤ c') => pEncN_any n A' c' W hr (by omega) hcc
  have HRE := Lib.hid fun W (hW : Below w.heap.size w W) (hl : n.path.length ≤ 40) => rEncN_any n A c W (hp.next hW) (by omega) hc
  have HBY := Lib.hid fun W (hW : Below w.heap.size w W) => show Byt W W.heap.size B l.length l from (hby.below hW).wide hW.size
  have HPD := Lib.hid fun A' c' W (h : Byt W W.heap.size A' l.length l) (hl : l.length ≤ 400) (hcc : l.length ≤ c') => pDecN_any l A' c' W h (by omega) hcc
  have HRD := Lib.hid fun W (hW : Below w.heap.size w W) (hl : l.length ≤ 400) => rDecN_any l B cap W (HBY.out W hW) (by omega) hlc
  unfold CpyEnd at HCN
  generalize (if vN n = true then (0 : Int) else 1) = q at *
  generalize (if vN n = true then encN n else []) = lx at *
  unfold EncEnd at HPE HRE
  unfold DEnd ChEnd at HPD HRD
  unfold GN.val at *
  clear hp hby
  obtain ⟨⟨i0, i1, i2⟩, xs, ⟨a0, a1, a2, a3, a4, a5, a6⟩⟩ := n
  simp only at *
  go_enter Try.func5, Try.ntmps5
  by_cases h40 : 40 < xs.length
  · have f1 : decide ((40 : Int) < (xs.length : Int)) = true := by simp; omega
    clear h40 HCN HPE HRE HPD HRD
    generalize xs.length = nx at *
    go_wp2_with fail
    go_fit (HAW.out _)
    rintro e w1 ⟨rfl, hb1⟩
    have HB1 := Lib.hid (beln HB0.out hb1)
    clear hb1
    go_wp2
    go_ret
    exact ⟨rfl, HB1.out⟩
  have f1 : decide ((40 : Int) < (xs.length : Int)) = false := by simp; omega
  by_cases h41 : 400 < l.length
  · have f2 : decide ((400 : Int) < (l.length : Int)) = true := by simp; omega
    clear h40 h41 HCN HPE HRE HPD HRD
    generalize xs.length = nx at *
    generalize l.length = nl at *
    go_wp2_with fail
    go_fit (HAW.out _)
    rintro e w1 ⟨rfl, hb1⟩
    have HB1 := Lib.hid (beln HB0.out hb1)
    clear hb1
    go_wp2
    go_ret
    exact ⟨rfl, HB1.out⟩
  have f2 : decide ((400 : Int) < (l.length : Int)) = false := by simp; omega
  have HCN := Lib.hid fun W hW => HCN.out W hW (by omega)
  have HPE := Lib.hid fun A' c' W hr hcc => HPE.out A' c' W hr (by omega) hcc
  have HRE := Lib.hid fun W hW => HRE.out W hW (by omega)
  have HPD := Lib.hid fun A' c' W h hcc => HPD.out A' c' W h (by omega) hcc
  have HRD := Lib.hid fun W hW => HRD.out W hW (by omega)
  have HL400 : Hid (l.length ≤ 400) := Lib.hid (by omega)
  clear h40 h41
  go_wp2_with fail
  go_fit (HCN.out _ HB0.out)
  rintro e w1 ⟨A1, c1, rfl, hc1, hr1, hb1⟩
  have HB1 := Lib.hid (beln HB0.out hb1)
  have HN1 := Lib.hid (HN0.out.next hb1)
  have HR1 := Lib.hid hr1
  clear hr1 hb1 HN0 HB0 HCN
  go_wp2_with fail
  go_fit (HPE.out _ _ _ HR1.out hc1)
  rintro e w2 ⟨v2, rfl, ho2, hb2⟩
  obtain ⟨A2, c2, rfl, _, _, hy2⟩ := ho2.form
  have HY2 := Lib.hid hy2
  have HB2 := Lib.hid (beln HB1.out hb2)
  have HN2 := Lib.hid (HN1.out.next hb2)
  clear ho2 hy2 hb2 HB1 HN1 HR1 HPE
  obtain ⟨d0, d1, d2, d3, d4, d5, d6, d7, d8, d9, d10⟩ := HN2.out.cells
  simp only at d0 d1 d2 d3 d4 d5 d6 d7 d8 d9 d10
  go_wp2_with fail
  go_fit (HRE.out _ HB2.out)
  rintro e w3 ⟨v3, rfl, ho3, hb3⟩
  obtain ⟨A3, c3, rfl, _, _, hy3⟩ := ho3.form
  have HY3 := Lib.hid hy3
  have HY2 := Lib.hid ((HY2.out.below hb3).wide hb3.size)
  have HB3 := Lib.hid (beln HB2.out hb3)
  clear ho3 hy3 hb3 HB2 HN2 HRE d0 d1 d2 d3 d4 d5 d6 d7 d8 d9 d10
  obtain ⟨v4, w4, hrun, ho4, hb4, _⟩ := (Own.nil w3 w3.heap.size).app (w0 := w3) cap (HBY.out _ HB3.out) (Below.refl _ _) (Nat.le_refl _) (by have := HL400.out; simp; omega)
  have HRUN := Lib.hid hrun
  rw [List.nil_append] at ho4
  obtain ⟨A4, c4, rfl, hc4, _, hy4⟩ := ho4.form
  have HPD4 := Lib.hid (HPD.out A4 c4 w4 hy4 hc4)
  have HB4 := Lib.hid (beln HB3.out hb4)
  have HY2 := Lib.hid ((HY2.out.below hb4).wide hb4.size)
  have HY3 := Lib.hid ((HY3.out.below hb4).wide hb4.size)
  clear hrun ho4 hy4 hb4 HB3 HPD hc4
  generalize hll : l.length = ln at *
  go_wp2_with (at_builtin; refine wpList_app_run HRUN.out rfl rfl rfl rfl rfl ?_)
  go_fit HPD4.out
  rintro e w5 ⟨x5, e5, hd5, A5, c5, rfl, hc5, ho5, hb5⟩
  have HR5 := Lib.hid (OwnG.rowAt GId.len ho5).2
  have HD5 := Lib.hid hd5
  have HB5 := Lib.hid (beln HB4.out hb5)
  have HY2 := Lib.hid ((HY2.out.below hb5).wide hb5.size)
  have HY3 := Lib.hid ((HY3.out.below hb5).wide hb5.size)
  have HN5 := Lib.hid (NB.new w5 x5.id A5 x5.path.length c5 x5.cap)
  have HX5 := Lib.hid (belt (Below.refl _ w5) (.cells #[.int .i64 x5.id.core, .int .i64 x5.id.op, .int .i64 x5.id.part, .slice A5 x5.path.length c5, .int .i64 x5.cap.kind, .int .i64 x5.cap.base, .int .i64 x5.cap.bits, .int .i64 x5.cap.rights, .int .i64 x5.cap.width, .int .i64 x5.cap.level, .bool x5.cap.device] 28))
  try unfold GN.val
  clear hd5 ho5 hb5 HB4 HPD4 HRUN hc5
  go_wp2_with fail
  go_fit (HRD.out _ (beln HB5.out HX5.out))
  rintro e w6 ⟨x6, e6, hd6, A6, c6, rfl, hc6, ho6, hb6⟩
  obtain ⟨rfl, rfl⟩ := HD5.out.one hd6
  have HX6 := Lib.hid (beln HX5.out hb6)
  have HR6 := Lib.hid (OwnG.rowAt GId.len ho6).2
  have HN6 := Lib.hid (HN5.out.next hb6)
  have HR5 := Lib.hid (HR5.out.next HX6.out)
  have HB6 := Lib.hid (beln HB5.out HX6.out)
  have HY2 := Lib.hid ((HY2.out.below HX6.out).wide HX6.out.size)
  have HY3 := Lib.hid ((HY3.out.below HX6.out).wide HX6.out.size)
  have HP8 : Hid (x5.path.length ≤ 17179869184) := Lib.hid (by
    rcases HD5.out with ⟨_, hv, _⟩ | ⟨_, rfl, _⟩
    · have := (vN_facts hv).2.2.1; omega
    · simp)
  clear hd6 ho6 hb6 hc6 HX5 HN5 HB5 HRD HD5
  have HN7 := Lib.hid (NB.new w6 x5.id A6 x5.path.length c6 x5.cap)
  have hx7 := belt (Below.refl _ w6) (.cells #[.int .i64 x5.id.core, .int .i64 x5.id.op, .int .i64 x5.id.part, .slice A6 x5.path.length c6, .int .i64 x5.cap.kind, .int .i64 x5.cap.base, .int .i64 x5.cap.bits, .int .i64 x5.cap.rights, .int .i64 x5.cap.width, .int .i64 x5.cap.level, .bool x5.cap.device] 28)
  have HN8 := Lib.hid (HN6.out.next hx7)
  have HR5 := Lib.hid (HR5.out.next hx7)
  have HR6 := Lib.hid (HR6.out.next hx7)
  have HB7 := Lib.hid (beln HB6.out hx7)
  have HY2 := Lib.hid ((HY2.out.below hx7).wide hx7.size)
  have HY3 := Lib.hid ((HY3.out.below hx7).wide hx7.size)
  have HSN := Lib.hid (rSan_any x5 x5 A5 A6 c5 c6 _ HR5.out HR6.out HP8.out HP8.out)
  rw [decide_eq_true (rfl : x5 = x5)] at HSN
  clear hx7 HN6 HB6 HX6 HR5 HR6
  go_upto_region 7 with fail
  generalize w6.alloc (.cells #[.int .i64 x5.id.core, .int .i64 x5.id.op, .int .i64 x5.id.part, .slice A6 x5.path.length c6, .int .i64 x5.cap.kind, .int .i64 x5.cap.base, .int .i64 x5.cap.bits, .int .i64 x5.cap.rights, .int .i64 x5.cap.width, .int .i64 x5.cap.level, .bool x5.cap.device] 28) = w7 at *
  have hk1 := HY2.out.str c2
  have hk2 := HY3.out.str c3
  unfold GN.val at HSN
  generalize x5.id = xi at *
  generalize x5.cap = xc at *
  obtain ⟨y0, y1, y2⟩ := xi
  obtain ⟨b0, b1, b2, b3, b4, b5, b6⟩ := xc
  simp only at HN7 HN8 HSN
  obtain ⟨d0, d1, d2, d3, d4, d5, d6, d7, d8, d9, d10⟩ := HN8.out.cells
  obtain ⟨z0, z1, z2, z3, z4, z5, z6, z7, z8, z9, z10⟩ := HN7.out.cells
  simp only at d0 d1 d2 d3 d4 d5 d6 d7 d8 d9 d10 z0 z1 z2 z3 z4 z5 z6 z7 z8 z9 z10
  have fq : (q == q) = true := by simp
  have fe : (e5 == e5) = true := by simp
  generalize lx.length = nx at *
  generalize bs lx = se at *
  generalize x5.path.length = np at *
  go_wp2_with fail
  go_fit HSN.out
  rintro e w8 ⟨rfl, hb8⟩
  have HB8 := Lib.hid (beln HB7.out hb8)
  clear hb8 HSN HB7 hk1 hk2 d0 d1 d2 d3 d4 d5 d6 d7 d8 d9 d10 z0 z1 z2 z3 z4 z5 z6 z7 z8 z9 z10
  go_wp2_with fail
  go_fit (HAW.out _)
  rintro e w9 ⟨rfl, hb9⟩
  have HB9 := Lib.hid (beln HB8.out hb9)
  clear hb9
  go_wp2
  go_ret
  exact ⟨rfl, HB9.out⟩
end Go.Proofs.Ytnoegjfokceghaa
