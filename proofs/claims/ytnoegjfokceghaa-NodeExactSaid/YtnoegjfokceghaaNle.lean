/-
  The law NodeExact returns true.
  Conditions: none.
-/
import Derived.Test.YtnoegjfokceghaaNap
namespace Go.Proofs.Ytnoegjfokceghaa

open Go.RowKit

set_option maxRecDepth 20000 in
set_option maxHeartbeats 4000000 in
theorem lnex12 (a b : GN) (A B : Option Addr) (c d : Nat) (x y : GId) (ls : List GId) (L : Option Addr) (ln lc : Nat) (w : World) (h1 : PRow w w.heap.size A a.path) (h2 : PRow w w.heap.size B b.path) (h3 : PRow w w.heap.size L ls) (hll : ls.length = ln) (hc : a.path.length ≤ c) (_ : b.path.length ≤ d) :
    Calls Try.prog 3 #[a.val A c, b.val B d, x.val, y.val, .slice L ln lc] w fun e w' => e = .returned (.bool true) ∧ Below w.heap.size w w' := by
  have HAW := Lib.hid fun W => awake12 W
  subst hll
  obtain ⟨ta, hta⟩ : ∃ v, decide ((40 : Int) < (a.path.length : Int)) = v := ⟨_, rfl⟩
  obtain ⟨tb, htb⟩ : ∃ v, decide ((40 : Int) < (b.path.length : Int)) = v := ⟨_, rfl⟩
  obtain ⟨tl, htl⟩ : ∃ v, decide ((40 : Int) < (ls.length : Int)) = v := ⟨_, rfl⟩
  have HLA : Hid (ta = false → a.path.length ≤ 40) := Lib.hid fun e => by rw [e] at hta; simp at hta; omega
  have HLB : Hid (tb = false → b.path.length ≤ 40) := Lib.hid fun e => by rw [e] at htb; simp at htb; omega
  have HLL : Hid (tl = false → ls.length ≤ 40) := Lib.hid fun e => by rw [e] at htl; simp at htl; omega
  have HCA := Lib.hid fun (hl : a.path.length ≤ 17179869184) W (hW : Below w.heap.size w W) => rCpn_any a A c W (h1.next hW) hl
  have HCB := Lib.hid fun (hl : b.path.length ≤ 17179869184) W (hW : Below w.heap.size w W) => rCpn_any b B d W (h2.next hW) hl
  have HCL := Lib.hid fun (hl : ls.length ≤ 17179869184) W (hW : Below w.heap.size w W) => rCopy_any ls L lc W (h3.next hW) hl
  have HPP := Lib.hid fun (hl : a.path.length ≤ 17179869184) (hl2 : ls.length ≤ 17179869184) A' c' L' d' W (h : PRow W W.heap.size A' a.path) (h' : PRow W W.heap.size L' ls) => pPar_any a A' c' ls L' d' W h h' hl hl2
  have HPR := Lib.hid fun (hl : a.path.length ≤ 17179869184) (hl2 : ls.length ≤ 17179869184) W (hW : Below w.heap.size w W) => rPar_any a A c ls L lc W (h1.next hW) (h3.next hW) hl hl2
  have HVX := Lib.hid fun W => pVId_any x W
  have HWX := Lib.hid fun W => rVId_any x W
  have HVA := Lib.hid fun (hl : a.path.length ≤ 17179869184) A' c' W (h : PRow W W.heap.size A' a.path) (hc' : a.path.length ≤ c') => pVN_any a A' c' W h hl hc'
  have HWA := Lib.hid fun (hl : a.path.length ≤ 17179869184) W (hW : Below w.heap.size w W) => rVN_any a A c W (h1.next hW) hl hc
  have HLX := Lib.hid fun W => pLess_any x y W
  have HLY := Lib.hid fun W => rLess_any x y W
  have HEA := Lib.hid fun (hl : a.path.length ≤ 17179869184) (hl2 : b.path.length ≤ 17179869184) A' B' c' d' W (h : PRow W W.heap.size A' a.path) (h' : PRow W W.heap.size B' b.path) => pEqu_any a b A' B' c' d' W h h' hl hl2
  have HEB := Lib.hid fun (hl : a.path.length ≤ 17179869184) (hl2 : b.path.length ≤ 17179869184) W (hW : Below w.heap.size w W) => rSan_any a b A B c d W (h1.next hW) (h2.next hW) hl hl2
  have HBA := Lib.hid fun (hl : a.path.length ≤ 17179869184) A' c' W (h : PRow W W.heap.size A' a.path) (hc' : a.path.length ≤ c') => pBel_any a A' c' x W h hl hc'
  have HHA := Lib.hid fun (hl : a.path.length ≤ 17179869184) W (hW : Below w.heap.size w W) => rHas_any a.path A c x W (h1.next hW) hl
  have HEQ : Hid (∀ W, (Op.equalIn 10000 23 (parI a.path ls).val (parI a.path ls).val).run Try.prog W = .ok true W) := Lib.hid fun W => by rw [id_eql, (eqI_iff _ _).2 rfl]
  unfold CpyEnd at HCA HCB
  generalize parI a.path ls = pi at *
  generalize parB a.path ls = pb at *
  generalize vI x = vx at *
  generalize vN a = va at *
  generalize ltI x y = lt at *
  generalize decide (a = b) = eab at *
  generalize hasI a.path x = hx at *
  unfold GN.val at *
  generalize hsi : a.id = si at *
  generalize hsc : a.cap = sc at *
  generalize hti : b.id = ti at *
  generalize htc : b.cap = tc at *
  generalize hn : a.path.length = n at *
  generalize hm : b.path.length = m at *
  generalize hk : ls.length = k at *
  generalize a.path = xs at *
  generalize b.path = ys at *
  clear h1 h2 h3 hsi hsc hti htc hn hm
  obtain ⟨s0, s1, s2⟩ := si
  obtain ⟨p0, p1, p2, p3, p4, p5, p6⟩ := sc
  obtain ⟨t0, t1, t2⟩ := ti
  obtain ⟨q0, q1, q2, q3, q4, q5, q6⟩ := tc
  obtain ⟨x0, x1, x2⟩ := x
  obtain ⟨y0, y1, y2⟩ := y
  obtain ⟨z0, z1, z2⟩ := pi
  have HK := Lib.hid hk
  clear hk
  simp only [GId.val] at *
  have HB0 := Lib.hid (belt (belt (belt (belt (Below.refl _ w) (.cells #[.int .i64 s0, .int .i64 s1, .int .i64 s2, .slice A n c, .int .i64 p0, .int .i64 p1, .int .i64 p2, .int .i64 p3, .int .i64 p4, .int .i64 p5, .bool p6] 28)) (.cells #[.int .i64 t0, .int .i64 t1, .int .i64 t2, .slice B m d, .int .i64 q0, .int .i64 q1, .int .i64 q2, .int .i64 q3, .int .i64 q4, .int .i64 q5, .bool q6] 28)) (.cells #[.int .i64 x0, .int .i64 x1, .int .i64 x2] 23)) (.cells #[.int .i64 y0, .int .i64 y1, .int .i64 y2] 23))
  rcases ta with _ | _
  rotate_left
  · go_enter Try.func3, Try.ntmps3
    go_wp2_with fail
    go_fit (HAW.out _)
    rintro e w1 ⟨rfl, hb1⟩
    have HB1 := Lib.hid (beln HB0.out hb1)
    clear hb1
    go_wp2
    go_ret
    exact ⟨rfl, HB1.out⟩
  rcases tb with _ | _
  rotate_left
  · go_enter Try.func3, Try.ntmps3
    go_wp2_with fail
    go_fit (HAW.out _)
    rintro e w1 ⟨rfl, hb1⟩
    have HB1 := Lib.hid (beln HB0.out hb1)
    clear hb1
    go_wp2
    go_ret
    exact ⟨rfl, HB1.out⟩
  rcases tl with _ | _
  rotate_left
  · go_enter Try.func3, Try.ntmps3
    go_wp2_with fail
    go_fit (HAW.out _)
    rintro e w1 ⟨rfl, hb1⟩
    have HB1 := Lib.hid (beln HB0.out hb1)
    clear hb1
    go_wp2
    go_ret
    exact ⟨rfl, HB1.out⟩
  have hla := HLA.out (by first | rfl | trivial)
  have hlb := HLB.out (by first | rfl | trivial)
  have hlk := HLL.out (by first | rfl | trivial)
  replace HCA := Lib.hid (HCA.out (by omega))
  replace HCB := Lib.hid (HCB.out (by omega))
  replace HCL := Lib.hid (HCL.out (by omega))
  replace HPP := Lib.hid (HPP.out (by omega) (by omega))
  replace HPR := Lib.hid (HPR.out (by omega) (by omega))
  replace HVA := Lib.hid (HVA.out (by omega))
  replace HWA := Lib.hid (HWA.out (by omega))
  replace HEA := Lib.hid (HEA.out (by omega) (by omega))
  replace HEB := Lib.hid (HEB.out (by omega) (by omega))
  replace HBA := Lib.hid (HBA.out (by omega))
  replace HHA := Lib.hid (HHA.out (by omega))
  clear HLA HLB HLL hla hlb hlk
  have HS0 : Hid (Below w.heap.size w ((((w.alloc (.cells #[.int .i64 s0, .int .i64 s1, .int .i64 s2, .slice A n c, .int .i64 p0, .int .i64 p1, .int .i64 p2, .int .i64 p3, .int .i64 p4, .int .i64 p5, .bool p6] 28)).alloc (.cells #[.int .i64 t0, .int .i64 t1, .int .i64 t2, .slice B m d, .int .i64 q0, .int .i64 q1, .int .i64 q2, .int .i64 q3, .int .i64 q4, .int .i64 q5, .bool q6] 28)).alloc (.cells #[.int .i64 x0, .int .i64 x1, .int .i64 x2] 23)).alloc (.cells #[.int .i64 y0, .int .i64 y1, .int .i64 y2] 23)) ∧ NB ((((w.alloc (.cells #[.int .i64 s0, .int .i64 s1, .int .i64 s2, .slice A n c, .int .i64 p0, .int .i64 p1, .int .i64 p2, .int .i64 p3, .int .i64 p4, .int .i64 p5, .bool p6] 28)).alloc (.cells #[.int .i64 t0, .int .i64 t1, .int .i64 t2, .slice B m d, .int .i64 q0, .int .i64 q1, .int .i64 q2, .int .i64 q3, .int .i64 q4, .int .i64 q5, .bool q6] 28)).alloc (.cells #[.int .i64 x0, .int .i64 x1, .int .i64 x2] 23)).alloc (.cells #[.int .i64 y0, .int .i64 y1, .int .i64 y2] 23)) w.heap.size ⟨s0, s1, s2⟩ A n c ⟨p0, p1, p2, p3, p4, p5, p6⟩ ∧ NB ((((w.alloc (.cells #[.int .i64 s0, .int .i64 s1, .int .i64 s2, .slice A n c, .int .i64 p0, .int .i64 p1, .int .i64 p2, .int .i64 p3, .int .i64 p4, .int .i64 p5, .bool p6] 28)).alloc (.cells #[.int .i64 t0, .int .i64 t1, .int .i64 t2, .slice B m d, .int .i64 q0, .int .i64 q1, .int .i64 q2, .int .i64 q3, .int .i64 q4, .int .i64 q5, .bool q6] 28)).alloc (.cells #[.int .i64 x0, .int .i64 x1, .int .i64 x2] 23)).alloc (.cells #[.int .i64 y0, .int .i64 y1, .int .i64 y2] 23)) (w.heap.size + 1) ⟨t0, t1, t2⟩ B m d ⟨q0, q1, q2, q3, q4, q5, q6⟩ ∧ IB ((((w.alloc (.cells #[.int .i64 s0, .int .i64 s1, .int .i64 s2, .slice A n c, .int .i64 p0, .int .i64 p1, .int .i64 p2, .int .i64 p3, .int .i64 p4, .int .i64 p5, .bool p6] 28)).alloc (.cells #[.int .i64 t0, .int .i64 t1, .int .i64 t2, .slice B m d, .int .i64 q0, .int .i64 q1, .int .i64 q2, .int .i64 q3, .int .i64 q4, .int .i64 q5, .bool q6] 28)).alloc (.cells #[.int .i64 x0, .int .i64 x1, .int .i64 x2] 23)).alloc (.cells #[.int .i64 y0, .int .i64 y1, .int .i64 y2] 23)) (w.heap.size + 1 + 1) ⟨x0, x1, x2⟩ ∧ IB ((((w.alloc (.cells #[.int .i64 s0, .int .i64 s1, .int .i64 s2, .slice A n c, .int .i64 p0, .int .i64 p1, .int .i64 p2, .int .i64 p3, .int .i64 p4, .int .i64 p5, .bool p6] 28)).alloc (.cells #[.int .i64 t0, .int .i64 t1, .int .i64 t2, .slice B m d, .int .i64 q0, .int .i64 q1, .int .i64 q2, .int .i64 q3, .int .i64 q4, .int .i64 q5, .bool q6] 28)).alloc (.cells #[.int .i64 x0, .int .i64 x1, .int .i64 x2] 23)).alloc (.cells #[.int .i64 y0, .int .i64 y1, .int .i64 y2] 23)) (w.heap.size + 1 + 1 + 1) ⟨y0, y1, y2⟩) := Lib.hid (by
    refine ⟨HB0.out, ?_, ?_, ?_, ?_⟩
    · exact (NB.new w ⟨s0, s1, s2⟩ A n c ⟨p0, p1, p2, p3, p4, p5, p6⟩).next (belt (belt (belt (Below.refl _ _) _) _) _)
    · have h := (NB.new (w.alloc (.cells #[.int .i64 s0, .int .i64 s1, .int .i64 s2, .slice A n c, .int .i64 p0, .int .i64 p1, .int .i64 p2, .int .i64 p3, .int .i64 p4, .int .i64 p5, .bool p6] 28)) ⟨t0, t1, t2⟩ B m d ⟨q0, q1, q2, q3, q4, q5, q6⟩).next (belt (belt (Below.refl _ _) (.cells #[.int .i64 x0, .int .i64 x1, .int .i64 x2] 23)) (.cells #[.int .i64 y0, .int .i64 y1, .int .i64 y2] 23))
      simpa using h
    · have h := (IB.new ((w.alloc (.cells #[.int .i64 s0, .int .i64 s1, .int .i64 s2, .slice A n c, .int .i64 p0, .int .i64 p1, .int .i64 p2, .int .i64 p3, .int .i64 p4, .int .i64 p5, .bool p6] 28)).alloc (.cells #[.int .i64 t0, .int .i64 t1, .int .i64 t2, .slice B m d, .int .i64 q0, .int .i64 q1, .int .i64 q2, .int .i64 q3, .int .i64 q4, .int .i64 q5, .bool q6] 28)) ⟨x0, x1, x2⟩).next (belt (Below.refl _ _) (.cells #[.int .i64 y0, .int .i64 y1, .int .i64 y2] 23))
      simpa using h
    · have h := IB.new (((w.alloc (.cells #[.int .i64 s0, .int .i64 s1, .int .i64 s2, .slice A n c, .int .i64 p0, .int .i64 p1, .int .i64 p2, .int .i64 p3, .int .i64 p4, .int .i64 p5, .bool p6] 28)).alloc (.cells #[.int .i64 t0, .int .i64 t1, .int .i64 t2, .slice B m d, .int .i64 q0, .int .i64 q1, .int .i64 q2, .int .i64 q3, .int .i64 q4, .int .i64 q5, .bool q6] 28)).alloc (.cells #[.int .i64 x0, .int .i64 x1, .int .i64 x2] 23)) ⟨y0, y1, y2⟩
      simpa using h)
  have HNX : Hid (∀ {W W' : World}, (Below w.heap.size w W ∧ NB W w.heap.size ⟨s0, s1, s2⟩ A n c ⟨p0, p1, p2, p3, p4, p5, p6⟩ ∧ NB W (w.heap.size + 1) ⟨t0, t1, t2⟩ B m d ⟨q0, q1, q2, q3, q4, q5, q6⟩ ∧ IB W (w.heap.size + 1 + 1) ⟨x0, x1, x2⟩ ∧ IB W (w.heap.size + 1 + 1 + 1) ⟨y0, y1, y2⟩) → Below W.heap.size W W' → (Below w.heap.size w W' ∧ NB W' w.heap.size ⟨s0, s1, s2⟩ A n c ⟨p0, p1, p2, p3, p4, p5, p6⟩ ∧ NB W' (w.heap.size + 1) ⟨t0, t1, t2⟩ B m d ⟨q0, q1, q2, q3, q4, q5, q6⟩ ∧ IB W' (w.heap.size + 1 + 1) ⟨x0, x1, x2⟩ ∧ IB W' (w.heap.size + 1 + 1 + 1) ⟨y0, y1, y2⟩)) := Lib.hid fun hS hbn => ⟨beln (hS.1) hbn, NB.next (hS.2.1) hbn, NB.next (hS.2.2.1) hbn, IB.next (hS.2.2.2.1) hbn, IB.next (hS.2.2.2.2) hbn⟩
  obtain ⟨c0, c1, c2, c3, c4, c5, c6, c7, c8, c9, c10⟩ := HS0.out.2.1.cells
  try simp only at c0 c1 c2 c3 c4 c5 c6 c7 c8 c9 c10
  go_enter Try.func3, Try.ntmps3
  go_wp2_with fail
  go_fit (HCA.out _ HS0.out.1)
  rintro e w1 ⟨A7, c7', rfl, hc7, hr7, hb1⟩
  have HS1 := Lib.hid (HNX.out HS0.out hb1)
  clear hb1 c0 c1 c2 c3 c4 c5 c6 c7 c8 c9 c10
  go_wp2_with fail
  go_fit (HCL.out _ HS1.out.1)
  rintro e w2 ⟨v2, rfl, ho2, hb2⟩
  obtain ⟨A2, c2', rfl, _, _, hr2⟩ := ho2.row GId.len
  rw [HK.out]
  have hr7' := hr7.next hb2
  have HS2 := Lib.hid (HNX.out HS1.out hb2)
  clear ho2 hb2 hr7 HS1 HS0
  go_wp2_with fail
  go_fit (HPP.out _ _ _ _ _ hr7' hr2)
  rintro e w3 ⟨rfl, hb3⟩
  have HS3 := Lib.hid (HNX.out (HNX.out HS2.out hb3) (belt (Below.refl _ w3) (.cells #[.int .i64 z0, .int .i64 z1, .int .i64 z2] 23)))
  have HU3 : Hid (IB (w3.alloc (.cells #[.int .i64 z0, .int .i64 z1, .int .i64 z2] 23)) w3.heap.size ⟨z0, z1, z2⟩) := Lib.hid (IB.new w3 ⟨z0, z1, z2⟩)
  clear hb3 hr7' hr2 HS2 HPP HCL hc7
  obtain ⟨c0, c1, c2, c3, c4, c5, c6, c7, c8, c9, c10⟩ := HS3.out.2.1.cells
  try simp only at c0 c1 c2 c3 c4 c5 c6 c7 c8 c9 c10
  go_wp2_with fail
  go_fit (HPR.out _ HS3.out.1)
  rintro e w4 ⟨rfl, hb4⟩
  have HS4 := Lib.hid (HNX.out (HNX.out HS3.out hb4) (belt (Below.refl _ w4) (.cells #[.int .i64 z0, .int .i64 z1, .int .i64 z2] 23)))
  have HU4 := Lib.hid ((HU3.out.next hb4).next (belt (Below.refl _ w4) (.cells #[.int .i64 z0, .int .i64 z1, .int .i64 z2] 23)))
  have HV4 : Hid (IB (w4.alloc (.cells #[.int .i64 z0, .int .i64 z1, .int .i64 z2] 23)) w4.heap.size ⟨z0, z1, z2⟩) := Lib.hid (IB.new w4 ⟨z0, z1, z2⟩)
  clear hb4 HS3 HU3 HPR HNX HB0 c0 c1 c2 c3 c4 c5 c6 c7 c8 c9 c10
  go_upto_region 5 with fail
  have hS : Below w.heap.size w (w4.alloc (.cells #[.int .i64 z0, .int .i64 z1, .int .i64 z2] 23)).drew ∧ NB (w4.alloc (.cells #[.int .i64 z0, .int .i64 z1, .int .i64 z2] 23)).drew w.heap.size ⟨s0, s1, s2⟩ A n c ⟨p0, p1, p2, p3, p4, p5, p6⟩ ∧ NB (w4.alloc (.cells #[.int .i64 z0, .int .i64 z1, .int .i64 z2] 23)).drew (w.heap.size + 1) ⟨t0, t1, t2⟩ B m d ⟨q0, q1, q2, q3, q4, q5, q6⟩ ∧ IB (w4.alloc (.cells #[.int .i64 z0, .int .i64 z1, .int .i64 z2] 23)).drew (w.heap.size + 1 + 1) ⟨x0, x1, x2⟩ ∧ IB (w4.alloc (.cells #[.int .i64 z0, .int .i64 z1, .int .i64 z2] 23)).drew (w.heap.size + 1 + 1 + 1) ⟨y0, y1, y2⟩ ∧ IB (w4.alloc (.cells #[.int .i64 z0, .int .i64 z1, .int .i64 z2] 23)).drew w3.heap.size ⟨z0, z1, z2⟩ ∧ IB (w4.alloc (.cells #[.int .i64 z0, .int .i64 z1, .int .i64 z2] 23)).drew w4.heap.size ⟨z0, z1, z2⟩ := ⟨HS4.out.1.drew, HS4.out.2.1, HS4.out.2.2.1, HS4.out.2.2.2.1, HS4.out.2.2.2.2, HU4.out, HV4.out⟩
  clear HS4 HU4 HV4
  refine wp_region_growS (S := fun W => Below w.heap.size w W ∧ NB W w.heap.size ⟨s0, s1, s2⟩ A n c ⟨p0, p1, p2, p3, p4, p5, p6⟩ ∧ NB W (w.heap.size + 1) ⟨t0, t1, t2⟩ B m d ⟨q0, q1, q2, q3, q4, q5, q6⟩ ∧ IB W (w.heap.size + 1 + 1) ⟨x0, x1, x2⟩ ∧ IB W (w.heap.size + 1 + 1 + 1) ⟨y0, y1, y2⟩ ∧ IB W w3.heap.size ⟨z0, z1, z2⟩ ∧ IB W w4.heap.size ⟨z0, z1, z2⟩) [(0, true), (2, true), (1, false), (3, false), (4, true), (5, true), (6, true), (9, true), (7, false), (8, false), (10, false), (11, true), (12, true), (13, true), (14, true), (15, true), (17, true), (18, true), (16, false), (19, false), (20, true), (21, true), (22, true), (23, true), (25, true), (28, true), (29, true), (24, false), (26, false), (27, false), (30, false), (31, true), (32, true), (33, true), (34, true), (36, true), (38, true), (39, true), (40, true), (35, false), (37, false), (41, false), (42, true), (43, true), (44, true), (45, true), (46, true), (47, true), (48, true), (49, true), (50, true), (51, true), (52, true), (53, true), (54, true), (55, false), (56, true), (57, true)] (by kernel_rfl) (by kernel_rfl) (by kernel_rfl) (by kernel_rfl) (by intro c a d v w h; cases d <;> exact h) hS ?_
  iterate 2
    (first
      | (refine wpGrowS_float (v := ?_) (by simp only [List.getElem?_toArray, List.getElem?_cons_succ, List.getElem?_cons_zero]; rfl) (by rfl) ?_ ?_
         rotate_left
         · (intro W hW; obtain ⟨c0, c1, c2, c3, c4, c5, c6, c7, c8, c9, c10⟩ := NB.cells (hW.2.1); obtain ⟨e0, e1, e2, e3, e4, e5, e6, e7, e8, e9, e10⟩ := NB.cells (hW.2.2.1); obtain ⟨j0, j1, j2⟩ := IB.cells (hW.2.2.2.1); obtain ⟨k0, k1, k2⟩ := IB.cells (hW.2.2.2.2.1); obtain ⟨u0, u1, u2⟩ := IB.cells (hW.2.2.2.2.2.1); obtain ⟨v0, v1, v2⟩ := IB.cells (hW.2.2.2.2.2.2); have eql := fun W => HEQ.out W; (try simp only at *); go_simp; try with_reducible rfl)
         simp only [Act.put, List.setIfInBounds_toArray, List.set_cons_zero, List.set_cons_succ])
      | (refine wpGrowS_skip (by simp only [List.getElem?_toArray, List.getElem?_cons_succ, List.getElem?_cons_zero]; rfl) (by rfl) ?_
         simp only [Act.put, List.setIfInBounds_toArray, List.set_cons_zero, List.set_cons_succ]))
  refine wpGrowS_call (by simp only [List.getElem?_toArray, List.getElem?_cons_succ, List.getElem?_cons_zero]; rfl) (by rfl) fun K hK => ?_
  go_simp
  go_fit (HVX.out _)
  rintro e wn ⟨rfl, hbn⟩
  have hSp := hS
  have hS : Below w.heap.size w wn ∧ NB wn w.heap.size ⟨s0, s1, s2⟩ A n c ⟨p0, p1, p2, p3, p4, p5, p6⟩ ∧ NB wn (w.heap.size + 1) ⟨t0, t1, t2⟩ B m d ⟨q0, q1, q2, q3, q4, q5, q6⟩ ∧ IB wn (w.heap.size + 1 + 1) ⟨x0, x1, x2⟩ ∧ IB wn (w.heap.size + 1 + 1 + 1) ⟨y0, y1, y2⟩ ∧ IB wn w3.heap.size ⟨z0, z1, z2⟩ ∧ IB wn w4.heap.size ⟨z0, z1, z2⟩ := ⟨beln (hS.1) hbn, NB.next (hS.2.1) hbn, NB.next (hS.2.2.1) hbn, IB.next (hS.2.2.2.1) hbn, IB.next (hS.2.2.2.2.1) hbn, IB.next (hS.2.2.2.2.2.1) hbn, IB.next (hS.2.2.2.2.2.2) hbn⟩
  go_simp
  refine hK _ _ hS ?_
  clear hK K
  try simp only [Act.put, List.setIfInBounds_toArray, List.set_cons_zero, List.set_cons_succ]
  refine wpGrowS_call (by simp only [List.getElem?_toArray, List.getElem?_cons_succ, List.getElem?_cons_zero]; rfl) (by rfl) fun K hK => ?_
  go_simp
  go_fit (HWX.out _)
  rintro e wn ⟨rfl, hbn⟩
  have hSp := hS
  have hS : Below w.heap.size w wn ∧ NB wn w.heap.size ⟨s0, s1, s2⟩ A n c ⟨p0, p1, p2, p3, p4, p5, p6⟩ ∧ NB wn (w.heap.size + 1) ⟨t0, t1, t2⟩ B m d ⟨q0, q1, q2, q3, q4, q5, q6⟩ ∧ IB wn (w.heap.size + 1 + 1) ⟨x0, x1, x2⟩ ∧ IB wn (w.heap.size + 1 + 1 + 1) ⟨y0, y1, y2⟩ ∧ IB wn w3.heap.size ⟨z0, z1, z2⟩ ∧ IB wn w4.heap.size ⟨z0, z1, z2⟩ := ⟨beln (hS.1) hbn, NB.next (hS.2.1) hbn, NB.next (hS.2.2.1) hbn, IB.next (hS.2.2.2.1) hbn, IB.next (hS.2.2.2.2.1) hbn, IB.next (hS.2.2.2.2.2.1) hbn, IB.next (hS.2.2.2.2.2.2) hbn⟩
  go_simp
  refine hK _ _ hS ?_
  clear hK K
  try simp only [Act.put, List.setIfInBounds_toArray, List.set_cons_zero, List.set_cons_succ]
  iterate 4
    (first
      | (refine wpGrowS_float (v := ?_) (by simp only [List.getElem?_toArray, List.getElem?_cons_succ, List.getElem?_cons_zero]; rfl) (by rfl) ?_ ?_
         rotate_left
         · (intro W hW; obtain ⟨c0, c1, c2, c3, c4, c5, c6, c7, c8, c9, c10⟩ := NB.cells (hW.2.1); obtain ⟨e0, e1, e2, e3, e4, e5, e6, e7, e8, e9, e10⟩ := NB.cells (hW.2.2.1); obtain ⟨j0, j1, j2⟩ := IB.cells (hW.2.2.2.1); obtain ⟨k0, k1, k2⟩ := IB.cells (hW.2.2.2.2.1); obtain ⟨u0, u1, u2⟩ := IB.cells (hW.2.2.2.2.2.1); obtain ⟨v0, v1, v2⟩ := IB.cells (hW.2.2.2.2.2.2); have eql := fun W => HEQ.out W; (try simp only at *); go_simp; try with_reducible rfl)
         simp only [Act.put, List.setIfInBounds_toArray, List.set_cons_zero, List.set_cons_succ])
      | (refine wpGrowS_skip (by simp only [List.getElem?_toArray, List.getElem?_cons_succ, List.getElem?_cons_zero]; rfl) (by rfl) ?_
         simp only [Act.put, List.setIfInBounds_toArray, List.set_cons_zero, List.set_cons_succ]))
  refine wpGrowS_call (by simp only [List.getElem?_toArray, List.getElem?_cons_succ, List.getElem?_cons_zero]; rfl) (by rfl) fun K hK => ?_
  go_simp
  go_fit (HCA.out _ hS.1)
  rintro e wn ⟨A7, c7, rfl, hc7, hr7, hbn⟩
  have hSp := hS
  have hS : Below w.heap.size w wn ∧ NB wn w.heap.size ⟨s0, s1, s2⟩ A n c ⟨p0, p1, p2, p3, p4, p5, p6⟩ ∧ NB wn (w.heap.size + 1) ⟨t0, t1, t2⟩ B m d ⟨q0, q1, q2, q3, q4, q5, q6⟩ ∧ IB wn (w.heap.size + 1 + 1) ⟨x0, x1, x2⟩ ∧ IB wn (w.heap.size + 1 + 1 + 1) ⟨y0, y1, y2⟩ ∧ IB wn w3.heap.size ⟨z0, z1, z2⟩ ∧ IB wn w4.heap.size ⟨z0, z1, z2⟩ := ⟨beln (hS.1) hbn, NB.next (hS.2.1) hbn, NB.next (hS.2.2.1) hbn, IB.next (hS.2.2.2.1) hbn, IB.next (hS.2.2.2.2.1) hbn, IB.next (hS.2.2.2.2.2.1) hbn, IB.next (hS.2.2.2.2.2.2) hbn⟩
  go_simp
  refine hK _ _ hS ?_
  clear hK K
  try simp only [Act.put, List.setIfInBounds_toArray, List.set_cons_zero, List.set_cons_succ]
  refine wpGrowS_call (by simp only [List.getElem?_toArray, List.getElem?_cons_succ, List.getElem?_cons_zero]; rfl) (by rfl) fun K hK => ?_
  go_simp
  go_fit (HVA.out _ _ _ hr7 hc7)
  rintro e wn ⟨rfl, hbn⟩
  have hSp := hS
  have hS : Below w.heap.size w wn ∧ NB wn w.heap.size ⟨s0, s1, s2⟩ A n c ⟨p0, p1, p2, p3, p4, p5, p6⟩ ∧ NB wn (w.heap.size + 1) ⟨t0, t1, t2⟩ B m d ⟨q0, q1, q2, q3, q4, q5, q6⟩ ∧ IB wn (w.heap.size + 1 + 1) ⟨x0, x1, x2⟩ ∧ IB wn (w.heap.size + 1 + 1 + 1) ⟨y0, y1, y2⟩ ∧ IB wn w3.heap.size ⟨z0, z1, z2⟩ ∧ IB wn w4.heap.size ⟨z0, z1, z2⟩ := ⟨beln (hS.1) hbn, NB.next (hS.2.1) hbn, NB.next (hS.2.2.1) hbn, IB.next (hS.2.2.2.1) hbn, IB.next (hS.2.2.2.2.1) hbn, IB.next (hS.2.2.2.2.2.1) hbn, IB.next (hS.2.2.2.2.2.2) hbn⟩
  go_simp
  refine hK _ _ hS ?_
  clear hK K
  try simp only [Act.put, List.setIfInBounds_toArray, List.set_cons_zero, List.set_cons_succ]
  refine wpGrowS_call (by simp only [List.getElem?_toArray, List.getElem?_cons_succ, List.getElem?_cons_zero]; rfl) (by rfl) fun K hK => ?_
  go_simp
  go_fit (HWA.out _ hS.1)
  rintro e wn ⟨rfl, hbn⟩
  have hSp := hS
  have hS : Below w.heap.size w wn ∧ NB wn w.heap.size ⟨s0, s1, s2⟩ A n c ⟨p0, p1, p2, p3, p4, p5, p6⟩ ∧ NB wn (w.heap.size + 1) ⟨t0, t1, t2⟩ B m d ⟨q0, q1, q2, q3, q4, q5, q6⟩ ∧ IB wn (w.heap.size + 1 + 1) ⟨x0, x1, x2⟩ ∧ IB wn (w.heap.size + 1 + 1 + 1) ⟨y0, y1, y2⟩ ∧ IB wn w3.heap.size ⟨z0, z1, z2⟩ ∧ IB wn w4.heap.size ⟨z0, z1, z2⟩ := ⟨beln (hS.1) hbn, NB.next (hS.2.1) hbn, NB.next (hS.2.2.1) hbn, IB.next (hS.2.2.2.1) hbn, IB.next (hS.2.2.2.2.1) hbn, IB.next (hS.2.2.2.2.2.1) hbn, IB.next (hS.2.2.2.2.2.2) hbn⟩
  go_simp
  refine hK _ _ hS ?_
  clear hK K
  try simp only [Act.put, List.setIfInBounds_toArray, List.set_cons_zero, List.set_cons_succ]
  iterate 7
    (first
      | (refine wpGrowS_float (v := ?_) (by simp only [List.getElem?_toArray, List.getElem?_cons_succ, List.getElem?_cons_zero]; rfl) (by rfl) ?_ ?_
         rotate_left
         · (intro W hW; obtain ⟨c0, c1, c2, c3, c4, c5, c6, c7, c8, c9, c10⟩ := NB.cells (hW.2.1); obtain ⟨e0, e1, e2, e3, e4, e5, e6, e7, e8, e9, e10⟩ := NB.cells (hW.2.2.1); obtain ⟨j0, j1, j2⟩ := IB.cells (hW.2.2.2.1); obtain ⟨k0, k1, k2⟩ := IB.cells (hW.2.2.2.2.1); obtain ⟨u0, u1, u2⟩ := IB.cells (hW.2.2.2.2.2.1); obtain ⟨v0, v1, v2⟩ := IB.cells (hW.2.2.2.2.2.2); have eql := fun W => HEQ.out W; (try simp only at *); go_simp; try with_reducible rfl)
         simp only [Act.put, List.setIfInBounds_toArray, List.set_cons_zero, List.set_cons_succ])
      | (refine wpGrowS_skip (by simp only [List.getElem?_toArray, List.getElem?_cons_succ, List.getElem?_cons_zero]; rfl) (by rfl) ?_
         simp only [Act.put, List.setIfInBounds_toArray, List.set_cons_zero, List.set_cons_succ]))
  refine wpGrowS_call (by simp only [List.getElem?_toArray, List.getElem?_cons_succ, List.getElem?_cons_zero]; rfl) (by rfl) fun K hK => ?_
  go_simp
  go_fit (HLX.out _)
  rintro e wn ⟨rfl, hbn⟩
  have hSp := hS
  have hS : Below w.heap.size w wn ∧ NB wn w.heap.size ⟨s0, s1, s2⟩ A n c ⟨p0, p1, p2, p3, p4, p5, p6⟩ ∧ NB wn (w.heap.size + 1) ⟨t0, t1, t2⟩ B m d ⟨q0, q1, q2, q3, q4, q5, q6⟩ ∧ IB wn (w.heap.size + 1 + 1) ⟨x0, x1, x2⟩ ∧ IB wn (w.heap.size + 1 + 1 + 1) ⟨y0, y1, y2⟩ ∧ IB wn w3.heap.size ⟨z0, z1, z2⟩ ∧ IB wn w4.heap.size ⟨z0, z1, z2⟩ := ⟨beln (hS.1) hbn, NB.next (hS.2.1) hbn, NB.next (hS.2.2.1) hbn, IB.next (hS.2.2.2.1) hbn, IB.next (hS.2.2.2.2.1) hbn, IB.next (hS.2.2.2.2.2.1) hbn, IB.next (hS.2.2.2.2.2.2) hbn⟩
  go_simp
  refine hK _ _ hS ?_
  clear hK K
  try simp only [Act.put, List.setIfInBounds_toArray, List.set_cons_zero, List.set_cons_succ]
  refine wpGrowS_call (by simp only [List.getElem?_toArray, List.getElem?_cons_succ, List.getElem?_cons_zero]; rfl) (by rfl) fun K hK => ?_
  go_simp
  go_fit (HLY.out _)
  rintro e wn ⟨rfl, hbn⟩
  have hSp := hS
  have hS : Below w.heap.size w wn ∧ NB wn w.heap.size ⟨s0, s1, s2⟩ A n c ⟨p0, p1, p2, p3, p4, p5, p6⟩ ∧ NB wn (w.heap.size + 1) ⟨t0, t1, t2⟩ B m d ⟨q0, q1, q2, q3, q4, q5, q6⟩ ∧ IB wn (w.heap.size + 1 + 1) ⟨x0, x1, x2⟩ ∧ IB wn (w.heap.size + 1 + 1 + 1) ⟨y0, y1, y2⟩ ∧ IB wn w3.heap.size ⟨z0, z1, z2⟩ ∧ IB wn w4.heap.size ⟨z0, z1, z2⟩ := ⟨beln (hS.1) hbn, NB.next (hS.2.1) hbn, NB.next (hS.2.2.1) hbn, IB.next (hS.2.2.2.1) hbn, IB.next (hS.2.2.2.2.1) hbn, IB.next (hS.2.2.2.2.2.1) hbn, IB.next (hS.2.2.2.2.2.2) hbn⟩
  go_simp
  refine hK _ _ hS ?_
  clear hK K
  try simp only [Act.put, List.setIfInBounds_toArray, List.set_cons_zero, List.set_cons_succ]
  iterate 7
    (first
      | (refine wpGrowS_float (v := ?_) (by simp only [List.getElem?_toArray, List.getElem?_cons_succ, List.getElem?_cons_zero]; rfl) (by rfl) ?_ ?_
         rotate_left
         · (intro W hW; obtain ⟨c0, c1, c2, c3, c4, c5, c6, c7, c8, c9, c10⟩ := NB.cells (hW.2.1); obtain ⟨e0, e1, e2, e3, e4, e5, e6, e7, e8, e9, e10⟩ := NB.cells (hW.2.2.1); obtain ⟨j0, j1, j2⟩ := IB.cells (hW.2.2.2.1); obtain ⟨k0, k1, k2⟩ := IB.cells (hW.2.2.2.2.1); obtain ⟨u0, u1, u2⟩ := IB.cells (hW.2.2.2.2.2.1); obtain ⟨v0, v1, v2⟩ := IB.cells (hW.2.2.2.2.2.2); have eql := fun W => HEQ.out W; (try simp only at *); go_simp; try with_reducible rfl)
         simp only [Act.put, List.setIfInBounds_toArray, List.set_cons_zero, List.set_cons_succ])
      | (refine wpGrowS_skip (by simp only [List.getElem?_toArray, List.getElem?_cons_succ, List.getElem?_cons_zero]; rfl) (by rfl) ?_
         simp only [Act.put, List.setIfInBounds_toArray, List.set_cons_zero, List.set_cons_succ]))
  refine wpGrowS_call (by simp only [List.getElem?_toArray, List.getElem?_cons_succ, List.getElem?_cons_zero]; rfl) (by rfl) fun K hK => ?_
  go_simp
  go_fit (HCA.out _ hS.1)
  rintro e wn ⟨A7, c7, rfl, hc7, hr7, hbn⟩
  have hSp := hS
  have hS : Below w.heap.size w wn ∧ NB wn w.heap.size ⟨s0, s1, s2⟩ A n c ⟨p0, p1, p2, p3, p4, p5, p6⟩ ∧ NB wn (w.heap.size + 1) ⟨t0, t1, t2⟩ B m d ⟨q0, q1, q2, q3, q4, q5, q6⟩ ∧ IB wn (w.heap.size + 1 + 1) ⟨x0, x1, x2⟩ ∧ IB wn (w.heap.size + 1 + 1 + 1) ⟨y0, y1, y2⟩ ∧ IB wn w3.heap.size ⟨z0, z1, z2⟩ ∧ IB wn w4.heap.size ⟨z0, z1, z2⟩ := ⟨beln (hS.1) hbn, NB.next (hS.2.1) hbn, NB.next (hS.2.2.1) hbn, IB.next (hS.2.2.2.1) hbn, IB.next (hS.2.2.2.2.1) hbn, IB.next (hS.2.2.2.2.2.1) hbn, IB.next (hS.2.2.2.2.2.2) hbn⟩
  go_simp
  refine hK _ _ hS ?_
  clear hK K
  try simp only [Act.put, List.setIfInBounds_toArray, List.set_cons_zero, List.set_cons_succ]
  refine wpGrowS_call (by simp only [List.getElem?_toArray, List.getElem?_cons_succ, List.getElem?_cons_zero]; rfl) (by rfl) fun K hK => ?_
  go_simp
  go_fit (HCB.out _ hS.1)
  rintro e wn ⟨A8, c8, rfl, hc8, hr8, hbn⟩
  have hSp := hS
  have hS : Below w.heap.size w wn ∧ NB wn w.heap.size ⟨s0, s1, s2⟩ A n c ⟨p0, p1, p2, p3, p4, p5, p6⟩ ∧ NB wn (w.heap.size + 1) ⟨t0, t1, t2⟩ B m d ⟨q0, q1, q2, q3, q4, q5, q6⟩ ∧ IB wn (w.heap.size + 1 + 1) ⟨x0, x1, x2⟩ ∧ IB wn (w.heap.size + 1 + 1 + 1) ⟨y0, y1, y2⟩ ∧ IB wn w3.heap.size ⟨z0, z1, z2⟩ ∧ IB wn w4.heap.size ⟨z0, z1, z2⟩ := ⟨beln (hS.1) hbn, NB.next (hS.2.1) hbn, NB.next (hS.2.2.1) hbn, IB.next (hS.2.2.2.1) hbn, IB.next (hS.2.2.2.2.1) hbn, IB.next (hS.2.2.2.2.2.1) hbn, IB.next (hS.2.2.2.2.2.2) hbn⟩
  have hr7 := hr7.next hbn
  go_simp
  refine hK _ _ hS ?_
  clear hK K
  try simp only [Act.put, List.setIfInBounds_toArray, List.set_cons_zero, List.set_cons_succ]
  refine wpGrowS_call (by simp only [List.getElem?_toArray, List.getElem?_cons_succ, List.getElem?_cons_zero]; rfl) (by rfl) fun K hK => ?_
  go_simp
  go_fit (HEA.out _ _ _ _ _ hr7 hr8)
  rintro e wn ⟨rfl, hbn⟩
  have hSp := hS
  have hS : Below w.heap.size w wn ∧ NB wn w.heap.size ⟨s0, s1, s2⟩ A n c ⟨p0, p1, p2, p3, p4, p5, p6⟩ ∧ NB wn (w.heap.size + 1) ⟨t0, t1, t2⟩ B m d ⟨q0, q1, q2, q3, q4, q5, q6⟩ ∧ IB wn (w.heap.size + 1 + 1) ⟨x0, x1, x2⟩ ∧ IB wn (w.heap.size + 1 + 1 + 1) ⟨y0, y1, y2⟩ ∧ IB wn w3.heap.size ⟨z0, z1, z2⟩ ∧ IB wn w4.heap.size ⟨z0, z1, z2⟩ := ⟨beln (hS.1) hbn, NB.next (hS.2.1) hbn, NB.next (hS.2.2.1) hbn, IB.next (hS.2.2.2.1) hbn, IB.next (hS.2.2.2.2.1) hbn, IB.next (hS.2.2.2.2.2.1) hbn, IB.next (hS.2.2.2.2.2.2) hbn⟩
  go_simp
  refine hK _ _ hS ?_
  clear hK K
  try simp only [Act.put, List.setIfInBounds_toArray, List.set_cons_zero, List.set_cons_succ]
  refine wpGrowS_call (by simp only [List.getElem?_toArray, List.getElem?_cons_succ, List.getElem?_cons_zero]; rfl) (by rfl) fun K hK => ?_
  go_simp
  go_fit (HEB.out _ hS.1)
  rintro e wn ⟨rfl, hbn⟩
  have hSp := hS
  have hS : Below w.heap.size w wn ∧ NB wn w.heap.size ⟨s0, s1, s2⟩ A n c ⟨p0, p1, p2, p3, p4, p5, p6⟩ ∧ NB wn (w.heap.size + 1) ⟨t0, t1, t2⟩ B m d ⟨q0, q1, q2, q3, q4, q5, q6⟩ ∧ IB wn (w.heap.size + 1 + 1) ⟨x0, x1, x2⟩ ∧ IB wn (w.heap.size + 1 + 1 + 1) ⟨y0, y1, y2⟩ ∧ IB wn w3.heap.size ⟨z0, z1, z2⟩ ∧ IB wn w4.heap.size ⟨z0, z1, z2⟩ := ⟨beln (hS.1) hbn, NB.next (hS.2.1) hbn, NB.next (hS.2.2.1) hbn, IB.next (hS.2.2.2.1) hbn, IB.next (hS.2.2.2.2.1) hbn, IB.next (hS.2.2.2.2.2.1) hbn, IB.next (hS.2.2.2.2.2.2) hbn⟩
  go_simp
  refine hK _ _ hS ?_
  clear hK K
  try simp only [Act.put, List.setIfInBounds_toArray, List.set_cons_zero, List.set_cons_succ]
  iterate 8
    (first
      | (refine wpGrowS_float (v := ?_) (by simp only [List.getElem?_toArray, List.getElem?_cons_succ, List.getElem?_cons_zero]; rfl) (by rfl) ?_ ?_
         rotate_left
         · (intro W hW; obtain ⟨c0, c1, c2, c3, c4, c5, c6, c7, c8, c9, c10⟩ := NB.cells (hW.2.1); obtain ⟨e0, e1, e2, e3, e4, e5, e6, e7, e8, e9, e10⟩ := NB.cells (hW.2.2.1); obtain ⟨j0, j1, j2⟩ := IB.cells (hW.2.2.2.1); obtain ⟨k0, k1, k2⟩ := IB.cells (hW.2.2.2.2.1); obtain ⟨u0, u1, u2⟩ := IB.cells (hW.2.2.2.2.2.1); obtain ⟨v0, v1, v2⟩ := IB.cells (hW.2.2.2.2.2.2); have eql := fun W => HEQ.out W; (try simp only at *); go_simp; try with_reducible rfl)
         simp only [Act.put, List.setIfInBounds_toArray, List.set_cons_zero, List.set_cons_succ])
      | (refine wpGrowS_skip (by simp only [List.getElem?_toArray, List.getElem?_cons_succ, List.getElem?_cons_zero]; rfl) (by rfl) ?_
         simp only [Act.put, List.setIfInBounds_toArray, List.set_cons_zero, List.set_cons_succ]))
  refine wpGrowS_call (by simp only [List.getElem?_toArray, List.getElem?_cons_succ, List.getElem?_cons_zero]; rfl) (by rfl) fun K hK => ?_
  go_simp
  go_fit (HCA.out _ hS.1)
  rintro e wn ⟨A7, c7, rfl, hc7, hr7, hbn⟩
  have hSp := hS
  have hS : Below w.heap.size w wn ∧ NB wn w.heap.size ⟨s0, s1, s2⟩ A n c ⟨p0, p1, p2, p3, p4, p5, p6⟩ ∧ NB wn (w.heap.size + 1) ⟨t0, t1, t2⟩ B m d ⟨q0, q1, q2, q3, q4, q5, q6⟩ ∧ IB wn (w.heap.size + 1 + 1) ⟨x0, x1, x2⟩ ∧ IB wn (w.heap.size + 1 + 1 + 1) ⟨y0, y1, y2⟩ ∧ IB wn w3.heap.size ⟨z0, z1, z2⟩ ∧ IB wn w4.heap.size ⟨z0, z1, z2⟩ := ⟨beln (hS.1) hbn, NB.next (hS.2.1) hbn, NB.next (hS.2.2.1) hbn, IB.next (hS.2.2.2.1) hbn, IB.next (hS.2.2.2.2.1) hbn, IB.next (hS.2.2.2.2.2.1) hbn, IB.next (hS.2.2.2.2.2.2) hbn⟩
  go_simp
  refine hK _ _ hS ?_
  clear hK K
  try simp only [Act.put, List.setIfInBounds_toArray, List.set_cons_zero, List.set_cons_succ]
  refine wpGrowS_call (by simp only [List.getElem?_toArray, List.getElem?_cons_succ, List.getElem?_cons_zero]; rfl) (by rfl) fun K hK => ?_
  go_simp
  go_fit (HBA.out _ _ _ hr7 hc7)
  rintro e wn ⟨rfl, hbn⟩
  have hSp := hS
  have hS : Below w.heap.size w wn ∧ NB wn w.heap.size ⟨s0, s1, s2⟩ A n c ⟨p0, p1, p2, p3, p4, p5, p6⟩ ∧ NB wn (w.heap.size + 1) ⟨t0, t1, t2⟩ B m d ⟨q0, q1, q2, q3, q4, q5, q6⟩ ∧ IB wn (w.heap.size + 1 + 1) ⟨x0, x1, x2⟩ ∧ IB wn (w.heap.size + 1 + 1 + 1) ⟨y0, y1, y2⟩ ∧ IB wn w3.heap.size ⟨z0, z1, z2⟩ ∧ IB wn w4.heap.size ⟨z0, z1, z2⟩ := ⟨beln (hS.1) hbn, NB.next (hS.2.1) hbn, NB.next (hS.2.2.1) hbn, IB.next (hS.2.2.2.1) hbn, IB.next (hS.2.2.2.2.1) hbn, IB.next (hS.2.2.2.2.2.1) hbn, IB.next (hS.2.2.2.2.2.2) hbn⟩
  go_simp
  refine hK _ _ hS ?_
  clear hK K
  try simp only [Act.put, List.setIfInBounds_toArray, List.set_cons_zero, List.set_cons_succ]
  refine wpGrowS_call (by simp only [List.getElem?_toArray, List.getElem?_cons_succ, List.getElem?_cons_zero]; rfl) (by rfl) fun K hK => ?_
  go_simp
  go_fit (HHA.out _ hS.1)
  rintro e wn ⟨rfl, hbn⟩
  have hSp := hS
  have hS : Below w.heap.size w wn ∧ NB wn w.heap.size ⟨s0, s1, s2⟩ A n c ⟨p0, p1, p2, p3, p4, p5, p6⟩ ∧ NB wn (w.heap.size + 1) ⟨t0, t1, t2⟩ B m d ⟨q0, q1, q2, q3, q4, q5, q6⟩ ∧ IB wn (w.heap.size + 1 + 1) ⟨x0, x1, x2⟩ ∧ IB wn (w.heap.size + 1 + 1 + 1) ⟨y0, y1, y2⟩ ∧ IB wn w3.heap.size ⟨z0, z1, z2⟩ ∧ IB wn w4.heap.size ⟨z0, z1, z2⟩ := ⟨beln (hS.1) hbn, NB.next (hS.2.1) hbn, NB.next (hS.2.2.1) hbn, IB.next (hS.2.2.2.1) hbn, IB.next (hS.2.2.2.2.1) hbn, IB.next (hS.2.2.2.2.2.1) hbn, IB.next (hS.2.2.2.2.2.2) hbn⟩
  go_simp
  refine hK _ _ hS ?_
  clear hK K
  try simp only [Act.put, List.setIfInBounds_toArray, List.set_cons_zero, List.set_cons_succ]
  iterate 13
    (first
      | (refine wpGrowS_float (v := ?_) (by simp only [List.getElem?_toArray, List.getElem?_cons_succ, List.getElem?_cons_zero]; rfl) (by rfl) ?_ ?_
         rotate_left
         · (intro W hW; obtain ⟨c0, c1, c2, c3, c4, c5, c6, c7, c8, c9, c10⟩ := NB.cells (hW.2.1); obtain ⟨e0, e1, e2, e3, e4, e5, e6, e7, e8, e9, e10⟩ := NB.cells (hW.2.2.1); obtain ⟨j0, j1, j2⟩ := IB.cells (hW.2.2.2.1); obtain ⟨k0, k1, k2⟩ := IB.cells (hW.2.2.2.2.1); obtain ⟨u0, u1, u2⟩ := IB.cells (hW.2.2.2.2.2.1); obtain ⟨v0, v1, v2⟩ := IB.cells (hW.2.2.2.2.2.2); have eql := fun W => HEQ.out W; (try simp only at *); go_simp; try with_reducible rfl)
         simp only [Act.put, List.setIfInBounds_toArray, List.set_cons_zero, List.set_cons_succ])
      | (refine wpGrowS_skip (by simp only [List.getElem?_toArray, List.getElem?_cons_succ, List.getElem?_cons_zero]; rfl) (by rfl) ?_
         simp only [Act.put, List.setIfInBounds_toArray, List.set_cons_zero, List.set_cons_succ]))
  refine wpGrowS_call (by simp only [List.getElem?_toArray, List.getElem?_cons_succ, List.getElem?_cons_zero]; rfl) (by rfl) fun K hK => ?_
  go_simp
  go_fit (HAW.out _)
  rintro e wn ⟨rfl, hbn⟩
  have hSp := hS
  have hS : Below w.heap.size w wn ∧ NB wn w.heap.size ⟨s0, s1, s2⟩ A n c ⟨p0, p1, p2, p3, p4, p5, p6⟩ ∧ NB wn (w.heap.size + 1) ⟨t0, t1, t2⟩ B m d ⟨q0, q1, q2, q3, q4, q5, q6⟩ ∧ IB wn (w.heap.size + 1 + 1) ⟨x0, x1, x2⟩ ∧ IB wn (w.heap.size + 1 + 1 + 1) ⟨y0, y1, y2⟩ ∧ IB wn w3.heap.size ⟨z0, z1, z2⟩ ∧ IB wn w4.heap.size ⟨z0, z1, z2⟩ := ⟨beln (hS.1) hbn, NB.next (hS.2.1) hbn, NB.next (hS.2.2.1) hbn, IB.next (hS.2.2.2.1) hbn, IB.next (hS.2.2.2.2.1) hbn, IB.next (hS.2.2.2.2.2.1) hbn, IB.next (hS.2.2.2.2.2.2) hbn⟩
  go_simp
  refine hK _ _ hS ?_
  clear hK K
  try simp only [Act.put, List.setIfInBounds_toArray, List.set_cons_zero, List.set_cons_succ]
  iterate 2
    (first
      | (refine wpGrowS_float (v := ?_) (by simp only [List.getElem?_toArray, List.getElem?_cons_succ, List.getElem?_cons_zero]; rfl) (by rfl) ?_ ?_
         rotate_left
         · (intro W hW; obtain ⟨c0, c1, c2, c3, c4, c5, c6, c7, c8, c9, c10⟩ := NB.cells (hW.2.1); obtain ⟨e0, e1, e2, e3, e4, e5, e6, e7, e8, e9, e10⟩ := NB.cells (hW.2.2.1); obtain ⟨j0, j1, j2⟩ := IB.cells (hW.2.2.2.1); obtain ⟨k0, k1, k2⟩ := IB.cells (hW.2.2.2.2.1); obtain ⟨u0, u1, u2⟩ := IB.cells (hW.2.2.2.2.2.1); obtain ⟨v0, v1, v2⟩ := IB.cells (hW.2.2.2.2.2.2); have eql := fun W => HEQ.out W; (try simp only at *); go_simp; try with_reducible rfl)
         simp only [Act.put, List.setIfInBounds_toArray, List.set_cons_zero, List.set_cons_succ])
      | (refine wpGrowS_skip (by simp only [List.getElem?_toArray, List.getElem?_cons_succ, List.getElem?_cons_zero]; rfl) (by rfl) ?_
         simp only [Act.put, List.setIfInBounds_toArray, List.set_cons_zero, List.set_cons_succ]))
  refine wpGrowS_nil ?_
  have HF := Lib.hid hS.1
  clear hS
  go_wp2
  go_ret
  exact ⟨rfl, HF.out⟩
end Go.Proofs.Ytnoegjfokceghaa
