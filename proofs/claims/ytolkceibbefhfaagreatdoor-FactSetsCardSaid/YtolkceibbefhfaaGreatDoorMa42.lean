/-
  The law FactSets returns true.
  Conditions: the facts are facts of the language; strconv.ErrRange and the table of powers of ten lie as the program's start lays them.
-/
import Derived.Test.YtolkceibbefhfaaGreatDoorMa41
namespace Go.Proofs.YtolkceibbefhfaaGreatDoor
open Go.RowKit Go.Shelf

/-- The law's list, seen from a later world. -/
theorem DbE.at {w w' : World} {A : Option Addr} {c : Nat} {fs : List GFact} (h : DbE w A c fs) (hb : Below w.heap.size w w') : DbE w' A c fs := by
  obtain ⟨es, he, hr, hn, ha⟩ := h
  refine ⟨es.map fun x => Elem.of x.sf x.fact (x.hold hb), ?_, ⟨?_, by simpa using hr.le, hr.nilc, hr.max, ?_⟩, hn, ha⟩
  · rw [← he]; unfold FactsE; rw [List.map_map]; rfl
  · intro h0
    obtain ⟨b, off, e, hlt, hc⟩ := (hr.next hb).row (by simpa using h0)
    refine ⟨b, off, e, hlt, fun i hi j u hu => ?_⟩
    rw [List.getElem_map] at hu
    exact hc i (by simpa using hi) j u hu
  · have e2 : FactsE (es.map fun x => Elem.of x.sf x.fact (x.hold hb)) = FactsE es := by unfold FactsE; rw [List.map_map]; rfl
    rw [e2]; exact hr.kinds
set_option maxRecDepth 50000 in
set_option maxHeartbeats 4000000 in
theorem sets_any (A : Option Addr) (c : Nat) (ss : List SFact) (fs : List GFact) (sf sg : SFact) (f g : GFact) (rl : List UInt8) (n : Int) (w : World) (hD : IsFacts w A fs.length c ss fs) (hn : A = none → c = 0) (hf : IsFact w sf f) (hg : IsFact w sg g) (hrl : rl.length ≤ maxLen) (hG : Glob2 w) :
    Calls Tryz.prog 3 #[.slice A fs.length c, .agg #[.string ⟨sf.rel.toArray⟩, .slice sf.A sf.n sf.c], .agg #[.string ⟨sg.rel.toArray⟩, .slice sg.A sg.n sg.c], .string ⟨rl.toArray⟩, .int .i64 n] w fun e w' => e = .returned (.bool true) ∧ Below w.heap.size w w' := by
  generalize hW2 : (w.alloc (objF sf)).alloc (objF sg) = W2
  have hb2 : Below w.heap.size w W2 := by rw [← hW2]; exact bel_lit (bel_lit (Below.refl _ _) _) _
  have bf : BoxF W2 w.heap.size sf := by rw [← hW2]; exact (BoxF.new w sf).alloc _
  have bg : BoxF W2 (w.heap.size + 1) sg := by rw [← hW2]; have := BoxF.new (w.alloc (objF sf)) sg; simpa using this
  have hs2 : W2.heap.size = w.heap.size + 1 + 1 := by rw [← hW2]; simp
  have HC2 := Lib.hid hb2
  have HFD := Lib.hid (few_any ss fs A c W2 (hD.row.next hb2))
  have HFT := Lib.hid (few_any [sf, sg] [f, g] _ 2 _ (two_row W2 (hf.hold.next (Nat.le_refl _) hb2) (hg.hold.next (Nat.le_refl _) hb2)))
  have HAW := Lib.hid fun W (hW : Below W2.heap.size W2 W) => awake_any W ((hG.next hb2).next hW)
  have HLIT := Lib.hid (bel_lit (Below.refl W2.heap.size W2) (.cells #[.string ⟨sf.rel.toArray⟩, .slice sf.A sf.n sf.c, .string ⟨sg.rel.toArray⟩, .slice sg.A sg.n sg.c] 25))
  have HE := Lib.hid fun (h1 : Small fs) (h2 : Small [f, g]) => show LawE w.heap.size sf sg f g A c fs w _ from LawE.next (W := W2) ⟨bf, bg, FactS.of hf hb2 (h2.2 f (by simp)), FactS.of hg hb2 (h2.2 g (by simp)), (hD.setL hn h1).next hb2, hG.next hb2, hb2⟩ HLIT.out
  have x0 := bf.c0
  have x1 := bf.c1
  have y0 := bg.c0
  have y1 := bg.c1
  have HDB := Lib.hid fun (h1 : Small fs) => (hD.dbE hn h1)
  have HDN := Lib.hid hb2
  have hsz : (⟨rl.toArray⟩ : ByteArray).size = rl.length := ba_size rl
  unfold maxLen at hrl
  clear hD hn hf hg hG hb2 bf bg
  obtain ⟨rf, Af, nf, cf⟩ := sf
  obtain ⟨rg, Ag, ng, cg⟩ := sg
  simp only [objF] at hW2
  simp only at x0 x1 y0 y1
  have hnot : ∀ (x : Bool) (w : World), (Op.unary .not (.bool x)).run Tryz.prog w = .ok (.bool (!x)) w := fun _ _ => rfl
  go_enter Tryz.func3, Tryz.ntmps3
  go_upto_region 1 with fail
  clear hW2
  rw [show [f, g].length = 2 from rfl, hs2] at HFT
  try simp only at HFT
  try simp only at HE
  go_wp2_with fail
  go_fit HFD.out
  rintro e w4 ⟨⟨q, rfl, hq⟩, rfl⟩
  have HQ := Lib.hid hq
  clear hq HFD
  cases q
  · have HA0 := Lib.hid (HAW.out W2 (Below.refl _ _))
    go_wp2_with fail
    go_fit HA0.out
    rintro e w5 ⟨rfl, hb5⟩
    have HN := Lib.hid (bel_next HC2.out hb5)
    clear hb5
    go_wp2
    go_ret
    exact ⟨rfl, HN.out⟩
  go_wp2_with fail
  go_fit HFT.out
  rintro e w4 ⟨⟨q, rfl, hq⟩, rfl⟩
  have HQ2 := Lib.hid hq
  clear hq HFT
  cases q
  · have HA0 := Lib.hid (HAW.out _ HLIT.out)
    have HN0 := Lib.hid (bel_next HC2.out HLIT.out)
    try simp only at HA0
    try simp only at HN0
    go_wp2_with fail
    go_fit HA0.out
    rintro e w5 ⟨rfl, hb5⟩
    have HN := Lib.hid (bel_next HN0.out hb5)
    clear hb5
    go_wp2
    go_ret
    exact ⟨rfl, HN.out⟩
  by_cases hr60 : rl.length ≤ 60
  case neg =>
    have f60 : decide ((60 : Int) < (rl.length : Int)) = true := by simp; omega
    have g60 : (60 : Int) < (rl.length : Int) := by omega
    have HA0 := Lib.hid (HAW.out _ HLIT.out)
    have HN0 := Lib.hid (bel_next HC2.out HLIT.out)
    try simp only at HA0
    try simp only at HN0
    go_wp2_with fail
    go_fit HA0.out
    rintro e w5 ⟨rfl, hb5⟩
    have HN := Lib.hid (bel_next HN0.out hb5)
    clear hb5
    go_wp2
    go_ret
    exact ⟨rfl, HN.out⟩
  have f60 : decide ((60 : Int) < (rl.length : Int)) = false := by simp; omega
  have g60 : ¬ (60 : Int) < (rl.length : Int) := by omega
  have he4 := HE.out (HQ.out (by first | rfl | trivial)) (HQ2.out (by first | rfl | trivial))
  have hdb0 : DbE w A c fs := HDB.out (HQ.out (by first | rfl | trivial))
  clear HE HQ HQ2 HAW HLIT HC2 x0 x1 y0 y1 HDB HDN
  generalize W2.alloc (.cells #[.string ⟨rf.toArray⟩, .slice Af nf cf, .string ⟨rg.toArray⟩, .slice Ag ng cg] 25) = W4 at *
  have HE4 := Lib.hid he4
  have HDB : Hid (DbE W4 A c fs) := Lib.hid (hdb0.at he4.bel)
  clear he4 hs2 hdb0
  generalize hn0 : w.heap.size = n0 at *
  have HN0 := Lib.hid hn0
  have HF4 := Lib.hid HE4.out.f
  have HCP := Lib.hid (copyU A c fs W4 HE4.out.db)
  have HIN := Lib.hid fun v W (h : LawE n0 ⟨rf, Af, nf, cf⟩ ⟨rg, Ag, ng, cg⟩ f g A c fs w W) (hS : SetL W v fs 80) => insertU v fs _ f W hS h.f h.glob.2
  have HRI := Lib.hid fun W (hb : Below W4.heap.size W4 W) => rInsertU A c fs _ f W HDB.out HF4.out hb
  have HRM := Lib.hid fun v W (h : LawE n0 ⟨rf, Af, nf, cf⟩ ⟨rg, Ag, ng, cg⟩ f g A c fs w W) (hS : SetL W v fs 80) => removeU v fs _ f W hS h.f
  have HRR := Lib.hid fun W (hb : Below W4.heap.size W4 W) => rRemoveU A c fs _ f W HDB.out HF4.out hb
  simp only at HIN HRI HRM HRR
  generalize gwfF f = p at *
  generalize hab : fs.any (isF f) = ab at *
  have HAB := Lib.hid hab
  clear hn0 hab
  have x0 := HE4.out.bf.c0
  have x1 := HE4.out.bf.c1
  have y0 := HE4.out.bg.c0
  have y1 := HE4.out.bg.c1
  simp only at x0 x1 y0 y1
  go_wp2_with fail
  go_fit HCP.out
  rintro e w5 ⟨Ax, cx, rfl, hx1, hb5⟩
  have HE5 := Lib.hid (HE4.out.next hb5)
  have HX5 := Lib.hid hx1
  have HB5 := Lib.hid hb5
  clear hb5 hx1 HCP
  clear x0 x1 y0 y1
  have x0 := HE5.out.bf.c0
  have x1 := HE5.out.bf.c1
  have y0 := HE5.out.bg.c0
  have y1 := HE5.out.bg.c1
  simp only at x0 x1 y0 y1
  go_wp2_with fail
  go_fit (HIN.out _ _ HE5.out HX5.out)
  rintro e w6 ⟨Aa, ca, fa, rfl, ha1, ha2, hb6⟩
  have HE6 := Lib.hid (HE5.out.next hb6)
  have HX6 := Lib.hid (HX5.out.next hb6)
  have HB6 := Lib.hid (bel_next HB5.out hb6)
  have HA6 := Lib.hid ha1
  have HA2 := Lib.hid ha2
  clear hb6 ha1 ha2
  clear x0 x1 y0 y1
  have x0 := HE6.out.bf.c0
  have x1 := HE6.out.bf.c1
  have y0 := HE6.out.bg.c0
  have y1 := HE6.out.bg.c1
  simp only at x0 x1 y0 y1
  go_wp2_with fail
  go_fit (HRI.out _ HB6.out)
  rintro e w7 ⟨Ab, cb, fb, rfl, ha1, ha2, hb7⟩
  have HE7 := Lib.hid (HE6.out.next hb7)
  have HX7 := Lib.hid (HX6.out.next hb7)
  have HB7 := Lib.hid (bel_next HB6.out hb7)
  have HA7 := Lib.hid (HA6.out.next hb7)
  have HBB7 := Lib.hid ha1
  have HBB2 := Lib.hid ha2
  clear hb7 ha1 ha2
  clear x0 x1 y0 y1
  have x0 := HE7.out.bf.c0
  have x1 := HE7.out.bf.c1
  have y0 := HE7.out.bg.c0
  have y1 := HE7.out.bg.c1
  simp only at x0 x1 y0 y1
  have HEAB := Lib.hid (HA2.out.same HBB2.out)
  have HRM7 := Lib.hid (HRM.out _ _ HE7.out HX7.out)
  unfold RemU at HRM7
  rw [HAB.out] at HRM7
  go_wp2_with fail
  go_fit HRM7.out
  rintro e w8 ⟨Ac, cc, fc, rfl, ha1, ha2, ha3, hb8⟩
  have HE8 := Lib.hid (HE7.out.next hb8)
  have HX8 := Lib.hid (HX7.out.next hb8)
  have HB8 := Lib.hid (bel_next HB7.out hb8)
  have HA8 := Lib.hid (HA7.out.next hb8)
  have HBB8 := Lib.hid (HBB7.out.next hb8)
  have HC8 := Lib.hid ha1
  have HC2 := Lib.hid ha2
  have HC3 := Lib.hid ha3
  clear hb8 ha1 ha2 ha3 HRM7
  clear x0 x1 y0 y1
  have x0 := HE8.out.bf.c0
  have x1 := HE8.out.bf.c1
  have y0 := HE8.out.bg.c0
  have y1 := HE8.out.bg.c1
  simp only at x0 x1 y0 y1
  have HRR8 := Lib.hid (HRR.out _ HB8.out)
  unfold RemU at HRR8
  rw [HAB.out] at HRR8
  go_wp2_with fail
  go_fit HRR8.out
  rintro e w9 ⟨Ad, cd, fd, rfl, ha1, ha2, ha3, hb9⟩
  have HE9 := Lib.hid (HE8.out.next hb9)
  have HX9 := Lib.hid (HX8.out.next hb9)
  have HB9 := Lib.hid (bel_next HB8.out hb9)
  have HA9 := Lib.hid (HA8.out.next hb9)
  have HBB9 := Lib.hid (HBB8.out.next hb9)
  have HC9 := Lib.hid (HC8.out.next hb9)
  have HD9 := Lib.hid ha1
  have HD2 := Lib.hid ha2
  have HD3 := Lib.hid ha3
  clear hb9 ha1 ha2 ha3 HRR8
  clear x0 x1 y0 y1
  have x0 := HE9.out.bf.c0
  have x1 := HE9.out.bf.c1
  have y0 := HE9.out.bg.c0
  have y1 := HE9.out.bg.c1
  simp only at x0 x1 y0 y1
  have HECD := Lib.hid (sel_same (p := fun g => g ≠ f) HC2.out HD2.out HC3.out HD3.out)
  have KCM := Lib.hid fun W (hW : Below w9.heap.size w9 W) => compareS_any f g _ _ W (HE9.out.next hW).f.hold (HE9.out.next hW).g.hold
  have KRC := Lib.hid fun W (hW : Below w9.heap.size w9 W) => rCompare_any f g _ _ W (HE9.out.next hW).f.hold (HE9.out.next hW).g.hold HE9.out.f.kinds HE9.out.g.kinds
  have KS1 := Lib.hid fun W (hW : Below w9.heap.size w9 W) => sameT _ _ fa fb _ _ W (HA9.out.next hW) (HBB9.out.next hW) (by omega) HEAB.out
  have KS2 := Lib.hid fun W (hW : Below w9.heap.size w9 W) => sameT _ _ fc fd _ _ W (HC9.out.next hW) (HD9.out.next hW) (by omega) HECD.out
  have KS4 := Lib.hid fun W (hW : Below w9.heap.size w9 W) => sameT _ _ fs fs _ _ W (HX9.out.next hW) (HE9.out.db.next hW) (by omega) rfl
  have KC1 := Lib.hid fun W (hW : Below w9.heap.size w9 W) => containsS Ax cx fs _ _ f W (HX9.out.next hW) (by omega) (HE9.out.next hW).f.hold
  have KC2 := Lib.hid fun W (hW : Below w9.heap.size w9 W) => rContainsU A c fs _ f W HDB.out HF4.out (bel_next HB9.out hW)
  rw [HAB.out] at KC1 KC2
  have KL1 := Lib.hid fun W (hW : Below w9.heap.size w9 W) => selectU _ fs rl n W (HX9.out.next hW)
  have KL2 := Lib.hid fun W (hW : Below w9.heap.size w9 W) => rSelectU A c fs rl n W HDB.out (bel_next HB9.out hW)
  have KAW := Lib.hid fun W (hW : Below w9.heap.size w9 W) => awake_any W (HE9.out.next hW).glob
  simp only at KCM KRC KC1 KC2
  generalize errOf p = er at *
  generalize cmpF f g = kk at *
  have k1 : (er == er) = true := by simp
  have k2 : (kk == kk) = true := by simp
  have k3 : (ab == ab) = true := by simp
  have HKS : Hid (∀ W W' : World, (Below w9.heap.size w9 W ∧ W.cell? ⟨n0, 0, none⟩ = some (.string ⟨rf.toArray⟩) ∧ W.cell? ⟨n0, 1, none⟩ = some (.slice Af nf cf) ∧ W.cell? ⟨n0 + 1, 0, none⟩ = some (.string ⟨rg.toArray⟩) ∧ W.cell? ⟨n0 + 1, 1, none⟩ = some (.slice Ag ng cg)) → Below W.heap.size W W' →
      (Below w9.heap.size w9 W' ∧ W'.cell? ⟨n0, 0, none⟩ = some (.string ⟨rf.toArray⟩) ∧ W'.cell? ⟨n0, 1, none⟩ = some (.slice Af nf cf) ∧ W'.cell? ⟨n0 + 1, 0, none⟩ = some (.string ⟨rg.toArray⟩) ∧ W'.cell? ⟨n0 + 1, 1, none⟩ = some (.slice Ag ng cg))) := Lib.hid fun W W' h hb => by
    obtain ⟨h0, h1, h2, h3, h4⟩ := h
    have key : ∀ {N j : Nat} {v : Value}, W.cell? ⟨N, j, none⟩ = some v → W'.cell? ⟨N, j, none⟩ = some v := fun {N j v} h => (hb.cell (p := ⟨N, j, none⟩) (World.block_lt_of_cell? W _ h)).trans h
    exact ⟨bel_next h0 hb, key h1, key h2, key h3, key h4⟩
  have hS4 := HKS.out w9 w9.drew ⟨Below.refl _ _, x0, x1, y0, y1⟩ ((Below.refl _ _).drew)
  have HBW := Lib.hid HE9.out.bel
  clear x0 x1 y0 y1 HIN HRI HRM HRR HX5 HX6 HX7 HX8 HX9 HA6 HA7 HA8 HA9 HBB7 HBB8 HBB9 HC8 HC9 HD9 HE4 HE5 HE6 HE7 HE8 HE9 HB5 HB6 HB7 HB8 HB9 HDB HF4 HA2 HBB2 HC2 HC3 HD2 HD3 hsz f60 g60
  go_upto_region 8 with fail
  go_region_held3 (fun W => Below w9.heap.size w9 W ∧ W.cell? ⟨n0, 0, none⟩ = some (.string ⟨rf.toArray⟩) ∧ W.cell? ⟨n0, 1, none⟩ = some (.slice Af nf cf) ∧ W.cell? ⟨n0 + 1, 0, none⟩ = some (.string ⟨rg.toArray⟩) ∧ W.cell? ⟨n0 + 1, 1, none⟩ = some (.slice Ag ng cg))
    (assumption)
    (first
      | (go_at_call 13; go_fit (KCM.out _ (And.left (by assumption))); rintro e w1 ⟨rfl, hbn⟩; have hSn := HKS.out _ _ (by assumption) hbn)
      | (go_at_call 14; go_fit (KRC.out _ (And.left (by assumption))); rintro e w1 ⟨rfl, hbn⟩; have hSn := HKS.out _ _ (by assumption) hbn)
      | (go_at_call 15; go_fit (KS1.out _ (And.left (by assumption))); rintro e w1 ⟨rfl, hbn⟩; have hSn := HKS.out _ _ (by assumption) hbn)
      | (go_at_call 15; go_fit (KS2.out _ (And.left (by assumption))); rintro e w1 ⟨rfl, hbn⟩; have hSn := HKS.out _ _ (by assumption) hbn)
      | (go_at_call 15; go_fit (KS4.out _ (And.left (by assumption))); rintro e w1 ⟨rfl, hbn⟩; have hSn := HKS.out _ _ (by assumption) hbn)
      | (go_at_call 16; go_fit (KC1.out _ (And.left (by assumption))); rintro e w1 ⟨rfl, hbn⟩; have hSn := HKS.out _ _ (by assumption) hbn)
      | (go_at_call 17; go_fit (KC2.out _ (And.left (by assumption))); rintro e w1 ⟨rfl, hbn⟩; have hSn := HKS.out _ _ (by assumption) hbn)
      | (go_at_call 18; go_fit (KL1.out _ (And.left (by assumption))); rintro e w1 ⟨A1, c1, f1, rfl, hl1, hl2, hl3, hbl⟩; have hSn := HKS.out _ _ (by assumption) hbl)
      | (go_at_call 19; go_fit (KL2.out _ (And.left (by assumption))); rintro e w2 ⟨A2, c2, f2, rfl, hm1, hm2, hm3, hbm⟩; have hSn := HKS.out _ _ (by assumption) hbm)
      | (go_at_call 15; go_fit (sameT _ _ f1 f2 _ _ _ (hl1 _ (by first | exact Below.refl _ _ | assumption)) (hm1 _ (by first | exact Below.refl _ _ | assumption)) (by omega) (sel_same hl2 hm2 hl3 hm3)); rintro e w1 ⟨rfl, hbn⟩; have hSn := HKS.out _ _ (by assumption) hbn)
      | (go_at_call 7; go_fit (KAW.out _ (And.left (by assumption))); rintro e w3 ⟨rfl, hbn⟩; have hSz := HKS.out _ _ (by assumption) hbn))
  all_goals
    have HN := Lib.hid (bel_next HBW.out hSz.1)
    go_wp2
    go_ret
    rw [← HN0.out]
    exact ⟨rfl, HN.out⟩
end Go.Proofs.YtolkceibbefhfaaGreatDoor
