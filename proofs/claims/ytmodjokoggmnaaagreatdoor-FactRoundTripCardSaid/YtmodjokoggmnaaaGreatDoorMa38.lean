/-
  The reference's Parse of facts: the walk.
  Conditions: the text has at most 3000 bytes.
  The reference's Format of facts.
  facts.Format at any list of facts.
  Conditions: at most 90000 facts, their words and numbers as FewV says; the table of powers of ten lies as the program's text writes it.
-/
import Derived.Test.YtmodjokoggmnaaaGreatDoorMa37
import Derived.Test.YtmodjokoggmnaaaGreatDoorMa27
import Derived.Test.YtmodjokoggmnaaaGreatDoorMa16
import Derived.Test.YtmodjokoggmnaaaGreatDoorMa21
namespace Go.Proofs.YtmodjokoggmnaaaGreatDoor
open Go.RowKit Go.Shelf

theorem int_kind (l : List UInt8) (gs : List GTok) (s : RS) : KindsWf [(argR l gs s).1] := by
  intro v hv
  simp at hv
  subst hv
  unfold argR
  split
  · show (Lit.int .i64 1).wf = true; decide
  · split
    · show (Lit.int .i64 2).wf = true; decide
    · show (Lit.int .i64 0).wf = true; decide
theorem RowE.setV {w0 w : World} {A : Option Addr} {c : Nat} {es : List (Elem w0)} (h : RowE w A c es) (hb : Below w0.heap.size w0 w) : SetV w (.slice A es.length c) (es.map Elem.sf) (FactsE es) := by
  refine SetV.elems hb ?_
  cases A with
  | none =>
    have h0 := h.nilc rfl
    have := h.le
    have he : es = [] := List.eq_nil_of_length_eq_zero (by omega)
    subst he
    exact .inl ⟨by rw [h0]; rfl, rfl⟩
  | some ad =>
    refine .inr ⟨ad, c, by rw [List.length_map], fun hn0 => ?_⟩
    rw [List.length_map] at hn0
    obtain ⟨b, off, e, hlt, hc⟩ := h.row hn0
    refine ⟨b, off, e, hlt, fun i hi j u hu => ?_⟩
    rw [List.length_map] at hi
    rw [List.getElem_map] at hu
    exact hc i hi j u hu
theorem open_le {l : List UInt8} (hl : l.length ≤ 3000) : (openG l).length ≤ 3000 ∧ (openS l).i = 0 := by
  unfold openG openS
  cases hsc : scan l with
  | ok toks =>
    unfold scan at hsc
    rw [if_neg (by omega)] at hsc
    have := lex_count l 0 _ toks hsc
    simp
    omega
  | no x y e => simp
theorem RPS.own {W W' : World} {q : Option Nat} {p : Nat} {l : List UInt8} {gs : List GTok} {s : RS} (h : RPS W p l gs s) (hg : W.grownBy W' q) (hq : ∀ g, q = some g → p < g) : RPS W' p l gs s := by
  have hlt := h.lt
  obtain ⟨A6, c6, h6, hr6⟩ := h
  exact ⟨A6, c6, (hg.block p hlt (by intro e; have := hq p e.symm; omega)).trans h6, hr6.keep fun g hg' => hg.block g (by omega) (by intro e; have := hq g e.symm; omega)⟩
def ValV (W : World) (N : Nat) (v : GVal) : Prop := W.heap[N]? = some (.cells #[.int .i64 v.kind, .int .i64 v.int, .string ⟨v.word.toArray⟩] 40 (0, 0))
theorem ValV.lt {W : World} {N : Nat} {v : GVal} (h : ValV W N v) : N < W.heap.size := by
  rcases Nat.lt_or_ge N W.heap.size with hlt | hge
  · exact hlt
  · have : W.heap[N]? = none := by simp; omega
    unfold ValV at h
    rw [this] at h
    cases h
theorem ValV.gb {W W' : World} {N p : Nat} {v : GVal} (h : ValV W N v) (hb : W.grownBy W' (some p)) (hp : N ≠ p) : ValV W' N v := (hb.block N h.lt (by intro e; cases e; exact hp rfl)).trans h
theorem ValV.facts {W : World} {N : Nat} {v : GVal} (h : ValV W N v) : W.cell? ⟨N, 0, none⟩ = some (.int .i64 v.kind) ∧ W.cell? ⟨N, 1, none⟩ = some (.int .i64 v.int) ∧ W.cell? ⟨N, 2, none⟩ = some (.string ⟨v.word.toArray⟩) := by
  refine ⟨?_, ?_, ?_⟩ <;> (unfold World.cell?; rw [show W.heap[N]? = _ from h]; rfl)
theorem take_no {gs : List GTok} {s : RS} {k : Int} {tx : List UInt8} (h : peekR gs s k tx = false) : takeR gs s k tx = s := by unfold takeR; rw [h]; rfl
theorem take_yes {gs : List GTok} {s : RS} {k : Int} {tx : List UInt8} (h : peekR gs s k tx = true) : (takeR gs s k tx).i = s.i + 1 ∧ (takeR gs s k tx).e = s.e := by unfold takeR; rw [h]; exact ⟨rfl, rfl⟩
def InnJ (l : List UInt8) (gs : List GTok) (r : RS × List GVal) (p F K : Nat) (nm : List UInt8) (wb : World) (v7 : Value) (wr : World) : Prop :=
  ∃ m s a A c, v7 = .pointer (some ⟨F, 0, none⟩) ∧ RPS wr p l gs s ∧ FacV wr F nm (.slice A a.length c) ∧ OwnG GVal.cells 40 3 wr (F + 1) (.slice A a.length c) a ∧ a.length ≤ 8 ∧ s.i ≤ gs.length ∧ gs.length + 1 ≤ m + s.i ∧ rArgsR l gs m s a = r ∧ wb.grownBy wr (some p) ∧ K ≤ s.i ∧ (s.e = 0 → K + 1 ≤ s.i) ∧ KindsWf a
def OutJ (l : List UInt8) (gs : List GTok) (r : RS × List GFact) (p : Nat) (wo : World) (vo : Value) (wr : World) : Prop :=
  ∃ n s fs ss, RPS wr p l gs s ∧ ListI wo wr p vo ss fs ∧ s.i ≤ gs.length ∧ (s.e = 0 → fs.length ≤ s.i) ∧ fs.length ≤ gs.length + 1 ∧ (∀ f ∈ fs, f.args.length ≤ 9 ∧ KindsWf f.args) ∧ (s.e = 0 → gs.length + 1 ≤ n + s.i) ∧ rFactsR l gs n s fs = r ∧ wo.grownBy wr (some p)
theorem rFactsR_go (l : List UInt8) (gs : List GTok) (n : Nat) (s : RS) (o : List GFact) (he : s.e = 0) (hd : doneR gs s = false) (h8 : o.length < 8192) : rFactsR l gs (n + 1) s o =
    rFactsR l gs n (needR l gs (needR l gs (rArgsR l gs (gs.length + 1) (needR l gs (nameR l gs s 1) 4 [40]) []).1 4 [41]) 4 [46]) (o ++ [⟨(anyT gs s 1).text, (rArgsR l gs (gs.length + 1) (needR l gs (nameR l gs s 1) 4 [40]) []).2⟩]) := by
  rw [rFactsR, if_pos ⟨he, hd⟩]
  simp only
  rw [if_neg (by omega : ¬ 8192 ≤ o.length)]
theorem rFactsR_stop (l : List UInt8) (gs : List GTok) (n : Nat) (s : RS) (o : List GFact) (h : ¬ (s.e = 0 ∧ doneR gs s = false)) : rFactsR l gs n s o = (s, o) := by
  cases n with
  | zero => rfl
  | succ n => rw [rFactsR, if_neg h]
theorem ListI.rowE {w wr : World} {p : Nat} {vl : Value} {ss : List SFact} {fs : List GFact} (h : ListI w wr p vl ss fs) (hk : ∀ f ∈ fs, KindsWf f.args) : ∃ es : List (Elem wr), ∃ A c, FactsE es = fs ∧ es.length = fs.length ∧ vl = .slice A es.length c ∧ RowE wr A c es := by
  obtain ⟨es, e1, e2⟩ := elems_of ss fs h.len (fun i h1 h2 => (h.each i h1 h2).1)
  have hel : es.length = fs.length := by rw [← e2, List.length_map]
  obtain ⟨A, c, e, h1, h2, h3⟩ := h.own.row SFact.len
  refine ⟨es, A, c, e2, hel, by rw [e, hel, h.len], ⟨?_, by rw [hel, ← h.len]; exact h1, fun hA => ?_, h2, fun f hf => hk f (by rw [← e2]; exact hf)⟩⟩
  · rw [← e1] at h3
    intro h0
    obtain ⟨b, off, e, hlt, hc⟩ := h3 (by simpa using h0)
    exact ⟨b, off, e, hlt, fun i hi j u hu => hc i (by simpa using hi) j u (by rw [List.getElem_map]; exact hu)⟩
  · rcases h.own.2 with ⟨hv, h0⟩ | ⟨g, cap, cur, hv, _⟩
    · rw [e] at hv; injection hv
    · rw [e, hA] at hv; cases hv
set_option maxRecDepth 50000 in
set_option maxHeartbeats 4000000 in
theorem rParse_any (l : List UInt8) (w : World) (hl : l.length ≤ 3000) :
    Calls Tryz.prog 8 #[.string ⟨l.toArray⟩] w (RParseEnd (rFactsR l (openG l) ((openG l).length + 1) (openS l) []) w) := by
  have hl6 : l.length ≤ 65536 := by omega
  have HOP := Lib.hid (rOpen_any l (w.alloc (.cells #[.int .i64 0, .int .i64 0] 26)) hl6)
  unfold OpenEnd at HOP
  obtain ⟨hg3, hs0⟩ := open_le hl
  generalize openG l = gs at *
  generalize openS l = s0 at *
  generalize hr : rFactsR l gs (gs.length + 1) s0 [] = r
  have HR := Lib.hid hr
  have HPV : Hid (PosV (w.alloc (.cells #[.int .i64 0, .int .i64 0] 26)) w.heap.size) := Lib.hid (heap_alloc_new w _)
  have hnot : ∀ (x : Bool) (w : World), (Op.unary .not (.bool x)).run Tryz.prog w = .ok (.bool (!x)) w := fun _ _ => rfl
  have hsa : (w.alloc (.cells #[.int .i64 0, .int .i64 0] 26)).heap.size = w.heap.size + 1 := by simp
  clear hr
  go_enter Tryz.func8, Tryz.ntmps8
  go_wp2_with fail
  go_fit HOP.out
  rintro e wo ⟨p, rfl, hp0, hps, hbo⟩
  have hpo : p < wo.heap.size := hps.lt
  have hpN : w.heap.size < p := by omega
  have HPS := Lib.hid hps
  have HPO := Lib.hid (HPV.out.next hbo)
  have HBO := Lib.hid (bel_alloc (Below.refl _ w) hbo)
  clear hps hbo HOP hp0 hsa HPV
  go_wp2
  go_loopw [6] (fun vo wr => OutJ l gs r p wo vo wr) (fun _ wr => parM p wr)
  case atStart => exact ⟨_, s0, [], [], HPS.out, ListI.nil _ _ _, by omega, fun _ => by simp, by simp, fun f hf => by simp at hf, fun _ => Nat.le_add_right _ _, HR.out, gb_refl _⟩
  case round =>
    obtain ⟨n, s, fs, ss, hps, hli, hsi, hfi, hfl, hfa, hn, hrf, hgb⟩ := hrel
    have HPS := Lib.hid hps
    have HLI := Lib.hid hli
    have HFA := Lib.hid hfa
    have HGB := Lib.hid hgb
    have HSL := Lib.hid hli.len
    have hgs := hgb.size
    have HK := Lib.hid fun W (hW : RPS W p l gs s) => (rOK_reads hW).calls
    have HDN := Lib.hid fun W (hW : RPS W p l gs s) => (rDone_reads hW).calls
    have HMW := Lib.hid (parM_rps hps)
    obtain ⟨Ao, co, rfl, _, _, _⟩ := hli.own.row SFact.len
    clear hps hli hfa hgb
    by_cases he : s.e = 0
    case neg =>
      have he' : (s.e == 0) = false := by simp [he]
      rw [rFactsR_stop l gs n s fs (fun h => he h.1)] at hrf
      have HRF := Lib.hid hrf
      have HNE := Lib.hid he
      have HK1 := Lib.hid (HK.out _ HPS.out)
      rw [he'] at HK1
      clear hrf he hfi hfl
      go_wp2_with fail
      go_fit HK1.out
      rintro e w1 ⟨rfl, hb1⟩
      have HP1 := Lib.hid (HPS.out.next hb1)
      have HG1 := Lib.hid (gb_trans HGB.out (gb_bel hb1))
      have HK2 := Lib.hid (HK.out _ HP1.out)
      rw [he'] at HK2
      clear hb1
      go_wp2_with fail
      go_fit HK2.out
      rintro e w2 ⟨rfl, hb2⟩
      have HP2 := Lib.hid (HP1.out.next hb2)
      have HG2 := Lib.hid (gb_trans HG1.out (gb_bel hb2))
      have HPV2 : Hid (PosV w2 w.heap.size) := Lib.hid ((HG2.out.block _ HPO.out.lt (by intro e; cases e; omega)).trans HPO.out)
      obtain ⟨A, cap, hp, c0, c1, c2, c3, c4, c5, hrw, hf, hh⟩ := HP2.out.open
      obtain ⟨q0, q1, z0, z1⟩ := HPV2.out.facts
      have hw2 : w.heap.size < w2.heap.size := HPV2.out.lt
      have hne : p ≠ w.heap.size := by omega
      have HB2 := Lib.hid (bel_gb HBO.out (by omega) HG2.out)
      have HBF := Lib.hid (((HB2.out.setCell (p := ⟨w.heap.size, 0, none⟩) (Nat.le_refl _) (.int .i64 s.x)).setCell (p := ⟨w.heap.size, 1, none⟩) (Nat.le_refl _) (.int .i64 s.y)).drew)
      clear hb2 hrw hf hh HK HDN HK1 HK2
      go_upto_region 21 with fail
      go_region
      go_wp2
      refine bodyPost_ret (v := .tuple #[.slice none 0 0, .agg #[.int .i64 s.x, .int .i64 s.y], .int .i64 s.e]) (by simp [results, Tryz.results8, go_sem, q0, q1]) rfl ?_
      rw [← HRF.out]
      exact .inl ⟨HNE.out, rfl, HBF.out⟩
    have he' : (s.e == 0) = true := by simp [he]
    have HE := Lib.hid he
    have HK1 := Lib.hid (HK.out _ HPS.out)
    rw [he'] at HK1
    cases hd : doneR gs s
    case true =>
      rw [rFactsR_stop l gs n s fs (fun h => by rw [hd] at h; cases h.2)] at hrf
      have HRF := Lib.hid hrf
      clear hrf
      go_wp2_with fail
      go_fit HK1.out
      rintro e w1 ⟨rfl, hb1⟩
      have HP1 := Lib.hid (HPS.out.next hb1)
      have HG1 := Lib.hid (gb_trans HGB.out (gb_bel hb1))
      have HL1 := Lib.hid (HLI.out.gb hpo (gb_bel hb1))
      have HD1 := Lib.hid (HDN.out _ HP1.out)
      rw [hd] at HD1
      clear hb1
      go_wp2_with fail
      go_fit HD1.out
      rintro e w2 ⟨rfl, hb2⟩
      have HP2 := Lib.hid (HP1.out.next hb2)
      have HG2 := Lib.hid (gb_trans HG1.out (gb_bel hb2))
      have HL2 := Lib.hid (HL1.out.gb hpo (gb_bel hb2))
      have HK2 := Lib.hid (HK.out _ HP2.out)
      rw [he'] at HK2
      clear hb2
      go_wp2_with fail
      go_fit HK2.out
      rintro e w3 ⟨rfl, hb3⟩
      have HG3 := Lib.hid (gb_trans HG2.out (gb_bel hb3))
      have hl3 := HL2.out.gb hpo (gb_bel hb3)
      have HPV3 : Hid (PosV w3 w.heap.size) := Lib.hid ((HG3.out.block _ HPO.out.lt (by intro e; cases e; omega)).trans HPO.out)
      have HB3 := Lib.hid (bel_gb HBO.out (by omega) HG3.out)
      obtain ⟨es, A, c, hee, hel, hvl, hre⟩ := hl3.rowE (fun f hf => (HFA.out f hf).2)
      have HST := Lib.hid (rSet_any es A c w3 (Below.refl _ _) hre (by omega))
      have hssl := hl3.len
      have hv : Value.slice Ao ss.length co = .slice A es.length c := hvl
      have HEE := Lib.hid hee
      injection hv with i1 i2 i3
      subst i1 i3
      rw [← i2] at HST
      clear hb3 hl3 hre hvl HK HDN HK1 HK2 HD1 hssl hee i2
      go_wp2_with fail
      go_fit HST.out
      rintro e w4 ⟨A4, c4, es4, rfl, h1, h2, h3, h4, h5⟩
      have hset : SetV w4 (.slice A4 es4.length c4) (es4.map Elem.sf) (FactsE es4) := h1.setV h5
      obtain ⟨q0, q1, z0, z1⟩ := (HPV3.out.next h5).facts
      have HEND : Hid (RParseEnd r w (.returned (.tuple #[.slice A4 es4.length c4, .agg #[.int .i64 0, .int .i64 0], .int .i64 0])) ((w4.setCell ⟨w.heap.size, 0, none⟩ (.int .i64 0)).setCell ⟨w.heap.size, 1, none⟩ (.int .i64 0))) := Lib.hid (.inr ⟨by rw [← HRF.out]; exact HE.out, _, _, FactsE es4, rfl, hset.pos (HPV3.out.next h5) _ _, h2, fun f => by rw [h3 f, HEE.out, ← HRF.out], by rw [← HRF.out]; simp [FactsE]; omega, ((bel_next HB3.out h5).setCell (p := ⟨w.heap.size, 0, none⟩) (Nat.le_refl _) _).setCell (p := ⟨w.heap.size, 1, none⟩) (Nat.le_refl _) _⟩)
      clear h1 h2 h3 h4 h5 hset HST
      go_wp2
      refine bodyPost_ret (v := .tuple #[.slice A4 es4.length c4, .agg #[.int .i64 0, .int .i64 0], .int .i64 0]) (by simp [results, Tryz.results8, go_sem, q0, q1]) rfl ?_
      exact HEND.out
    case false =>
      have hil : s.i < gs.length := by
        unfold doneR at hd
        simp at hd
        omega
      have h8 : fs.length < 8192 := by have := hfi he; omega
      have f8 : decide ((8192 : Int) ≤ (ss.length : Int)) = false := by have := HSL.out; simp; omega
      have g8 : ¬ (8192 : Int) ≤ (ss.length : Int) := by have := HSL.out; omega
      obtain ⟨n, rfl⟩ : ∃ m, n = m + 1 := ⟨n - 1, by have := hn he; omega⟩
      have HN := Lib.hid (hn he)
      clear hn
      rw [rFactsR_go l gs n s fs he hd h8] at hrf
      have hn1 := name_mono l gs s 1
      have hnl := name_le l gs s 1 hsi
      have hq1 := need_i l gs (nameR l gs s 1) 4 [40] hnl
      have HNM := Lib.hid fun W (hW : RPS W p l gs s) => rName_any p l gs s 1 W hW hl6 (by omega) hsi
      have HND := Lib.hid fun W (hW : RPS W p l gs (nameR l gs s 1)) => rNeed_any p l gs (nameR l gs s 1) 4 [40] W hW hl6 (by omega)
      have HFI := Lib.hid (hfi he)
      generalize nameR l gs s 1 = s1 at *
      generalize needR l gs s1 4 [40] = s3 at *
      generalize (anyT gs s 1).text = nm at *
      generalize hr1 : rArgsR l gs (gs.length + 1) s3 [] = r1 at *
      have HR1 := Lib.hid hr1
      have HRF := Lib.hid hrf
      have hk3 : s.i ≤ s3.i := by omega
      have HK3 : Hid (s3.e = 0 → s.i + 1 ≤ s3.i) := Lib.hid fun h => by have := (hn1.2 (hq1.2.2 h)).2; omega
      have HS3 := Lib.hid hq1.1
      clear hr1 hrf hn1 hfi he
      go_wp2_with fail
      go_fit HK1.out
      rintro e w1 ⟨rfl, hb1⟩
      have HP1 := Lib.hid (HPS.out.next hb1)
      have HG1 := Lib.hid (gb_trans HGB.out (gb_bel hb1))
      have HL1 := Lib.hid (HLI.out.gb hpo (gb_bel hb1))
      have HD1 := Lib.hid (HDN.out _ HP1.out)
      rw [hd] at HD1
      clear hb1 hd
      go_wp2_with fail
      go_fit HD1.out
      rintro e w2 ⟨rfl, hb2⟩
      have HP2 := Lib.hid (HP1.out.next hb2)
      have HG2 := Lib.hid (gb_trans HG1.out (gb_bel hb2))
      have HL2 := Lib.hid (HL1.out.gb hpo (gb_bel hb2))
      clear hb2
      go_wp2_with fail
      go_fit (HNM.out _ HP2.out)
      rintro e wb ⟨rfl, hps, hg3⟩
      have hpb : p < wb.heap.size := hps.lt
      have HPB := Lib.hid (hps.next (Below.alloc (Below.refl wb.heap.size wb) (Nat.le_refl _) (.cells #[.string ⟨nm.toArray⟩, .slice none 0 0] 37)))
      have HGB3 := Lib.hid (gb_trans HG2.out hg3)
      have HLB := Lib.hid (HL2.out.gb hpo hg3)
      have HFB : Hid (FacV (wb.alloc (.cells #[.string ⟨nm.toArray⟩, .slice none 0 0] 37)) wb.heap.size nm (.slice none 0 0)) := Lib.hid (heap_alloc_new wb _)
      have HGA := Lib.hid (gb_lit (gb_refl (p := some p) wb) (.cells #[.string ⟨nm.toArray⟩, .slice none 0 0] 37))
      clear hps hg3 HK1 HD1 HK HDN
      go_wp2_with fail
      go_fit (HND.out _ HPB.out)
      rintro e wi ⟨rfl, hps, hg4⟩
      have HPI := Lib.hid hps
      have HGI := Lib.hid (gb_trans HGA.out hg4)
      have HFV := Lib.hid (HFB.out.gb hg4 (by omega))
      clear hps hg4 HND HNM HPB HFB
      generalize hF : wb.heap.size = F at *
      go_wp2
      go_loopw [8] (fun _ wr => InnJ l gs r1 p F s.i nm wb (.pointer (some ⟨F, 0, none⟩)) wr) (fun _ wr => parM p wr)
      case atStart => exact ⟨gs.length + 1, s3, [], none, 0, rfl, HPI.out, HFV.out, OwnG.nil _ _, by simp, HS3.out, Nat.le_add_right _ _, HR1.out, HGI.out, hk3, HK3.out, fun v hv => by simp at hv⟩
      case round =>
        obtain ⟨m, t, a, A, c, _, hps, hfv, hown, ha8, hti, hm, hra, hgr, hkt, hkt2, hka⟩ := hrel
        have HPT := Lib.hid hps
        have HFT := Lib.hid hfv
        have HOT := Lib.hid hown
        have HGT := Lib.hid hgr
        have HKA := Lib.hid hka
        have HKT2 := Lib.hid hkt2
        have HMT := Lib.hid (parM_rps hps)
        have HTK := Lib.hid (rOK_reads hps).calls
        clear hps hfv hown hgr hka hkt2
        by_cases het : t.e = 0
        case neg =>
          have het' : (t.e == 0) = false := by simp [het]
          rw [rArgsR_stop l gs m t a het] at hra
          have HRX := Lib.hid hra
          rw [het'] at HTK
          have HXE : Hid (t.e = 0 → s.i + 1 ≤ t.i) := Lib.hid fun h => absurd h het
          clear hra het
          go_wp2_with fail
          go_fit HTK.out
          rintro e x1 ⟨rfl, hb1⟩
          have HPX := Lib.hid (HPT.out.next hb1)
          have HFX := Lib.hid (HFT.out.next hb1)
          have HOX := Lib.hid (HOT.out.next hb1)
          have HGX := Lib.hid (gb_trans HGT.out (gb_bel hb1))
          clear hb1 HTK
          have ht1 := need_i l gs t 4 [41] hti
          have ht2 := need_i l gs (needR l gs t 4 [41]) 4 [46] ht1.1
          have HN1 := Lib.hid fun W (hW : RPS W p l gs t) => rNeed_any p l gs t 4 [41] W hW hl6 (by omega)
          have HN2 := Lib.hid fun W (hW : RPS W p l gs (needR l gs t 4 [41])) => rNeed_any p l gs (needR l gs t 4 [41]) 4 [46] W hW hl6 (by omega)
          have hrf := HRF.out
          rw [← HRX.out] at hrf
          simp only at hrf
          have HRF2 := Lib.hid hrf
          have HEND2 : Hid ((needR l gs (needR l gs t 4 [41]) 4 [46]).e = 0 → s.i + 1 ≤ (needR l gs (needR l gs t 4 [41]) 4 [46]).i) := Lib.hid fun h => by have := HXE.out (ht1.2.2 (ht2.2.2 h)); omega
          have hi2 : s.i ≤ (needR l gs (needR l gs t 4 [41]) 4 [46]).i := by omega
          have hi3 := ht2.1
          clear hrf ht2
          go_wp2_with fail
          go_fit (HN1.out _ HPX.out)
          rintro e y1 ⟨rfl, hps, hg⟩
          have HPY := Lib.hid hps
          have HFY := Lib.hid (HFX.out.gb hg (by omega))
          have HOY := Lib.hid (HOX.out.gb (by omega) hg)
          have HGY := Lib.hid (gb_trans HGX.out hg)
          clear hps hg HN1
          go_wp2_with fail
          go_fit (HN2.out _ HPY.out)
          rintro e y2 ⟨rfl, hps, hg⟩
          have HPZ := Lib.hid hps
          have HFZ := Lib.hid (HFY.out.gb hg (by omega))
          have HOZ := Lib.hid (HOY.out.gb (by omega) hg)
          have HGZ := Lib.hid (gb_trans HGY.out hg)
          have HLZ := Lib.hid (HLB.out.gb hpo HGZ.out)
          clear hps hg HN2
          obtain ⟨d0, d1, _⟩ := HFZ.out.facts
          obtain ⟨Ax, cx, hax, _, _, hrx⟩ := HOZ.out.row GVal.len
          injection hax with i1 i2 i3
          subst i1 i3
          have hs2 : F < y2.heap.size := HFZ.out.lt
          have hlit := GRow.lit SFact.len y2 37 [⟨nm, A, a.length, c⟩] #[.string ⟨nm.toArray⟩, .slice A a.length c] rfl (by unfold maxLen; simp)
          obtain ⟨v', y3, hrun, hown3, hgr3, hob⟩ := OwnG.app elt_fact SFact.len SFact.one (HLZ.out.own.alloc (.cells #[.string ⟨nm.toArray⟩, .slice A a.length c] 37)) 1 hlit (by have := HGZ.out.size; have := HGB3.out.size; simp; omega) (by have := HSL.out; unfold maxLen; simp; omega) (by have := HSL.out; simp; omega)
          have hap : ∀ o : Option Nat, (∀ g, o = some g → g ≤ F) → Apart o ⟨nm, A, a.length, c⟩ ⟨nm, a⟩ := fun o ho h0 b off e e2 => by
            have h1 := ho _ e2
            rcases HOZ.out.2 with ⟨hv, h00⟩ | ⟨g, cap, cur, hv, hbs, _⟩
            · simp at h0; omega
            · simp only at e
              rw [e] at hv
              cases hv
              omega
          have HL3 := Lib.hid (HLZ.out.step (s := ⟨nm, A, a.length, c⟩) (f := ⟨nm, a⟩) (bel_lit (Below.refl _ y2) _) hgr3 hown3 hob ⟨rfl, rfl, hrx.next (bel_lit (Below.refl y2.heap.size y2) _), by simp; omega⟩ (hap _ fun g hg => by have := (HLB.out.own.lt g hg).2; omega) (hap _ fun g hg => by cases hg; omega))
          have hq : ∀ g, Value.ownBlock (.slice Ao ss.length co) = some g → wo.heap.size ≤ g := fun g hg => (HLB.out.own.lt g hg).1
          have HG3 := Lib.hid (gb_own (gb_lit (gb_trans HGB3.out HGZ.out) (.cells #[.string ⟨nm.toArray⟩, .slice A a.length c] 37)) hgr3 hq)
          have HP3 : Hid (RPS y3 p l gs (needR l gs (needR l gs t 4 [41]) 4 [46])) := Lib.hid (by
            obtain ⟨A6, c6, h6, hr6⟩ := HPZ.out
            refine ⟨A6, c6, (hgr3.block p (by have := HPZ.out.lt; simp; omega) (by intro e; have := hq p e.symm; omega)).trans ((Below.heap_alloc _ _ p HPZ.out.lt).trans h6), hr6.keep fun g hg => (hgr3.block g (by have := HPZ.out.lt; simp; omega) (by intro e; have := hq g e.symm; omega)).trans (Below.heap_alloc _ _ g (by have := HPZ.out.lt; omega))⟩)
          obtain ⟨A3, cap3, rfl, _, _, _⟩ := hown3.row SFact.len
          have HRUN := Lib.hid hrun
          have HM3 := Lib.hid (parM_rps HP3.out)
          simp only [List.length_singleton, List.length_append] at HRUN HL3
          clear hlit hrun hown3 hgr3 hob hap hq hrx
          go_wp2_with (at_builtin; refine wpList_gapp HRUN.out rfl rfl rfl rfl rfl ?_)
          go_roundw
          case rel => exact ⟨n, _, fs ++ [⟨nm, a⟩], _, HP3.out, HL3.out, hi3, fun h => by have := HEND2.out h; have := HFI.out; simp; omega, by have := HFI.out; simp; omega, fun f hf => by
            rcases List.mem_append.1 hf with h | h
            · exact HFA.out f h
            · simp at h; subst h; exact ⟨by simp; omega, HKA.out⟩, fun h => by have := HEND2.out h; have := HN.out; omega, HRF2.out, HG3.out⟩
          case measure =>
            rw [HM3.out, HMW.out, if_pos HE.out]
            have := HEND2.out
            split
            · have := this (by assumption); omega
            · omega
        have het' : (t.e == 0) = true := by simp [het]
        rw [het'] at HTK
        have HET := Lib.hid het
        obtain ⟨m, rfl⟩ : ∃ k, m = k + 1 := ⟨m - 1, by omega⟩
        rw [rArgsR_step l gs m t a het] at hra
        have HRA := Lib.hid hra
        clear hra het
        have hal := arg_le l gs (midS l gs t a.length) (by rw [mid_i]; exact hti)
        have HKV := Lib.hid (int_kind l gs (midS l gs t a.length))
        by_cases hlt : a.length < 8
        case pos =>
          have f8' : decide ((8 : Int) ≤ (a.length : Int)) = false := by simp; omega
          have g8' : ¬ (8 : Int) ≤ (a.length : Int) := by omega
          have hmid : midS l gs t a.length = t := by unfold midS; rw [if_neg (by omega)]
          have hend : endS l gs t a.length = (argR l gs t).2 := by unfold endS; rw [if_neg (by omega), hmid]
          rw [hend] at HRA
          clear hend
          rw [hmid] at HRA hal HKV
          have HAR := Lib.hid fun W (hW : RPS W p l gs t) => rArgument_any p l gs t W hW hl6 (by omega) hti
          have hms := (rfl : t.i = t.i)
          rw [hms] at hal
          generalize argR l gs t = q at *
          obtain ⟨⟨vk, vi, vw⟩, sx⟩ := q
          simp only [GVal.val] at HRA HAR hal HKV
          generalize sx = s9 at *
          have HTA := Lib.hid fun W (hW : RPS W p l gs s9) => rTake_any p l gs s9 4 [44] W hW (by omega)
          have hl8 : (a ++ [(⟨vk, vi, vw⟩ : GVal)]).length = a.length + 1 := by simp
          have HKA2 : Hid (KindsWf (a ++ [⟨vk, vi, vw⟩])) := Lib.hid fun v hv => (List.mem_append.1 hv).elim (HKA.out v) (HKV.out v)
          clear hmid hms HKV
          go_wp2_with fail
          go_fit HTK.out
          rintro e x1 ⟨rfl, hb1⟩
          have HPX := Lib.hid (HPT.out.next hb1)
          have HFX := Lib.hid (HFT.out.next hb1)
          have HOX := Lib.hid (HOT.out.next hb1)
          have HGX := Lib.hid (gb_trans HGT.out (gb_bel hb1))
          clear hb1 HTK
          obtain ⟨d0, d1, _⟩ := HFX.out.facts
          obtain ⟨_, _, _, c0, c1, c2, c3, c4, c5, _, _, _⟩ := HPX.out.open
          go_wp2_with fail
          go_fit (HAR.out _ HPX.out)
          rintro e x2 ⟨rfl, hps, hg⟩
          have HPY := Lib.hid (hps.next (bel_lit (Below.refl _ x2) (.cells #[.int .i64 vk, .int .i64 vi, .string ⟨vw.toArray⟩] 40)))
          have HFY := Lib.hid ((HFX.out.gb hg (by omega)).next (bel_lit (Below.refl _ x2) (.cells #[.int .i64 vk, .int .i64 vi, .string ⟨vw.toArray⟩] 40)))
          have HOY := Lib.hid ((HOX.out.gb (by omega) hg).alloc (.cells #[.int .i64 vk, .int .i64 vi, .string ⟨vw.toArray⟩] 40))
          have HGY := Lib.hid (gb_lit (gb_trans HGX.out hg) (.cells #[.int .i64 vk, .int .i64 vi, .string ⟨vw.toArray⟩] 40))
          have HVY : Hid (ValV (x2.alloc (.cells #[.int .i64 vk, .int .i64 vi, .string ⟨vw.toArray⟩] 40)) x2.heap.size ⟨vk, vi, vw⟩) := Lib.hid (heap_alloc_new x2 _)
          have hx2 : F + 1 ≤ x2.heap.size := by have := HGX.out.size; have := hg.size; have := HFX.out.lt; omega
          have hx3 : (x2.alloc (.cells #[.int .i64 vk, .int .i64 vi, .string ⟨vw.toArray⟩] 40)).heap.size = x2.heap.size + 1 := by simp
          clear hps hg HAR c0 c1 c2 c3 c4 c5 d0 d1
          obtain ⟨d0, d1, _⟩ := HFY.out.facts
          have HPZ := HPY
          have HFZ := HFY
          have HOZ := HOY
          have HGZ := HGY
          have HVZ := HVY
          obtain ⟨d0, d1, d2⟩ := HFZ.out.facts
          obtain ⟨z0, z1, z2⟩ := HVZ.out.facts
          simp only at z0 z1 z2
          have hlit := GRow.lit GVal.len (x2.alloc (.cells #[.int .i64 vk, .int .i64 vi, .string ⟨vw.toArray⟩] 40)) 40 [(⟨vk, vi, vw⟩ : GVal)] #[.int .i64 vk, .int .i64 vi, .string ⟨vw.toArray⟩] rfl (by unfold maxLen; simp)
          obtain ⟨v', w3, hrun, hown3, hgr3, _⟩ := OwnG.app elt_val GVal.len GVal.one (HOZ.out.alloc (.cells #[.int .i64 vk, .int .i64 vi, .string ⟨vw.toArray⟩] 40)) 1 hlit (by have := HFZ.out.lt; simp; omega) (by unfold maxLen; simp; omega) (by simp; omega)
          have hq : ∀ g, Value.ownBlock (.slice A a.length c) = some g → F + 1 ≤ g := fun g hg => (HOZ.out.lt g hg).1
          generalize hA2 : a ++ [(⟨vk, vi, vw⟩ : GVal)] = a2 at *
          obtain ⟨A3, cap3, rfl, _, _, _⟩ := hown3.row GVal.len
          have HPQ : Hid (RPS (w3.setCell ⟨F, 1, none⟩ (.slice A3 a2.length cap3)) p l gs s9) := Lib.hid (((HPZ.out.next (bel_lit (Below.refl _ _) (.cells #[.int .i64 vk, .int .i64 vi, .string ⟨vw.toArray⟩] 40))).own hgr3 (fun g hg => by have := hq g hg; omega)).other _ _ (by show p < F; omega))
          have hfz := HFZ.out.next (bel_lit (Below.refl _ _) (.cells #[.int .i64 vk, .int .i64 vi, .string ⟨vw.toArray⟩] 40))
          have hf3 : FacV w3 F nm (.slice A a.length c) := (hgr3.block F hfz.lt (by intro e; have := hq F e.symm; omega)).trans hfz
          have HFQ := Lib.hid (hf3.set (.slice A3 a2.length cap3))
          have HOQ := Lib.hid (hown3.keep fun g hg => heap_setCell_other w3 ⟨F, 1, none⟩ g (.slice A3 a2.length cap3) (by have := (hown3.lt g hg).1; show g ≠ F; omega))
          have HGQ := Lib.hid (gb_new (gb_own (gb_lit HGZ.out (.cells #[.int .i64 vk, .int .i64 vi, .string ⟨vw.toArray⟩] 40)) hgr3 (fun g hg => by have := hq g hg; omega)) ⟨F, 1, none⟩ (.slice A3 a2.length cap3) (by show wb.heap.size ≤ F; omega))
          obtain ⟨_, _, f2⟩ := hf3.facts
          have HRUN := Lib.hid hrun
          simp only [List.length_singleton] at HRUN
          rw [hx3] at HRUN
          have HL8 := Lib.hid hl8
          clear hl8 hlit hrun hown3 hgr3 hq hfz hf3
          go_wp2_with (at_builtin; refine wpList_gapp HRUN.out rfl rfl rfl rfl rfl ?_)
          have HTC := Lib.hid (HTA.out _ HPQ.out)
          clear HTA
          cases hpk : peekR gs s9 4 [44]
          case true =>
            rw [hpk, if_pos rfl] at HRA
            rw [hpk] at HTC
            have htk := take_yes hpk
            have he9 : s9.e = 0 := by
              by_cases h : s9.e = 0
              · exact h
              · rw [peek_no 4 [44] h] at hpk; cases hpk
            have htl := take_le gs s9 4 [44] hal.1
            clear hpk
            go_wp2_with fail
            go_fit HTC.out
            rintro e y1 ⟨rfl, hps, hg⟩
            have HP6 := Lib.hid hps
            have HF6 := Lib.hid (HFQ.out.gb hg (by omega))
            have HO6 := Lib.hid (HOQ.out.gb (by omega) hg)
            have HG6 := Lib.hid (gb_trans HGQ.out hg)
            have HM6 := Lib.hid (parM_rps hps)
            clear hps hg
            go_wp2
            go_roundw
            case rel => exact ⟨m, _, a2, A3, cap3, rfl, HP6.out, HF6.out, HO6.out, by rw [HL8.out]; omega, htl, by omega, HRA.out, HG6.out, by omega, fun _ => by omega, HKA2.out⟩
            case measure =>
              rw [HM6.out, HMT.out, if_pos HET.out, htk.1]
              split <;> omega
          case false =>
            rw [hpk, if_neg (by simp)] at HRA
            rw [hpk, take_no hpk] at HTC
            have HRX : Hid ((s9, a2) = r1) := HRA
            have HXE : Hid (s9.e = 0 → s.i + 1 ≤ s9.i) := Lib.hid fun _ => by have := HKT2.out HET.out; omega
            have ha9 : a2.length ≤ 9 := by rw [HL8.out]; omega
            have h9i := hal.1
            clear hpk
            go_wp2_with fail
            go_fit HTC.out
            rintro e y0 ⟨rfl, hps, hg⟩
            have HPX := Lib.hid hps
            have HFX := Lib.hid (HFQ.out.gb hg (by omega))
            have HOX := Lib.hid (HOQ.out.gb (by omega) hg)
            have HGX := Lib.hid (gb_trans HGQ.out hg)
            clear hps hg HTC
            have ht1 := need_i l gs s9 4 [41] h9i
            have ht2 := need_i l gs (needR l gs s9 4 [41]) 4 [46] ht1.1
            have HN1 := Lib.hid fun W (hW : RPS W p l gs s9) => rNeed_any p l gs s9 4 [41] W hW hl6 (by omega)
            have HN2 := Lib.hid fun W (hW : RPS W p l gs (needR l gs s9 4 [41])) => rNeed_any p l gs (needR l gs s9 4 [41]) 4 [46] W hW hl6 (by omega)
            have hrf := HRF.out
            rw [← HRX.out] at hrf
            simp only at hrf
            have HRF2 := Lib.hid hrf
            have HEND2 : Hid ((needR l gs (needR l gs s9 4 [41]) 4 [46]).e = 0 → s.i + 1 ≤ (needR l gs (needR l gs s9 4 [41]) 4 [46]).i) := Lib.hid fun h => by have := HXE.out (ht1.2.2 (ht2.2.2 h)); omega
            have hi2 : s.i ≤ (needR l gs (needR l gs s9 4 [41]) 4 [46]).i := by omega
            have hi3 := ht2.1
            clear hrf ht2
            go_wp2_with fail
            go_fit (HN1.out _ HPX.out)
            rintro e y1 ⟨rfl, hps, hg⟩
            have HPY := Lib.hid hps
            have HFY := Lib.hid (HFX.out.gb hg (by omega))
            have HOY := Lib.hid (HOX.out.gb (by omega) hg)
            have HGY := Lib.hid (gb_trans HGX.out hg)
            clear hps hg HN1
            go_wp2_with fail
            go_fit (HN2.out _ HPY.out)
            rintro e y2 ⟨rfl, hps, hg⟩
            have HPZ := Lib.hid hps
            have HFZ := Lib.hid (HFY.out.gb hg (by omega))
            have HOZ := Lib.hid (HOY.out.gb (by omega) hg)
            have HGZ := Lib.hid (gb_trans HGY.out hg)
            have HLZ := Lib.hid (HLB.out.gb hpo HGZ.out)
            clear hps hg HN2
            obtain ⟨d0, d1, _⟩ := HFZ.out.facts
            obtain ⟨Ax, cx, hax, _, _, hrx⟩ := HOZ.out.row GVal.len
            injection hax with i1 i2 i3
            subst i1 i3
            have hs2 : F < y2.heap.size := HFZ.out.lt
            have hlit := GRow.lit SFact.len y2 37 [⟨nm, A3, a2.length, cap3⟩] #[.string ⟨nm.toArray⟩, .slice A3 a2.length cap3] rfl (by unfold maxLen; simp)
            obtain ⟨v', y3, hrun, hown3, hgr3, hob⟩ := OwnG.app elt_fact SFact.len SFact.one (HLZ.out.own.alloc (.cells #[.string ⟨nm.toArray⟩, .slice A3 a2.length cap3] 37)) 1 hlit (by have := HGZ.out.size; have := HGB3.out.size; simp; omega) (by have := HSL.out; unfold maxLen; simp; omega) (by have := HSL.out; simp; omega)
            have hap : ∀ o : Option Nat, (∀ g, o = some g → g ≤ F) → Apart o ⟨nm, A3, a2.length, cap3⟩ ⟨nm, a2⟩ := fun o ho h0 b off e e2 => by
              have h1 := ho _ e2
              rcases HOZ.out.2 with ⟨hv, h00⟩ | ⟨g, cap, cur, hv, hbs, _⟩
              · simp at h0; omega
              · simp only at e
                rw [e] at hv
                cases hv
                omega
            have HL3 := Lib.hid (HLZ.out.step (s := ⟨nm, A3, a2.length, cap3⟩) (f := ⟨nm, a2⟩) (bel_lit (Below.refl _ y2) _) hgr3 hown3 hob ⟨rfl, rfl, hrx.next (bel_lit (Below.refl y2.heap.size y2) _), by simp; omega⟩ (hap _ fun g hg => by have := (HLB.out.own.lt g hg).2; omega) (hap _ fun g hg => by cases hg; omega))
            have hq : ∀ g, Value.ownBlock (.slice Ao ss.length co) = some g → wo.heap.size ≤ g := fun g hg => (HLB.out.own.lt g hg).1
            have HG3 := Lib.hid (gb_own (gb_lit (gb_trans HGB3.out HGZ.out) (.cells #[.string ⟨nm.toArray⟩, .slice A3 a2.length cap3] 37)) hgr3 hq)
            have HP3 : Hid (RPS y3 p l gs (needR l gs (needR l gs s9 4 [41]) 4 [46])) := Lib.hid (by
              obtain ⟨A6, c6, h6, hr6⟩ := HPZ.out
              refine ⟨A6, c6, (hgr3.block p (by have := HPZ.out.lt; simp; omega) (by intro e; have := hq p e.symm; omega)).trans ((Below.heap_alloc _ _ p HPZ.out.lt).trans h6), hr6.keep fun g hg => (hgr3.block g (by have := HPZ.out.lt; simp; omega) (by intro e; have := hq g e.symm; omega)).trans (Below.heap_alloc _ _ g (by have := HPZ.out.lt; omega))⟩)
            obtain ⟨A3, cap3, rfl, _, _, _⟩ := hown3.row SFact.len
            have HRUN := Lib.hid hrun
            have HM3 := Lib.hid (parM_rps HP3.out)
            simp only [List.length_singleton, List.length_append] at HRUN HL3
            clear hlit hrun hown3 hgr3 hob hap hq hrx
            go_wp2_with (at_builtin; refine wpList_gapp HRUN.out rfl rfl rfl rfl rfl ?_)
            go_roundw
            case rel => exact ⟨n, _, fs ++ [⟨nm, a2⟩], _, HP3.out, HL3.out, hi3, fun h => by have := HEND2.out h; have := HFI.out; simp; omega, by have := HFI.out; simp; omega, fun f hf => by
              rcases List.mem_append.1 hf with h | h
              · exact HFA.out f h
              · simp at h; subst h; exact ⟨by simp; omega, HKA2.out⟩, fun h => by have := HEND2.out h; have := HN.out; omega, HRF2.out, HG3.out⟩
            case measure =>
              rw [HM3.out, HMW.out, if_pos HE.out]
              have := HEND2.out
              split
              · have := this (by assumption); omega
              · omega
        cases hpe : peekR gs t 4 [45]
        case true =>
          have f8' : decide ((8 : Int) ≤ (a.length : Int)) = true := by simp; omega
          have g8' : (8 : Int) ≤ (a.length : Int) := by omega
          have hmid : midS l gs t a.length = (failR l gs t t.i 15) := by unfold midS; rw [if_pos ⟨by omega, hpe⟩]
          have hend : endS l gs t a.length = failR l gs (argR l gs (failR l gs t t.i 15)).2 t.i 15 := by unfold endS; rw [if_pos (by omega), hmid]
          rw [hend] at HRA
          clear hend
          have HFL1 := Lib.hid fun W (hW : RPS W p l gs t) => rFail_any p l gs t t.i 15 W hW hl6 (fun _ => by omega)
          rw [hmid] at HRA hal HKV
          have HAR := Lib.hid fun W (hW : RPS W p l gs (failR l gs t t.i 15)) => rArgument_any p l gs (failR l gs t t.i 15) W hW hl6 (by omega) (by rw [failR_i]; exact hti)
          have hms := failR_i l gs t t.i 15
          rw [hms] at hal
          generalize argR l gs (failR l gs t t.i 15) = q at *
          obtain ⟨⟨vk, vi, vw⟩, sx⟩ := q
          simp only [GVal.val] at HRA HAR hal HKV
          have HFL2 := Lib.hid fun W (hW : RPS W p l gs sx) => rFail_any p l gs sx t.i 15 W hW hl6 (fun _ => by omega)
          have h9e := failR_e l gs sx t.i 15 (by omega)
          have h9 := failR_i l gs sx t.i 15
          generalize failR l gs sx t.i 15 = s9 at *
          rw [← h9] at hal
          clear h9
          have HTA := Lib.hid fun W (hW : RPS W p l gs s9) => rTake_any p l gs s9 4 [44] W hW (by omega)
          have hl8 : (a ++ [(⟨vk, vi, vw⟩ : GVal)]).length = a.length + 1 := by simp
          have HKA2 : Hid (KindsWf (a ++ [⟨vk, vi, vw⟩])) := Lib.hid fun v hv => (List.mem_append.1 hv).elim (HKA.out v) (HKV.out v)
          clear hmid hms HKV
          go_wp2_with fail
          go_fit HTK.out
          rintro e x1 ⟨rfl, hb1⟩
          have HPX := Lib.hid (HPT.out.next hb1)
          have HFX := Lib.hid (HFT.out.next hb1)
          have HOX := Lib.hid (HOT.out.next hb1)
          have HGX := Lib.hid (gb_trans HGT.out (gb_bel hb1))
          clear hb1 HTK
          obtain ⟨d0, d1, _⟩ := HFX.out.facts
          obtain ⟨_, _, _, c0, c1, c2, c3, c4, c5, _, _, _⟩ := HPX.out.open
          have HPK := Lib.hid (rPeek_calls 4 [45] HPX.out)
          rw [hpe] at HPK
          go_wp2_with fail
          go_fit HPK.out
          rintro e xa ⟨rfl, hb1⟩
          have HPX := Lib.hid (HPX.out.next hb1)
          have HFX := Lib.hid (HFX.out.next hb1)
          have HOX := Lib.hid (HOX.out.next hb1)
          have HGX := Lib.hid (gb_trans HGX.out (gb_bel hb1))
          clear hb1 HPK d0 d1 c0 c1 c2 c3 c4 c5
          obtain ⟨d0, d1, _⟩ := HFX.out.facts
          obtain ⟨_, _, _, c0, c1, c2, c3, c4, c5, _, _, _⟩ := HPX.out.open
          go_wp2_with fail
          go_fit (HFL1.out _ HPX.out)
          rintro e xb ⟨rfl, hps, hg⟩
          have HPX := Lib.hid hps
          have HFX := Lib.hid (HFX.out.gb hg (by omega))
          have HOX := Lib.hid (HOX.out.gb (by omega) hg)
          have HGX := Lib.hid (gb_trans HGX.out hg)
          clear hps hg d0 d1 c0 c1 c2 c3 c4 c5
          obtain ⟨d0, d1, _⟩ := HFX.out.facts
          obtain ⟨_, _, _, c0, c1, c2, c3, c4, c5, _, _, _⟩ := HPX.out.open
          go_wp2_with fail
          go_fit (HAR.out _ HPX.out)
          rintro e x2 ⟨rfl, hps, hg⟩
          have HPY := Lib.hid (hps.next (bel_lit (Below.refl _ x2) (.cells #[.int .i64 vk, .int .i64 vi, .string ⟨vw.toArray⟩] 40)))
          have HFY := Lib.hid ((HFX.out.gb hg (by omega)).next (bel_lit (Below.refl _ x2) (.cells #[.int .i64 vk, .int .i64 vi, .string ⟨vw.toArray⟩] 40)))
          have HOY := Lib.hid ((HOX.out.gb (by omega) hg).alloc (.cells #[.int .i64 vk, .int .i64 vi, .string ⟨vw.toArray⟩] 40))
          have HGY := Lib.hid (gb_lit (gb_trans HGX.out hg) (.cells #[.int .i64 vk, .int .i64 vi, .string ⟨vw.toArray⟩] 40))
          have HVY : Hid (ValV (x2.alloc (.cells #[.int .i64 vk, .int .i64 vi, .string ⟨vw.toArray⟩] 40)) x2.heap.size ⟨vk, vi, vw⟩) := Lib.hid (heap_alloc_new x2 _)
          have hx2 : F + 1 ≤ x2.heap.size := by have := HGX.out.size; have := hg.size; have := HFX.out.lt; omega
          have hx3 : (x2.alloc (.cells #[.int .i64 vk, .int .i64 vi, .string ⟨vw.toArray⟩] 40)).heap.size = x2.heap.size + 1 := by simp
          clear hps hg HAR c0 c1 c2 c3 c4 c5 d0 d1
          obtain ⟨d0, d1, _⟩ := HFY.out.facts
          go_wp2_with fail
          go_fit (HFL2.out _ HPY.out)
          rintro e x4 ⟨rfl, hps, hg⟩
          have HPZ := Lib.hid hps
          have HFZ := Lib.hid (HFY.out.gb hg (by omega))
          have HOZ := Lib.hid (HOY.out.gb (by omega) hg)
          have HGZ := Lib.hid (gb_trans HGY.out hg)
          have HVZ := Lib.hid (HVY.out.gb hg (by omega))
          clear hps hg d0 d1
          obtain ⟨d0, d1, d2⟩ := HFZ.out.facts
          obtain ⟨z0, z1, z2⟩ := HVZ.out.facts
          simp only at z0 z1 z2
          have hlit := GRow.lit GVal.len x4 40 [(⟨vk, vi, vw⟩ : GVal)] #[.int .i64 vk, .int .i64 vi, .string ⟨vw.toArray⟩] rfl (by unfold maxLen; simp)
          obtain ⟨v', w3, hrun, hown3, hgr3, _⟩ := OwnG.app elt_val GVal.len GVal.one (HOZ.out.alloc (.cells #[.int .i64 vk, .int .i64 vi, .string ⟨vw.toArray⟩] 40)) 1 hlit (by have := HFZ.out.lt; simp; omega) (by unfold maxLen; simp; omega) (by simp; omega)
          have hq : ∀ g, Value.ownBlock (.slice A a.length c) = some g → F + 1 ≤ g := fun g hg => (HOZ.out.lt g hg).1
          generalize hA2 : a ++ [(⟨vk, vi, vw⟩ : GVal)] = a2 at *
          obtain ⟨A3, cap3, rfl, _, _, _⟩ := hown3.row GVal.len
          have HPQ : Hid (RPS (w3.setCell ⟨F, 1, none⟩ (.slice A3 a2.length cap3)) p l gs s9) := Lib.hid (((HPZ.out.next (bel_lit (Below.refl _ _) (.cells #[.int .i64 vk, .int .i64 vi, .string ⟨vw.toArray⟩] 40))).own hgr3 (fun g hg => by have := hq g hg; omega)).other _ _ (by show p < F; omega))
          have hfz := HFZ.out.next (bel_lit (Below.refl _ _) (.cells #[.int .i64 vk, .int .i64 vi, .string ⟨vw.toArray⟩] 40))
          have hf3 : FacV w3 F nm (.slice A a.length c) := (hgr3.block F hfz.lt (by intro e; have := hq F e.symm; omega)).trans hfz
          have HFQ := Lib.hid (hf3.set (.slice A3 a2.length cap3))
          have HOQ := Lib.hid (hown3.keep fun g hg => heap_setCell_other w3 ⟨F, 1, none⟩ g (.slice A3 a2.length cap3) (by have := (hown3.lt g hg).1; show g ≠ F; omega))
          have HGQ := Lib.hid (gb_new (gb_own (gb_lit HGZ.out (.cells #[.int .i64 vk, .int .i64 vi, .string ⟨vw.toArray⟩] 40)) hgr3 (fun g hg => by have := hq g hg; omega)) ⟨F, 1, none⟩ (.slice A3 a2.length cap3) (by show wb.heap.size ≤ F; omega))
          obtain ⟨_, _, f2⟩ := hf3.facts
          have HRUN := Lib.hid hrun
          simp only [List.length_singleton] at HRUN
          have HL8 := Lib.hid hl8
          clear hl8 hlit hrun hown3 hgr3 hq hfz hf3
          go_wp2_with (at_builtin; refine wpList_gapp HRUN.out rfl rfl rfl rfl rfl ?_)
          have HTC := Lib.hid (HTA.out _ HPQ.out)
          clear HTA
          have hpk : peekR gs s9 4 [44] = false := peek_no 4 [44] h9e
          clear h9e
          rw [hpk, if_neg (by simp)] at HRA
          rw [hpk, take_no hpk] at HTC
          have HRX : Hid ((s9, a2) = r1) := HRA
          have HXE : Hid (s9.e = 0 → s.i + 1 ≤ s9.i) := Lib.hid fun _ => by have := HKT2.out HET.out; omega
          have ha9 : a2.length ≤ 9 := by rw [HL8.out]; omega
          have h9i := hal.1
          clear hpk
          go_wp2_with fail
          go_fit HTC.out
          rintro e y0 ⟨rfl, hps, hg⟩
          have HPX := Lib.hid hps
          have HFX := Lib.hid (HFQ.out.gb hg (by omega))
          have HOX := Lib.hid (HOQ.out.gb (by omega) hg)
          have HGX := Lib.hid (gb_trans HGQ.out hg)
          clear hps hg HTC
          have ht1 := need_i l gs s9 4 [41] h9i
          have ht2 := need_i l gs (needR l gs s9 4 [41]) 4 [46] ht1.1
          have HN1 := Lib.hid fun W (hW : RPS W p l gs s9) => rNeed_any p l gs s9 4 [41] W hW hl6 (by omega)
          have HN2 := Lib.hid fun W (hW : RPS W p l gs (needR l gs s9 4 [41])) => rNeed_any p l gs (needR l gs s9 4 [41]) 4 [46] W hW hl6 (by omega)
          have hrf := HRF.out
          rw [← HRX.out] at hrf
          simp only at hrf
          have HRF2 := Lib.hid hrf
          have HEND2 : Hid ((needR l gs (needR l gs s9 4 [41]) 4 [46]).e = 0 → s.i + 1 ≤ (needR l gs (needR l gs s9 4 [41]) 4 [46]).i) := Lib.hid fun h => by have := HXE.out (ht1.2.2 (ht2.2.2 h)); omega
          have hi2 : s.i ≤ (needR l gs (needR l gs s9 4 [41]) 4 [46]).i := by omega
          have hi3 := ht2.1
          clear hrf ht2
          go_wp2_with fail
          go_fit (HN1.out _ HPX.out)
          rintro e y1 ⟨rfl, hps, hg⟩
          have HPY := Lib.hid hps
          have HFY := Lib.hid (HFX.out.gb hg (by omega))
          have HOY := Lib.hid (HOX.out.gb (by omega) hg)
          have HGY := Lib.hid (gb_trans HGX.out hg)
          clear hps hg HN1
          go_wp2_with fail
          go_fit (HN2.out _ HPY.out)
          rintro e y2 ⟨rfl, hps, hg⟩
          have HPZ := Lib.hid hps
          have HFZ := Lib.hid (HFY.out.gb hg (by omega))
          have HOZ := Lib.hid (HOY.out.gb (by omega) hg)
          have HGZ := Lib.hid (gb_trans HGY.out hg)
          have HLZ := Lib.hid (HLB.out.gb hpo HGZ.out)
          clear hps hg HN2
          obtain ⟨d0, d1, _⟩ := HFZ.out.facts
          obtain ⟨Ax, cx, hax, _, _, hrx⟩ := HOZ.out.row GVal.len
          injection hax with i1 i2 i3
          subst i1 i3
          have hs2 : F < y2.heap.size := HFZ.out.lt
          have hlit := GRow.lit SFact.len y2 37 [⟨nm, A3, a2.length, cap3⟩] #[.string ⟨nm.toArray⟩, .slice A3 a2.length cap3] rfl (by unfold maxLen; simp)
          obtain ⟨v', y3, hrun, hown3, hgr3, hob⟩ := OwnG.app elt_fact SFact.len SFact.one (HLZ.out.own.alloc (.cells #[.string ⟨nm.toArray⟩, .slice A3 a2.length cap3] 37)) 1 hlit (by have := HGZ.out.size; have := HGB3.out.size; simp; omega) (by have := HSL.out; unfold maxLen; simp; omega) (by have := HSL.out; simp; omega)
          have hap : ∀ o : Option Nat, (∀ g, o = some g → g ≤ F) → Apart o ⟨nm, A3, a2.length, cap3⟩ ⟨nm, a2⟩ := fun o ho h0 b off e e2 => by
            have h1 := ho _ e2
            rcases HOZ.out.2 with ⟨hv, h00⟩ | ⟨g, cap, cur, hv, hbs, _⟩
            · simp at h0; omega
            · simp only at e
              rw [e] at hv
              cases hv
              omega
          have HL3 := Lib.hid (HLZ.out.step (s := ⟨nm, A3, a2.length, cap3⟩) (f := ⟨nm, a2⟩) (bel_lit (Below.refl _ y2) _) hgr3 hown3 hob ⟨rfl, rfl, hrx.next (bel_lit (Below.refl y2.heap.size y2) _), by simp; omega⟩ (hap _ fun g hg => by have := (HLB.out.own.lt g hg).2; omega) (hap _ fun g hg => by cases hg; omega))
          have hq : ∀ g, Value.ownBlock (.slice Ao ss.length co) = some g → wo.heap.size ≤ g := fun g hg => (HLB.out.own.lt g hg).1
          have HG3 := Lib.hid (gb_own (gb_lit (gb_trans HGB3.out HGZ.out) (.cells #[.string ⟨nm.toArray⟩, .slice A3 a2.length cap3] 37)) hgr3 hq)
          have HP3 : Hid (RPS y3 p l gs (needR l gs (needR l gs s9 4 [41]) 4 [46])) := Lib.hid (by
            obtain ⟨A6, c6, h6, hr6⟩ := HPZ.out
            refine ⟨A6, c6, (hgr3.block p (by have := HPZ.out.lt; simp; omega) (by intro e; have := hq p e.symm; omega)).trans ((Below.heap_alloc _ _ p HPZ.out.lt).trans h6), hr6.keep fun g hg => (hgr3.block g (by have := HPZ.out.lt; simp; omega) (by intro e; have := hq g e.symm; omega)).trans (Below.heap_alloc _ _ g (by have := HPZ.out.lt; omega))⟩)
          obtain ⟨A3, cap3, rfl, _, _, _⟩ := hown3.row SFact.len
          have HRUN := Lib.hid hrun
          have HM3 := Lib.hid (parM_rps HP3.out)
          simp only [List.length_singleton, List.length_append] at HRUN HL3
          clear hlit hrun hown3 hgr3 hob hap hq hrx
          go_wp2_with (at_builtin; refine wpList_gapp HRUN.out rfl rfl rfl rfl rfl ?_)
          go_roundw
          case rel => exact ⟨n, _, fs ++ [⟨nm, a2⟩], _, HP3.out, HL3.out, hi3, fun h => by have := HEND2.out h; have := HFI.out; simp; omega, by have := HFI.out; simp; omega, fun f hf => by
            rcases List.mem_append.1 hf with h | h
            · exact HFA.out f h
            · simp at h; subst h; exact ⟨by simp; omega, HKA2.out⟩, fun h => by have := HEND2.out h; have := HN.out; omega, HRF2.out, HG3.out⟩
          case measure =>
            rw [HM3.out, HMW.out, if_pos HE.out]
            have := HEND2.out
            split
            · have := this (by assumption); omega
            · omega
        case false =>
          have f8' : decide ((8 : Int) ≤ (a.length : Int)) = true := by simp; omega
          have g8' : (8 : Int) ≤ (a.length : Int) := by omega
          have hmid : midS l gs t a.length = t := by unfold midS; rw [if_neg (by simp [hpe])]
          have hend : endS l gs t a.length = failR l gs (argR l gs t).2 t.i 15 := by unfold endS; rw [if_pos (by omega), hmid]
          rw [hend] at HRA
          clear hend
          rw [hmid] at HRA hal HKV
          have HAR := Lib.hid fun W (hW : RPS W p l gs t) => rArgument_any p l gs t W hW hl6 (by omega) hti
          have hms := (rfl : t.i = t.i)
          rw [hms] at hal
          generalize argR l gs t = q at *
          obtain ⟨⟨vk, vi, vw⟩, sx⟩ := q
          simp only [GVal.val] at HRA HAR hal HKV
          have HFL2 := Lib.hid fun W (hW : RPS W p l gs sx) => rFail_any p l gs sx t.i 15 W hW hl6 (fun _ => by omega)
          have h9e := failR_e l gs sx t.i 15 (by omega)
          have h9 := failR_i l gs sx t.i 15
          generalize failR l gs sx t.i 15 = s9 at *
          rw [← h9] at hal
          clear h9
          have HTA := Lib.hid fun W (hW : RPS W p l gs s9) => rTake_any p l gs s9 4 [44] W hW (by omega)
          have hl8 : (a ++ [(⟨vk, vi, vw⟩ : GVal)]).length = a.length + 1 := by simp
          have HKA2 : Hid (KindsWf (a ++ [⟨vk, vi, vw⟩])) := Lib.hid fun v hv => (List.mem_append.1 hv).elim (HKA.out v) (HKV.out v)
          clear hmid hms HKV
          go_wp2_with fail
          go_fit HTK.out
          rintro e x1 ⟨rfl, hb1⟩
          have HPX := Lib.hid (HPT.out.next hb1)
          have HFX := Lib.hid (HFT.out.next hb1)
          have HOX := Lib.hid (HOT.out.next hb1)
          have HGX := Lib.hid (gb_trans HGT.out (gb_bel hb1))
          clear hb1 HTK
          obtain ⟨d0, d1, _⟩ := HFX.out.facts
          obtain ⟨_, _, _, c0, c1, c2, c3, c4, c5, _, _, _⟩ := HPX.out.open
          have HPK := Lib.hid (rPeek_calls 4 [45] HPX.out)
          rw [hpe] at HPK
          go_wp2_with fail
          go_fit HPK.out
          rintro e xa ⟨rfl, hb1⟩
          have HPX := Lib.hid (HPX.out.next hb1)
          have HFX := Lib.hid (HFX.out.next hb1)
          have HOX := Lib.hid (HOX.out.next hb1)
          have HGX := Lib.hid (gb_trans HGX.out (gb_bel hb1))
          clear hb1 HPK d0 d1 c0 c1 c2 c3 c4 c5
          obtain ⟨d0, d1, _⟩ := HFX.out.facts
          obtain ⟨_, _, _, c0, c1, c2, c3, c4, c5, _, _, _⟩ := HPX.out.open
          go_wp2_with fail
          go_fit (HAR.out _ HPX.out)
          rintro e x2 ⟨rfl, hps, hg⟩
          have HPY := Lib.hid (hps.next (bel_lit (Below.refl _ x2) (.cells #[.int .i64 vk, .int .i64 vi, .string ⟨vw.toArray⟩] 40)))
          have HFY := Lib.hid ((HFX.out.gb hg (by omega)).next (bel_lit (Below.refl _ x2) (.cells #[.int .i64 vk, .int .i64 vi, .string ⟨vw.toArray⟩] 40)))
          have HOY := Lib.hid ((HOX.out.gb (by omega) hg).alloc (.cells #[.int .i64 vk, .int .i64 vi, .string ⟨vw.toArray⟩] 40))
          have HGY := Lib.hid (gb_lit (gb_trans HGX.out hg) (.cells #[.int .i64 vk, .int .i64 vi, .string ⟨vw.toArray⟩] 40))
          have HVY : Hid (ValV (x2.alloc (.cells #[.int .i64 vk, .int .i64 vi, .string ⟨vw.toArray⟩] 40)) x2.heap.size ⟨vk, vi, vw⟩) := Lib.hid (heap_alloc_new x2 _)
          have hx2 : F + 1 ≤ x2.heap.size := by have := HGX.out.size; have := hg.size; have := HFX.out.lt; omega
          have hx3 : (x2.alloc (.cells #[.int .i64 vk, .int .i64 vi, .string ⟨vw.toArray⟩] 40)).heap.size = x2.heap.size + 1 := by simp
          clear hps hg HAR c0 c1 c2 c3 c4 c5 d0 d1
          obtain ⟨d0, d1, _⟩ := HFY.out.facts
          go_wp2_with fail
          go_fit (HFL2.out _ HPY.out)
          rintro e x4 ⟨rfl, hps, hg⟩
          have HPZ := Lib.hid hps
          have HFZ := Lib.hid (HFY.out.gb hg (by omega))
          have HOZ := Lib.hid (HOY.out.gb (by omega) hg)
          have HGZ := Lib.hid (gb_trans HGY.out hg)
          have HVZ := Lib.hid (HVY.out.gb hg (by omega))
          clear hps hg d0 d1
          obtain ⟨d0, d1, d2⟩ := HFZ.out.facts
          obtain ⟨z0, z1, z2⟩ := HVZ.out.facts
          simp only at z0 z1 z2
          have hlit := GRow.lit GVal.len x4 40 [(⟨vk, vi, vw⟩ : GVal)] #[.int .i64 vk, .int .i64 vi, .string ⟨vw.toArray⟩] rfl (by unfold maxLen; simp)
          obtain ⟨v', w3, hrun, hown3, hgr3, _⟩ := OwnG.app elt_val GVal.len GVal.one (HOZ.out.alloc (.cells #[.int .i64 vk, .int .i64 vi, .string ⟨vw.toArray⟩] 40)) 1 hlit (by have := HFZ.out.lt; simp; omega) (by unfold maxLen; simp; omega) (by simp; omega)
          have hq : ∀ g, Value.ownBlock (.slice A a.length c) = some g → F + 1 ≤ g := fun g hg => (HOZ.out.lt g hg).1
          generalize hA2 : a ++ [(⟨vk, vi, vw⟩ : GVal)] = a2 at *
          obtain ⟨A3, cap3, rfl, _, _, _⟩ := hown3.row GVal.len
          have HPQ : Hid (RPS (w3.setCell ⟨F, 1, none⟩ (.slice A3 a2.length cap3)) p l gs s9) := Lib.hid (((HPZ.out.next (bel_lit (Below.refl _ _) (.cells #[.int .i64 vk, .int .i64 vi, .string ⟨vw.toArray⟩] 40))).own hgr3 (fun g hg => by have := hq g hg; omega)).other _ _ (by show p < F; omega))
          have hfz := HFZ.out.next (bel_lit (Below.refl _ _) (.cells #[.int .i64 vk, .int .i64 vi, .string ⟨vw.toArray⟩] 40))
          have hf3 : FacV w3 F nm (.slice A a.length c) := (hgr3.block F hfz.lt (by intro e; have := hq F e.symm; omega)).trans hfz
          have HFQ := Lib.hid (hf3.set (.slice A3 a2.length cap3))
          have HOQ := Lib.hid (hown3.keep fun g hg => heap_setCell_other w3 ⟨F, 1, none⟩ g (.slice A3 a2.length cap3) (by have := (hown3.lt g hg).1; show g ≠ F; omega))
          have HGQ := Lib.hid (gb_new (gb_own (gb_lit HGZ.out (.cells #[.int .i64 vk, .int .i64 vi, .string ⟨vw.toArray⟩] 40)) hgr3 (fun g hg => by have := hq g hg; omega)) ⟨F, 1, none⟩ (.slice A3 a2.length cap3) (by show wb.heap.size ≤ F; omega))
          obtain ⟨_, _, f2⟩ := hf3.facts
          have HRUN := Lib.hid hrun
          simp only [List.length_singleton] at HRUN
          have HL8 := Lib.hid hl8
          clear hl8 hlit hrun hown3 hgr3 hq hfz hf3
          go_wp2_with (at_builtin; refine wpList_gapp HRUN.out rfl rfl rfl rfl rfl ?_)
          have HTC := Lib.hid (HTA.out _ HPQ.out)
          clear HTA
          have hpk : peekR gs s9 4 [44] = false := peek_no 4 [44] h9e
          clear h9e
          rw [hpk, if_neg (by simp)] at HRA
          rw [hpk, take_no hpk] at HTC
          have HRX : Hid ((s9, a2) = r1) := HRA
          have HXE : Hid (s9.e = 0 → s.i + 1 ≤ s9.i) := Lib.hid fun _ => by have := HKT2.out HET.out; omega
          have ha9 : a2.length ≤ 9 := by rw [HL8.out]; omega
          have h9i := hal.1
          clear hpk
          go_wp2_with fail
          go_fit HTC.out
          rintro e y0 ⟨rfl, hps, hg⟩
          have HPX := Lib.hid hps
          have HFX := Lib.hid (HFQ.out.gb hg (by omega))
          have HOX := Lib.hid (HOQ.out.gb (by omega) hg)
          have HGX := Lib.hid (gb_trans HGQ.out hg)
          clear hps hg HTC
          have ht1 := need_i l gs s9 4 [41] h9i
          have ht2 := need_i l gs (needR l gs s9 4 [41]) 4 [46] ht1.1
          have HN1 := Lib.hid fun W (hW : RPS W p l gs s9) => rNeed_any p l gs s9 4 [41] W hW hl6 (by omega)
          have HN2 := Lib.hid fun W (hW : RPS W p l gs (needR l gs s9 4 [41])) => rNeed_any p l gs (needR l gs s9 4 [41]) 4 [46] W hW hl6 (by omega)
          have hrf := HRF.out
          rw [← HRX.out] at hrf
          simp only at hrf
          have HRF2 := Lib.hid hrf
          have HEND2 : Hid ((needR l gs (needR l gs s9 4 [41]) 4 [46]).e = 0 → s.i + 1 ≤ (needR l gs (needR l gs s9 4 [41]) 4 [46]).i) := Lib.hid fun h => by have := HXE.out (ht1.2.2 (ht2.2.2 h)); omega
          have hi2 : s.i ≤ (needR l gs (needR l gs s9 4 [41]) 4 [46]).i := by omega
          have hi3 := ht2.1
          clear hrf ht2
          go_wp2_with fail
          go_fit (HN1.out _ HPX.out)
          rintro e y1 ⟨rfl, hps, hg⟩
          have HPY := Lib.hid hps
          have HFY := Lib.hid (HFX.out.gb hg (by omega))
          have HOY := Lib.hid (HOX.out.gb (by omega) hg)
          have HGY := Lib.hid (gb_trans HGX.out hg)
          clear hps hg HN1
          go_wp2_with fail
          go_fit (HN2.out _ HPY.out)
          rintro e y2 ⟨rfl, hps, hg⟩
          have HPZ := Lib.hid hps
          have HFZ := Lib.hid (HFY.out.gb hg (by omega))
          have HOZ := Lib.hid (HOY.out.gb (by omega) hg)
          have HGZ := Lib.hid (gb_trans HGY.out hg)
          have HLZ := Lib.hid (HLB.out.gb hpo HGZ.out)
          clear hps hg HN2
          obtain ⟨d0, d1, _⟩ := HFZ.out.facts
          obtain ⟨Ax, cx, hax, _, _, hrx⟩ := HOZ.out.row GVal.len
          injection hax with i1 i2 i3
          subst i1 i3
          have hs2 : F < y2.heap.size := HFZ.out.lt
          have hlit := GRow.lit SFact.len y2 37 [⟨nm, A3, a2.length, cap3⟩] #[.string ⟨nm.toArray⟩, .slice A3 a2.length cap3] rfl (by unfold maxLen; simp)
          obtain ⟨v', y3, hrun, hown3, hgr3, hob⟩ := OwnG.app elt_fact SFact.len SFact.one (HLZ.out.own.alloc (.cells #[.string ⟨nm.toArray⟩, .slice A3 a2.length cap3] 37)) 1 hlit (by have := HGZ.out.size; have := HGB3.out.size; simp; omega) (by have := HSL.out; unfold maxLen; simp; omega) (by have := HSL.out; simp; omega)
          have hap : ∀ o : Option Nat, (∀ g, o = some g → g ≤ F) → Apart o ⟨nm, A3, a2.length, cap3⟩ ⟨nm, a2⟩ := fun o ho h0 b off e e2 => by
            have h1 := ho _ e2
            rcases HOZ.out.2 with ⟨hv, h00⟩ | ⟨g, cap, cur, hv, hbs, _⟩
            · simp at h0; omega
            · simp only at e
              rw [e] at hv
              cases hv
              omega
          have HL3 := Lib.hid (HLZ.out.step (s := ⟨nm, A3, a2.length, cap3⟩) (f := ⟨nm, a2⟩) (bel_lit (Below.refl _ y2) _) hgr3 hown3 hob ⟨rfl, rfl, hrx.next (bel_lit (Below.refl y2.heap.size y2) _), by simp; omega⟩ (hap _ fun g hg => by have := (HLB.out.own.lt g hg).2; omega) (hap _ fun g hg => by cases hg; omega))
          have hq : ∀ g, Value.ownBlock (.slice Ao ss.length co) = some g → wo.heap.size ≤ g := fun g hg => (HLB.out.own.lt g hg).1
          have HG3 := Lib.hid (gb_own (gb_lit (gb_trans HGB3.out HGZ.out) (.cells #[.string ⟨nm.toArray⟩, .slice A3 a2.length cap3] 37)) hgr3 hq)
          have HP3 : Hid (RPS y3 p l gs (needR l gs (needR l gs s9 4 [41]) 4 [46])) := Lib.hid (by
            obtain ⟨A6, c6, h6, hr6⟩ := HPZ.out
            refine ⟨A6, c6, (hgr3.block p (by have := HPZ.out.lt; simp; omega) (by intro e; have := hq p e.symm; omega)).trans ((Below.heap_alloc _ _ p HPZ.out.lt).trans h6), hr6.keep fun g hg => (hgr3.block g (by have := HPZ.out.lt; simp; omega) (by intro e; have := hq g e.symm; omega)).trans (Below.heap_alloc _ _ g (by have := HPZ.out.lt; omega))⟩)
          obtain ⟨A3, cap3, rfl, _, _, _⟩ := hown3.row SFact.len
          have HRUN := Lib.hid hrun
          have HM3 := Lib.hid (parM_rps HP3.out)
          simp only [List.length_singleton, List.length_append] at HRUN HL3
          clear hlit hrun hown3 hgr3 hob hap hq hrx
          go_wp2_with (at_builtin; refine wpList_gapp HRUN.out rfl rfl rfl rfl rfl ?_)
          go_roundw
          case rel => exact ⟨n, _, fs ++ [⟨nm, a2⟩], _, HP3.out, HL3.out, hi3, fun h => by have := HEND2.out h; have := HFI.out; simp; omega, by have := HFI.out; simp; omega, fun f hf => by
            rcases List.mem_append.1 hf with h | h
            · exact HFA.out f h
            · simp at h; subst h; exact ⟨by simp; omega, HKA2.out⟩, fun h => by have := HEND2.out h; have := HN.out; omega, HRF2.out, HG3.out⟩
          case measure =>
            rw [HM3.out, HMW.out, if_pos HE.out]
            have := HEND2.out
            split
            · have := this (by assumption); omega
            · omega
end Go.Proofs.YtmodjokoggmnaaaGreatDoor


namespace Go.Proofs.YtmodjokoggmnaaaGreatDoor
open Go.RowKit Go.Shelf

def fmtT (fs : List GFact) : List UInt8 := if fs.all gwfF then fs.flatMap factText else []
/-- What is asked of the words and numbers of a fact. -/
def FewV (f : GFact) : Prop := f.rel.length ≤ 65536 ∧ ∀ v ∈ f.args, v.word.length ≤ 65536 ∧ -9223372036854775808 ≤ v.int ∧ v.int ≤ 9223372036854775807 ∧ (vtextL v).length ≤ 70000
theorem factText_len {f : GFact} (h : FewV f) (hw : gwfF f = true) : (factText f).length ≤ 700000 := by
  have h8 : f.args.length ≤ 8 := by simp [gwfF] at hw; omega
  have h1 := argsT_len f.args (fun v hv => (h.2 v hv).2.2.2)
  have h2 := h.1
  have h3 : f.args.length * 70002 ≤ 8 * 70002 := Nat.mul_le_mul_right _ h8
  unfold factText
  simp
  omega
theorem flat_len : ∀ (fs : List GFact), (∀ f ∈ fs, FewV f) → fs.all gwfF = true → (fs.flatMap factText).length ≤ fs.length * 700000
  | [], _, _ => by simp
  | f :: fs, h, hw => by
    simp only [List.all_cons, Bool.and_eq_true] at hw
    have h1 := factText_len (h f List.mem_cons_self) hw.1
    have h2 := flat_len fs (fun g hg => h g (List.mem_cons_of_mem _ hg)) hw.2
    rw [List.flatMap_cons, List.length_append, List.length_cons]
    omega
theorem factsE_at {w0 : World} {es : List (Elem w0)} {k : Nat} (h : k < es.length) : (FactsE es).take (k + 1) = (FactsE es).take k ++ [es[k].fact] := by
  unfold FactsE
  rw [List.take_succ_eq_append_getElem (by rw [List.length_map]; exact h), List.getElem_map]
theorem ba_cat (a b : List UInt8) : (⟨a.toArray⟩ ++ ⟨b.toArray⟩ : ByteArray) = ⟨(a ++ b).toArray⟩ := ByteArray.ext (by simp [ByteArray.data_append])
set_option maxRecDepth 50000 in
set_option maxHeartbeats 4000000 in
theorem rFormat_any {w0 : World} (es : List (Elem w0)) (A : Option Addr) (c : Nat) (w : World) (hb : Below w0.heap.size w0 w) (hr : RowE w A c es) (hn : es.length ≤ 990000) (hz : ∀ f ∈ FactsE es, FewV f) :
    Calls Tryz.prog 12 #[.slice A es.length c] w fun e w' => ∃ fs, e = .returned (.string ⟨(fmtT fs).toArray⟩) ∧ StrictF fs ∧ (∀ f, f ∈ fs ↔ f ∈ FactsE es) ∧ Below w.heap.size w w' := by
  have HS := Lib.hid (rSet_any es A c w hb hr hn)
  have HB00 := Lib.hid hb
  clear hb hr
  go_enter Tryz.func12, Tryz.ntmps12
  go_wp2_with fail
  refine HS.out.mono ?_
  rintro e w4 ⟨A4, c4, es4, rfl, h1, h2, h3, h4, h5⟩
  have HR := Lib.hid h1
  have HST := Lib.hid h2
  have HME := Lib.hid h3
  have HB := Lib.hid h5
  have HB4 := Lib.hid (bel_next HB00.out h5)
  have HFV : Hid (∀ f ∈ FactsE es4, FewV f) := Lib.hid fun f hf => hz f ((h3 f).1 hf)
  have hcm := h1.max
  clear h1 h2 h3 h5 HS hz
  go_wp2
  go_loopw [4, 5] (fun vs vi wr => ∃ k : Nat, vs = .string ⟨(((FactsE es4).take k).flatMap factText).toArray⟩ ∧ vi = .int .i64 k ∧ k ≤ es4.length ∧ Hid (((FactsE es4).take k).all gwfF = true) ∧ Hid (Below w4.heap.size w4 wr)) (fun _ vi _ => es4.length - (intOf vi).toNat)
  case atStart => exact ⟨0, rfl, rfl, Nat.zero_le _, Lib.hid rfl, Lib.hid (Below.refl _ _)⟩
  case round =>
    obtain ⟨k, rfl, rfl, hk, HA, HW⟩ := hrel
    have hTl : (((FactsE es4).take k).flatMap factText).length ≤ 693000000000 := by
      have h1 := flat_len ((FactsE es4).take k) (fun f hf => HFV.out f (List.mem_of_mem_take hf)) HA.out
      have h2 : ((FactsE es4).take k).length * 700000 ≤ 990000 * 700000 := Nat.mul_le_mul_right _ (by rw [List.length_take]; omega)
      omega
    rcases Nat.lt_or_ge k es4.length with hlt | hge
    · obtain ⟨b1, o1, rfl, hb1, x0, x1⟩ := (HR.out.row.below (Nat.le_refl _) HW.out).elem2 hlt
      have hsz := HW.out.size
      have hl1 : b1 < wr.heap.size := by omega
      have HTK := Lib.hid (factsE_at hlt)
      have hy : es4[k].fact ∈ FactsE es4 := List.mem_map.2 ⟨_, List.getElem_mem hlt, rfl⟩
      have HFY := Lib.hid (HFV.out _ hy)
      have HH := Lib.hid fun W (hW : Below wr.heap.size wr W) => es4[k].hold (bel_next (bel_next HB4.out HW.out) hW)
      have HRI := Lib.hid fun W (hW : Below wr.heap.size wr W) => rRight_any es4[k].fact es4[k].sf W (HH.out W hW) HFY.out.1 (fun v hv => (HFY.out.2 v hv).1)
      have hrl : es4[k].sf.rel = es4[k].fact.rel := es4[k].2.rel
      have hnn : es4[k].sf.n = es4[k].fact.args.length := es4[k].2.n
      have HYM := Lib.hid hy
      clear hy
      generalize es4[k] = y at *
      rw [hrl] at x0 HRI
      rw [hnn] at x1 HRI
      generalize htk : ((FactsE es4).take k).flatMap factText = tk at *
      have HTKE := Lib.hid htk
      clear htk
      have HB1 := Lib.hid (bel_lit (Below.refl wr.heap.size wr) (.cells #[.string ⟨y.fact.rel.toArray⟩, .slice y.sf.A y.fact.args.length y.sf.c] 37))
      have HRC := Lib.hid (HRI.out _ HB1.out)
      clear HRI
      cases hg : gwfF y.fact
      · have hnil : fmtT (FactsE es4) = [] := by
          unfold fmtT
          rw [if_neg]
          intro h
          have := List.all_eq_true.1 h _ HYM.out
          rw [hg] at this
          cases this
        have HNIL := Lib.hid hnil
        rw [hg] at HRC
        clear hnil hg
        go_wp2_with fail
        refine HRC.out.mono ?_
        rintro e w5 ⟨rfl, h5⟩
        have HB5 := Lib.hid (bel_next (bel_next (bel_next HB.out HW.out) HB1.out) h5)
        clear h5 HRC
        go_wp2
        refine bodyPost_ret (v := .string ⟨#[]⟩) (by simp [results, Tryz.results12, go_sem]) rfl ?_
        exact ⟨_, by rw [HNIL.out], HST.out, HME.out, HB5.out⟩
      · have h8 : y.fact.args.length ≤ 8 := by have := hg; simp [gwfF] at this; omega
        have hra := HFY.out.1
        have HAW : Hid (∀ v ∈ y.fact.args, gwfV v = true) := Lib.hid (by have := hg; simp [gwfF] at this; exact this.2)
        have HA2 : Hid (((FactsE es4).take (k + 1)).all gwfF = true) := Lib.hid (by rw [HTK.out, List.all_append, HA.out]; simp [hg])
        rw [hg] at HRC
        clear hg
        obtain ⟨t1, ht1⟩ : ∃ t1, t1 = tk ++ y.fact.rel := ⟨_, rfl⟩
        obtain ⟨t2, ht2⟩ : ∃ t2, t2 = t1 ++ [40] := ⟨_, rfl⟩
        have hl1 : t1.length ≤ 693000065536 := by rw [ht1, List.length_append]; omega
        have hl2 : t2.length ≤ 693000065537 := by rw [ht2, List.length_append]; simp; omega
        have hq1 : (⟨tk.toArray⟩ ++ ⟨y.fact.rel.toArray⟩ : ByteArray) = ⟨t1.toArray⟩ := by rw [ht1]; exact ba_cat _ _
        have hq2 : (⟨t1.toArray⟩ ++ ⟨#[40]⟩ : ByteArray) = ⟨t2.toArray⟩ := by rw [ht2]; exact ba_cat _ [40]
        have HT2 : Hid (t2 = tk ++ y.fact.rel ++ [40]) := Lib.hid (by rw [ht2, ht1])
        clear ht1 ht2
        go_wp2_with fail
        refine HRC.out.mono ?_
        rintro e w5 ⟨rfl, h5⟩
        have hfx : w5.heap[wr.heap.size]? = some (.cells #[.string ⟨y.fact.rel.toArray⟩, .slice y.sf.A y.fact.args.length y.sf.c] 37 (0, 0)) := (h5.block _ (by simp)).trans (heap_alloc_new wr _)
        have y0 : w5.cell? ⟨wr.heap.size, 0, none⟩ = some (.string ⟨y.fact.rel.toArray⟩) := by rw [Lib.cell_of_heap hfx]; rfl
        have y1 : w5.cell? ⟨wr.heap.size, 1, none⟩ = some (.slice y.sf.A y.fact.args.length y.sf.c) := by rw [Lib.cell_of_heap hfx]; rfl
        have HFX := Lib.hid hfx
        have HB5 := Lib.hid (bel_next HB1.out h5)
        have hs5 : wr.heap.size < w5.heap.size := by have := h5.size; simp at this; omega
        clear h5 HRC hfx
        go_wp2
        clear hq1 hq2 y0 y1
        generalize hsA : y.sf.A = sA at *
        obtain ⟨wq, rfl⟩ : ∃ q, q = wr := ⟨_, rfl⟩
        go_loopw [4, 7] (fun vs vj wx => ∃ j : Nat, vs = .string ⟨(t2 ++ argsT (y.fact.args.take j)).toArray⟩ ∧ vj = .int .i64 j ∧ j ≤ y.fact.args.length ∧ Hid (Below w5.heap.size w5 wx)) (fun _ vj _ => y.fact.args.length - (intOf vj).toNat)
        case atStart => exact ⟨0, by simp [argsT], rfl, Nat.zero_le _, Lib.hid (Below.refl _ _)⟩
        case round =>
          obtain ⟨j, rfl, rfl, hj, HWX⟩ := hrel
          have hsx := HWX.out.size
          have hal := argsT_len (y.fact.args.take j) (fun v hv => (HFY.out.2 v (List.mem_of_mem_take hv)).2.2.2)
          have hal2 : (y.fact.args.take j).length * 70002 ≤ 8 * 70002 := Nat.mul_le_mul_right _ (by rw [List.length_take]; omega)
          obtain ⟨u, hu⟩ : ∃ u, u = t2 ++ argsT (y.fact.args.take j) := ⟨_, rfl⟩
          have hul : u.length ≤ 693010000000 := by rw [hu, List.length_append]; omega
          have HU := Lib.hid hu
          rw [← hu]
          clear hu hal hal2
          have HBX := Lib.hid (bel_next HB5.out HWX.out)
          have hfx := (HWX.out.block wq.heap.size hs5).trans HFX.out
          rcases Nat.lt_or_ge j y.fact.args.length with hlt2 | hge2
          · have hrow := (HH.out _ HBX.out).row
            rw [hsA] at hrow
            have hgv := HAW.out _ (List.getElem_mem hlt2)
            obtain ⟨q1, q2, q3, q4⟩ := HFY.out.2 _ (List.getElem_mem hlt2)
            have HRT := Lib.hid (rText_any y.fact.args[j] wr q1 q2 q3)
            rw [rtext_eq _ hgv] at HRT
            have HAT := Lib.hid (argsT_take hlt2)
            obtain ⟨b2, o2, hA2, hb2, z0, z1, z2⟩ := hrow.val3 hlt2
            have y1 : wr.cell? ⟨wq.heap.size, 1, none⟩ = some (.slice (some ⟨b2, o2, none⟩) y.fact.args.length y.sf.c) := by rw [Lib.cell_of_heap hfx, hA2]; rfl
            generalize y.fact.args[j] = v at *
            clear hrow hfx hgv q1 q2 q3 hA2
            obtain ⟨vk, vi, vw⟩ := v
            unfold GVal.val at HRT
            simp only at z0 z1 z2 HRT
            generalize vtextL ⟨vk, vi, vw⟩ = vt at *
            by_cases hj0 : j = 0
            · subst hj0
              rw [if_pos rfl] at HAT
              rw [Nat.zero_mul, Nat.add_zero] at z0 z1 z2
              have hq : (⟨u.toArray⟩ ++ ⟨vt.toArray⟩ : ByteArray) = ⟨(u ++ vt).toArray⟩ := ba_cat _ _
              have HEQ : Hid (u ++ vt = t2 ++ argsT (y.fact.args.take (0 + 1))) := Lib.hid (by rw [HAT.out, HU.out]; simp [argsT])
              go_wp2_with fail
              refine HRT.out.mono ?_
              rintro e w6 ⟨rfl, h6⟩
              have HWY := Lib.hid (bel_next HWX.out h6)
              clear h6 HRT
              go_wp2
              go_roundw
              case rel => exact ⟨1, by rw [HEQ.out], rfl, by omega, HWY⟩
              case measure =>
                show y.fact.args.length - ((1 : Int)).toNat < y.fact.args.length - ((0 : Int)).toNat
                omega
            · rw [if_neg hj0] at HAT
              have g0 : (0 : Int) < (j : Int) := by omega
              obtain ⟨u1, hu1⟩ : ∃ u1, u1 = u ++ [44, 32] := ⟨_, rfl⟩
              have hul1 : u1.length ≤ 693010000002 := by rw [hu1, List.length_append]; simp; omega
              have hq0 : (⟨u.toArray⟩ ++ ⟨#[44, 32]⟩ : ByteArray) = ⟨u1.toArray⟩ := by rw [hu1]; exact ba_cat _ [44, 32]
              have hq : (⟨u1.toArray⟩ ++ ⟨vt.toArray⟩ : ByteArray) = ⟨(u1 ++ vt).toArray⟩ := ba_cat _ _
              have HEQ : Hid (u1 ++ vt = t2 ++ argsT (y.fact.args.take (j + 1))) := Lib.hid (by rw [HAT.out, hu1, HU.out]; simp)
              clear hu1
              go_wp2_with fail
              refine HRT.out.mono ?_
              rintro e w6 ⟨rfl, h6⟩
              have HWY := Lib.hid (bel_next HWX.out h6)
              clear h6 HRT
              go_wp2
              go_roundw
              case rel => exact ⟨j + 1, by rw [HEQ.out], by go_num, by omega, HWY⟩
              case measure =>
                show y.fact.args.length - ((j : Int) + 1).toNat < y.fact.args.length - ((j : Int)).toNat
                omega
          · obtain rfl : j = y.fact.args.length := by omega
            have y1 : wr.cell? ⟨wq.heap.size, 1, none⟩ = some (.slice sA y.fact.args.length y.sf.c) := by rw [Lib.cell_of_heap hfx]; rfl
            rw [List.take_length] at HU
            have hq : (⟨u.toArray⟩ ++ ⟨#[41, 46, 10]⟩ : ByteArray) = ⟨(u ++ [41, 46, 10]).toArray⟩ := ba_cat _ [41, 46, 10]
            have HEQ : Hid (u ++ [41, 46, 10] = ((FactsE es4).take (k + 1)).flatMap factText) := Lib.hid (by rw [HTK.out, HU.out, HT2.out, List.flatMap_append, HTKE.out]; simp [factText])
            have HWZ := Lib.hid (bel_next HW.out HBX.out)
            clear hfx
            go_wp2
            go_roundw
            case rel => exact ⟨k + 1, by rw [HEQ.out], by go_num, by omega, HA2, HWZ⟩
            case measure =>
              show es4.length - ((k : Int) + 1).toNat < es4.length - ((k : Int)).toNat
              omega
    · obtain rfl : k = es4.length := by omega
      have hl : (FactsE es4).length = es4.length := by simp [FactsE]
      have hall := HA.out
      rw [← hl, List.take_length] at hall ⊢
      have HEND : Hid (fmtT (FactsE es4) = (FactsE es4).flatMap factText) := Lib.hid (by unfold fmtT; rw [if_pos hall])
      clear hall hTl
      rw [hl]
      have HBZ := Lib.hid (bel_next HB.out HW.out)
      go_wp2
      refine bodyPost_ret (v := .string ⟨((FactsE es4).flatMap factText).toArray⟩) (by simp [results, Tryz.results12, go_sem]) rfl ?_
      exact ⟨_, by rw [HEND.out], HST.out, HME.out, HBZ.out⟩
end Go.Proofs.YtmodjokoggmnaaaGreatDoor


namespace Go.Proofs.YtmodjokoggmnaaaGreatDoor
open Go.RowKit Go.Shelf

theorem fmtT_no {fs : List GFact} {f : GFact} (h : f ∈ fs) (hw : gwfF f = false) : fmtT fs = [] := by
  unfold fmtT
  rw [if_neg]
  intro ha
  have := List.all_eq_true.1 ha _ h
  rw [hw] at this
  cases this
theorem flat_take {fs : List GFact} {k : Nat} (h : k < fs.length) : (fs.take (k + 1)).flatMap factText = (fs.take k).flatMap factText ++ (fs[k].rel ++ [40] ++ argsT fs[k].args ++ [41, 46, 10]) := by
  rw [List.take_succ_eq_append_getElem h, List.flatMap_append]
  simp [factText]
theorem allF_take {fs : List GFact} {k : Nat} (h : k < fs.length) (ha : (fs.take k).all gwfF = true) (hw : gwfF fs[k] = true) : (fs.take (k + 1)).all gwfF = true := by
  rw [List.take_succ_eq_append_getElem h, List.all_append, ha]
  simp [hw]
set_option maxRecDepth 50000 in
set_option maxHeartbeats 2000000 in
theorem fformat_any (v : Value) (ss : List SFact) (fs : List GFact) (w : World) (hs : SetV w v ss fs) (hn : fs.length ≤ 90000) (hz : ∀ f ∈ fs, FewV f) (ha : ∀ f ∈ fs, f.args.length ≤ 1000000) (hP : Pow w) :
    Calls Tryz.prog 10 #[v] w fun e w' => ∃ fs', e = .returned (.string ⟨(fmtT fs').toArray⟩) ∧ StrictF fs' ∧ (∀ f, f ∈ fs' ↔ f ∈ fs) ∧ Below w.heap.size w w' := by
  have hb0 := bel_lit (Below.refl w.heap.size w) (.cells #[.pointer none, .slice none 0 0] 69)
  have HSO := Lib.hid (setOf_facts v ss fs (w.alloc (.cells #[.pointer none, .slice none 0 0] 69)) (hs.next hb0) (by omega) ha)
  have HZ := Lib.hid hz
  have HP := Lib.hid hP
  clear hs hz ha hP hb0
  go_enter Tryz.func10, Tryz.ntmps10
  go_wp2_with fail
  go_fit HSO.out
  rintro e w2 ⟨v2, ss2, fs2, rfl, ho2, hs2, hst, hme, hln, hb2⟩
  obtain ⟨A2, c2, e2, hf2⟩ := hs2.frow
  subst e2
  have hbn : w2.heap[w.heap.size]? = some (.cells #[.pointer none, .slice none 0 0] 69 (0, 0)) := (hb2.block _ (by simp)).trans (heap_alloc_new w _)
  have HBN := Lib.hid hbn
  have HL0 := Lib.hid (Bld2.start hbn)
  have HF := Lib.hid hf2
  have HST := Lib.hid hst
  have HME : Hid (∀ f, f ∈ fs2 ↔ f ∈ fs) := Lib.hid fun f => by rw [hme f]; simp
  have HB2 := Lib.hid (bel_alloc (Below.refl _ w) hb2)
  have HFV : Hid (∀ f ∈ fs2, FewV f) := Lib.hid fun f hf => HZ.out f ((HME.out f).1 hf)
  have hl2 : fs2.length ≤ 90000 := by simp at hln; omega
  have hcl : ss2.length = fs2.length := hf2.len
  have hnz : w.heap.size < w2.heap.size := heap_lt hbn
  clear ho2 hs2 hst hme hln hb2 hbn hf2 HSO HZ
  go_wp2
  go_loopw [11] (fun vi wr => ∃ k : Nat, vi = .int .i64 k ∧ k ≤ fs2.length ∧ Hid ((fs2.take k).all gwfF = true) ∧ Hid (Bld2 w2 wr w.heap.size ((fs2.take k).flatMap factText))) (fun vi _ => fs2.length - (intOf vi).toNat)
  case atStart => exact ⟨0, rfl, Nat.zero_le _, Lib.hid rfl, HL0⟩
  case round =>
    obtain ⟨k, rfl, hk, HA, HL⟩ := hrel
    have hTl : ((fs2.take k).flatMap factText).length ≤ 63000000000 := by
      have h1 := flat_len (fs2.take k) (fun f hf => HFV.out f (List.mem_of_mem_take hf)) HA.out
      have h2 : (fs2.take k).length * 700000 ≤ 90000 * 700000 := Nat.mul_le_mul_right _ (by rw [List.length_take]; omega)
      omega
    have HW := Lib.hid (bel_gb HB2.out (Nat.le_refl _) HL.out.2.1)
    have hsz : w2.heap.size ≤ wr.heap.size := HL.out.2.1.size
    rcases Nat.lt_or_ge k fs2.length with hlt | hge
    · have hls : k < ss2.length := by omega
      have HFR := Lib.hid (HF.out.gbN HBN.out HL.out.2.1)
      obtain ⟨b1, o1, rfl, hb1, x0, x1⟩ := HFR.out.row.fact2 hls
      have hold := HF.out.each k hls hlt
      have hmem : fs2[k] ∈ fs2 := List.getElem_mem hlt
      have HFY := Lib.hid (HFV.out _ hmem)
      have HMEM := Lib.hid hmem
      have HTK := Lib.hid (flat_take hlt)
      have HAT := Lib.hid fun h => allF_take hlt HA.out h
      generalize fs2[k] = y at *
      generalize ss2[k] = sy at *
      generalize htk : (fs2.take k).flatMap factText = tk at *
      clear htk
      obtain ⟨r, vs⟩ := y
      obtain ⟨sr, sA, sn, sc⟩ := sy
      have e1 := hold.rel
      have e2 := hold.n
      have hrow := hold.row
      simp only at e1 e2 hrow x0 x1 HTK
      subst e1 e2
      have hN : ∀ b off, sA = some ⟨b, off, none⟩ → 0 < vs.length → b ≠ w.heap.size := fun b off e h0 hbn => by
        subst hbn
        obtain ⟨b', off', e', _, hc⟩ := hrow h0
        rw [e] at e'
        cases e'
        exact noStrB HBN.out (hc 0 h0 2 _ rfl) rfl
      have HROW : Hid (∀ W, w2.grownBy W (some w.heap.size) → GRow GVal.cells 3 W W.heap.size sA vs) := Lib.hid fun W hW h0 => by
        exact hrow.gb (fun b off e => hN b off e h0) hW h0
      have hf1 := HFY.out.1
      simp only at hf1
      have hv4 : ∀ v ∈ vs, v.word.length ≤ 65536 ∧ -9223372036854775808 ≤ v.int ∧ v.int ≤ 9223372036854775807 ∧ (vtextL v).length ≤ 70000 := HFY.out.2
      have HV4 := Lib.hid hv4
      have hfew := hold.few
      simp only at hfew
      have HLa := Lib.hid (HL.out.next (bel_lit (Below.refl wr.heap.size wr) (.cells #[.string ⟨sr.toArray⟩, .slice sA vs.length sc] 37)))
      have HWF := Lib.hid (fwellFormed_any ⟨sr, vs⟩ sA sc (wr.alloc (.cells #[.string ⟨sr.toArray⟩, .slice sA vs.length sc] 37)) (HROW.out _ HLa.out.2.1) hf1 hfew (fun v hv => (hv4 v hv).1) ((HP.out.next HW.out).next (bel_lit (Below.refl _ _) _)))
      simp only [factV] at HWF
      clear hold hrow hN hv4 hfew
      cases hg : gwfF ⟨sr, vs⟩
      · have HNIL := Lib.hid (fmtT_no HMEM.out hg)
        rw [hg] at HWF
        clear hg
        go_wp2_with fail
        refine HWF.out.mono ?_
        rintro e w3 ⟨rfl, hb3⟩
        have HB3 := Lib.hid (bel_next (bel_lit HW.out _) hb3)
        clear hb3 HWF
        go_wp2
        refine bodyPost_ret (v := .string ⟨#[]⟩) (by simp [results, Tryz.results10, go_sem]) rfl ?_
        exact ⟨fs2, by rw [HNIL.out], HST.out, HME.out, HB3.out⟩
      · have h8 : vs.length ≤ 8 := by have := hg; simp [gwfF] at this; omega
        have HA2 := Lib.hid (HAT.out hg)
        rw [hg] at HWF
        clear hg HAT
        have hq1 : (⟨sr.toArray⟩ ++ ⟨#[40]⟩ : ByteArray) = ⟨(sr ++ [40]).toArray⟩ := ba_cat _ [40]
        go_wp2_with fail
        refine HWF.out.mono ?_
        rintro e w3 ⟨rfl, hb3⟩
        have hfx : w3.heap[wr.heap.size]? = some (.cells #[.string ⟨sr.toArray⟩, .slice sA vs.length sc] 37 (0, 0)) := (hb3.block _ (by simp)).trans (heap_alloc_new wr _)
        have y0 : w3.cell? ⟨wr.heap.size, 0, none⟩ = some (.string ⟨sr.toArray⟩) := by rw [Lib.cell_of_heap hfx]; rfl
        have HFX := Lib.hid hfx
        have HL3 := Lib.hid (HLa.out.next hb3)
        have hz3 : wr.heap.size < w3.heap.size := heap_lt hfx
        clear hfx hb3 HWF
        go_wp2_with fail
        refine (bld_str2 w2 _ _ (sr ++ [40]) _ HL3.out (by simp; omega)).mono ?_
        rintro e w4 ⟨rfl, hbl4, hk4, _⟩
        have hfx4 := hk4 _ _ HFX.out (by simp; omega) (by rintro c fz he; cases he)
        have y1 : w4.cell? ⟨wr.heap.size, 1, none⟩ = some (.slice sA vs.length sc) := by rw [Lib.cell_of_heap hfx4]; rfl
        obtain ⟨tq, htq⟩ : ∃ tq, tq = tk ++ (sr ++ [40]) := ⟨_, rfl⟩
        have htl : tq.length ≤ 63000070000 := by rw [htq, List.length_append, List.length_append]; simp; omega
        rw [← htq] at hbl4
        have HTQ := Lib.hid htq
        have HL4 := Lib.hid hbl4
        clear hfx4 hbl4 hk4 y0 htq hq1
        go_wp2
        go_loopw [25] (fun vi wx => ∃ j : Nat, vi = .int .i64 j ∧ j ≤ vs.length ∧ Hid (Bld2 w2 wx w.heap.size (tq ++ argsT (vs.take j)))) (fun vi _ => vs.length - (intOf vi).toNat)
        case atStart => exact ⟨0, rfl, Nat.zero_le _, Lib.hid (by simpa [argsT] using HL4.out)⟩
        case round =>
          obtain ⟨j, rfl, hj, HLk⟩ := hrel
          have hzz : w.heap.size < wr.heap.size := Nat.lt_of_lt_of_le hnz HLk.out.2.1.size
          have hjl : (argsT (vs.take j)).length ≤ 560016 := by
            have h1 := argsT_len (vs.take j) (fun v hv => (HV4.out v (List.mem_of_mem_take hv)).2.2.2)
            rw [List.length_take] at h1
            have h2 : min j vs.length * 70002 ≤ 8 * 70002 := Nat.mul_le_mul_right _ (by omega)
            omega
          have HWk := Lib.hid (bel_gb HB2.out (Nat.le_refl _) HLk.out.2.1)
          rcases Nat.lt_or_ge j vs.length with hlt2 | hge2
          · obtain ⟨b2, o2, rfl, hb2, z0, z1, z2⟩ := (HROW.out _ HLk.out.2.1).val3 hlt2
            obtain ⟨q1, q2, q3, q4⟩ := HV4.out _ (List.getElem_mem hlt2)
            have HVT := Lib.hid fun W (hW : Pow W) => valueText_any vs[j] W q1 q2 q3 hW
            have HJ := Lib.hid (argsT_take hlt2)
            clear q1 q2 q3
            generalize vs[j] = v at *
            obtain ⟨vk, vi, vw⟩ := v
            simp only [GVal.val] at z0 z1 z2 HVT
            generalize vtextL ⟨vk, vi, vw⟩ = vt at *
            have HVA : Hid (ValAt (wr.alloc (.cells #[.int .i64 vk, .int .i64 vi, .string ⟨vw.toArray⟩] 40)) wr.heap.size ⟨vk, vi, vw⟩) := Lib.hid (heap_alloc_new wr _)
            have HBa := Lib.hid (bel_lit (Below.refl wr.heap.size wr) (.cells #[.int .i64 vk, .int .i64 vi, .string ⟨vw.toArray⟩] 40))
            have HLb := Lib.hid (HLk.out.next HBa.out)
            by_cases hk0 : j = 0
            · subst hk0
              have HJ0 : Hid (argsT (vs.take (0 + 1)) = vt) := Lib.hid (by rw [HJ.out, if_pos rfl])
              have HJE : Hid (argsT (vs.take 0) = []) := Lib.hid rfl
              have HT := Lib.hid (HVT.out _ ((HP.out.next HWk.out).next HBa.out))
              simp only [Nat.zero_mul, Nat.add_zero] at z0 z1 z2
              go_wp2_with fail
              refine HT.out.mono ?_
              rintro e w5 ⟨rfl, hb5⟩
              have HL5 := Lib.hid (HLb.out.next hb5)
              clear hb5 HT
              go_wp2_with fail
              refine (bld_str2 w2 _ _ vt _ HL5.out (by rw [HJE.out, List.append_nil]; omega)).mono ?_
              rintro e w6 ⟨rfl, hbl6, hk6, _⟩
              have HL6 : Hid (Bld2 w2 w6 w.heap.size (tq ++ argsT (vs.take (0 + 1)))) := Lib.hid (by rw [HJ0.out]; rw [HJE.out, List.append_nil] at hbl6; exact hbl6)
              clear hbl6 hk6
              go_wp2
              go_roundw
              case rel => exact ⟨0 + 1, by go_num, by omega, HL6⟩
              case measure => simp [intOf]; omega
            · have g0 : (0 : Int) < (j : Int) := by omega
              have HJ0 : Hid (argsT (vs.take (j + 1)) = argsT (vs.take j) ++ 44 :: 32 :: vt) := Lib.hid (by rw [HJ.out, if_neg hk0])
              clear hk0
              go_wp2_with fail
              refine (bld_str2 w2 _ _ [44, 32] _ HLb.out (by simp; omega)).mono ?_
              rintro e w5 ⟨rfl, hbl5, hk5, hb5⟩
              obtain ⟨y0, y1, y2⟩ := (HVA.out.kept hk5 (by omega)).cells
              simp only at y0 y1 y2
              have HL5 := Lib.hid hbl5
              have HT := Lib.hid (HVT.out _ (HP.out.next (bel_gb HB2.out (Nat.le_refl _) hbl5.2.1)))
              clear hbl5 hb5 hk5 z0 z1 z2
              go_wp2_with fail
              refine HT.out.mono ?_
              rintro e w6 ⟨rfl, hb6⟩
              have HL6 := Lib.hid (HL5.out.next hb6)
              clear hb6 HT
              go_wp2_with fail
              refine (bld_str2 w2 _ _ vt _ HL6.out (by simp; omega)).mono ?_
              rintro e w7 ⟨rfl, hbl7, hk7, _⟩
              have HL7 : Hid (Bld2 w2 w7 w.heap.size (tq ++ argsT (vs.take (j + 1)))) := Lib.hid (by rw [HJ0.out]; simpa using hbl7)
              clear hbl7 hk7
              go_wp2
              go_roundw
              case rel => exact ⟨j + 1, by go_num, by omega, HL7⟩
              case measure => simp [intOf]; omega
          · have HTJ : Hid (argsT (vs.take j) = argsT vs) := Lib.hid (by rw [List.take_of_length_le hge2])
            go_wp2_with fail
            refine (bld_str2 w2 _ _ [41, 46, 10] _ HLk.out (by simp; omega)).mono ?_
            rintro e w6 ⟨rfl, hbl6, hk6, _⟩
            have HL6 : Hid (Bld2 w2 w6 w.heap.size ((fs2.take (k + 1)).flatMap factText)) := Lib.hid (by rw [HTK.out, ← HTJ.out]; rw [HTQ.out] at hbl6; simpa using hbl6)
            clear hbl6 hk6
            go_wp2
            go_roundw
            case rel => exact ⟨k + 1, by go_num, by omega, HA2, HL6⟩
            case measure => simp [intOf]; omega
    · obtain rfl : k = fs2.length := by omega
      have HEND : Hid (fmtT fs2 = fs2.flatMap factText) := Lib.hid (by have := HA.out; rw [List.take_length] at this; unfold fmtT; rw [if_pos this])
      have HLz := HL.out.bld
      rw [List.take_length] at HLz
      have HLY := Lib.hid HLz
      have hnw : w.heap.size ≤ wr.heap.size := by omega
      clear HLz
      go_wp2_with fail
      refine (bld_string _ _ _ _ HLY.out hnw).mono ?_
      rintro e w5 ⟨rfl, hb5⟩
      have HB5 := Lib.hid (HW.out.trans hb5)
      clear hb5
      go_wp2
      refine bodyPost_ret (v := .string ⟨(fs2.flatMap factText).toArray⟩) (by simp [results, Tryz.results10, go_sem]) rfl ?_
      exact ⟨fs2, by rw [HEND.out], HST.out, HME.out, HB5.out⟩
end Go.Proofs.YtmodjokoggmnaaaGreatDoor
