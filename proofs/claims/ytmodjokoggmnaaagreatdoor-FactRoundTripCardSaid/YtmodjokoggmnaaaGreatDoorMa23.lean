/-
  The parser of facts: arguments, whatever the tokens.
  Conditions: the tokens end with one of kind 0, and no other has that kind.
  The reference kit's CopyFacts: a copy of a list of facts, with their arguments.
  Conditions: at most 1000 facts of at most 1000 arguments.
  The parser of facts: the list of facts, whatever the tokens.
  Conditions: the tokens end with one of kind 0, and no other has that kind.
-/
import Derived.Test.YtmodjokoggmnaaaGreatDoorMa22
import Derived.Test.YtmodjokoggmnaaaGreatDoorMa21
import Derived.Test.YtmodjokoggmnaaaGreatDoorMa19
namespace Go.Proofs.YtmodjokoggmnaaaGreatDoor
open Go.RowKit Go.Shelf

theorem two0_ends (s s2 : List UInt8) {t : GTok} {ts : List GTok} (h : TEnds (t :: ts)) : TEnds (two0 s s2 (t :: ts)).2 ∧ (two0 s s2 (t :: ts)).2.length ≤ (t :: ts).length := by
  cases hm : tMark s t
  · have e : two0 s s2 (t :: ts) = (50, t :: ts) := by simp [two0, hm]
    rw [e]; exact ⟨h, Nat.le_refl _⟩
  · obtain ⟨_, u, r, rfl, hu⟩ := h.more (by have := (tMark_iff.1 hm).1; omega)
    cases hm2 : tMark s2 u
    · have e : two0 s s2 (t :: u :: r) = (50, u :: r) := by simp [two0, hm, hm2]
      rw [e]; exact ⟨hu, by simp⟩
    · have e : two0 s s2 (t :: u :: r) = (0, r) := by simp [two0, hm, hm2]
      rw [e]
      obtain ⟨_, v, q, rfl, hv⟩ := hu.more (by have := (tMark_iff.1 hm2).1; omega)
      exact ⟨hv, by simp⟩
theorem pNeg_cons (t : GTok) (ts : List GTok) : pNeg (t :: ts) = if t.kind ≠ 2 then (50, z0V, t :: ts) else if 9223372036854775808 < t.value then (6, z0V, t :: ts) else (0, ⟨1, -t.value, []⟩, ts) := rfl
theorem pArg_cons (room : Bool) (t : GTok) (ts : List GTok) : pArg room (t :: ts) = if errArg t ≠ 0 then (errArg t, z0V, t :: ts) else if room = false then (15, z0V, t :: ts) else if t.kind = 4 then pNeg ts else if t.kind = 2 then (0, ⟨1, t.value, []⟩, ts) else (0, ⟨2, 0, t.text⟩, ts) := rfl
theorem pNeg_ends {t : GTok} {ts : List GTok} (h : TEnds (t :: ts)) : TEnds (pNeg (t :: ts)).2.2 ∧ (pNeg (t :: ts)).2.2.length ≤ (t :: ts).length := by
  rw [pNeg_cons]
  by_cases h2 : t.kind = 2
  · rw [if_neg (by simp [h2])]
    split
    · exact ⟨h, Nat.le_refl _⟩
    · obtain ⟨_, u, r, rfl, hu⟩ := h.more (by omega)
      exact ⟨hu, by simp⟩
  · rw [if_pos h2]
    exact ⟨h, Nat.le_refl _⟩
theorem errArg_zero {t : GTok} (h : t.kind = 0) : errArg t = 50 := by
  unfold errArg
  rw [if_neg (by omega), if_neg (by omega), if_pos (.inr h)]
theorem pArg_ends (room : Bool) {t : GTok} {ts : List GTok} (h : TEnds (t :: ts)) : TEnds (pArg room (t :: ts)).2.2 ∧ (pArg room (t :: ts)).2.2.length ≤ (t :: ts).length ∧ ((pArg room (t :: ts)).1 = 0 → (pArg room (t :: ts)).2.2.length < (t :: ts).length ∧ room = true) := by
  rw [pArg_cons]
  by_cases he : errArg t = 0
  · rw [if_neg (by simp [he])]
    cases room
    · rw [if_pos rfl]
      exact ⟨h, Nat.le_refl _, fun e => by cases e⟩
    · rw [if_neg (by simp)]
      obtain ⟨_, u, r, rfl, hu⟩ := h.more (fun e => by rw [errArg_zero e] at he; cases he)
      split
      · obtain ⟨h1, h2⟩ := pNeg_ends hu
        exact ⟨h1, by simp at h2 ⊢; omega, fun _ => ⟨by simp at h2 ⊢; omega, rfl⟩⟩
      · split
        · exact ⟨hu, by simp, fun _ => ⟨by simp, rfl⟩⟩
        · exact ⟨hu, by simp, fun _ => ⟨by simp, rfl⟩⟩
  · rw [if_pos he]
    exact ⟨h, Nat.le_refl _, fun e => absurd e he⟩
theorem pArgs_step (n : Nat) (args : List GVal) {t : GTok} {ts : List GTok} (h : TEnds (t :: ts)) :
    pArgs (n + 1) args (t :: ts) = if (pArg (decide (args.length < 8)) (t :: ts)).1 ≠ 0 then ((pArg (decide (args.length < 8)) (t :: ts)).1, [], (pArg (decide (args.length < 8)) (t :: ts)).2.2) else
      match (pArg (decide (args.length < 8)) (t :: ts)).2.2 with
      | [] => (50, args ++ [(pArg (decide (args.length < 8)) (t :: ts)).2.1], [])
      | u :: ts2 => if tMark [44] u then pArgs n (args ++ [(pArg (decide (args.length < 8)) (t :: ts)).2.1]) ts2 else ((two0 [41] [46] (u :: ts2)).1, args ++ [(pArg (decide (args.length < 8)) (t :: ts)).2.1], (two0 [41] [46] (u :: ts2)).2) := by
  have hp := (pArg_ends (decide (args.length < 8)) h).1
  conv => lhs; unfold pArgs
  generalize pArg (decide (args.length < 8)) (t :: ts) = r at *
  obtain ⟨e, v, ts1⟩ := r
  simp only at *
  by_cases he : e = 0
  · rw [if_neg (by simp [he]), if_neg (by simp [he])]
    cases ts1 with
    | nil => rfl
    | cons u ts2 =>
      cases hm : tMark [44] u
      · cases h1 : tMark [41] u
        · simp [two0, h1]
        · obtain ⟨_, x, q, rfl, _⟩ := hp.more (by have := (tMark_iff.1 h1).1; omega)
          cases h2 : tMark [46] x <;> simp [two0, h1, h2]
      · simp [hm]
  · rw [if_pos he, if_pos he]
/-- How arguments ends. -/
def ArgsEnd (r : Int × List GVal × List GTok) (p : Nat) (w : World) (e : Ending) (w' : World) : Prop :=
  ∃ v, e = .returned (.tuple #[v, .int .i64 r.1]) ∧ OwnG GVal.cells 40 3 w' w.heap.size v r.2.1 ∧ PS w' p r.2.2 ∧ w.grownBy w' (some p)
/-- Where the loop stands: what is left of the tokens yields the end. -/
def ArgI (r : Int × List GVal × List GTok) (p : Nat) (w : World) (va vm : Value) (wr : World) : Prop :=
  ∃ args t ts, TEnds (t :: ts) ∧ OwnG GVal.cells 40 3 wr w.heap.size va args ∧ args.length ≤ 8 ∧ PS wr p (t :: ts) ∧ w.grownBy wr (some p) ∧
    ((vm = .bool true ∧ ∃ n, (t :: ts).length ≤ n ∧ pArgs n args (t :: ts) = r) ∨ (vm = .bool false ∧ r = ((two0 [41] [46] (t :: ts)).1, args, (two0 [41] [46] (t :: ts)).2)))
def ArgM (va vm : Value) : Nat := match va, vm with
  | .slice _ l _, .bool b => 2 * (8 - l) + (if b then 1 else 0)
  | _, _ => 0
set_option maxRecDepth 50000 in
set_option maxHeartbeats 1000000 in
theorem arguments_any (p : Nat) (t : GTok) (ts : List GTok) (w : World) (h : PS w p (t :: ts)) (he : TEnds (t :: ts)) :
    Calls Tryz.prog 53 #[.pointer (some ⟨p, 0, none⟩)] w (ArgsEnd (pArguments (t :: ts).length (t :: ts)) p w) := by
  have hpw := h.lt
  have HD : Hid (pArguments (t :: ts).length (t :: ts) = if tMark [40] t then pArgs (t :: ts).length [] ts else (50, [], t :: ts)) := Lib.hid rfl
  have HM := Lib.hid (mark1_any p [40] t ts w h he)
  have HE := Lib.hid he
  clear h he
  cases hm : tMark [40] t
  · rw [hm] at HD HM
    rw [if_neg (by simp)] at HD
    rw [if_neg (by simp), if_neg (by simp)] at HM
    rw [HD.out]
    clear hm HD
    go_enter Tryz.func53, Tryz.ntmps53
    go_wp2_with fail
    go_fit HM.out
    rintro e w1 ⟨rfl, hps1, hg1⟩
    have HP1 := Lib.hid hps1
    have HG1 := Lib.hid hg1
    clear hps1 hg1
    go_wp2
    go_ret2
    exact ⟨_, rfl, OwnG.nil _ _, HP1.out, HG1.out⟩
  rw [hm] at HD HM
  rw [if_pos rfl] at HD
  rw [if_pos rfl, if_pos rfl] at HM
  rw [HD.out]
  obtain ⟨_, t0, ts0, rfl, he0⟩ := HE.out.more (by have := (tMark_iff.1 hm).1; omega)
  generalize hr : pArgs (t :: t0 :: ts0).length [] (t0 :: ts0) = r at *
  have HR := Lib.hid hr
  have HE0 := Lib.hid he0
  clear hm HD HE he0 hr
  go_enter Tryz.func53, Tryz.ntmps53
  go_wp2_with fail
  go_fit HM.out
  rintro e w1 ⟨rfl, hps1, hg1⟩
  have HP1 := Lib.hid hps1
  have HG1 := Lib.hid hg1
  clear hps1 hg1 HM
  go_wp2
  go_loopw [5, 6] (fun va vm wr => ArgI r p w va vm wr) (fun va vm _ => ArgM va vm)
  case atStart => exact ⟨[], t0, ts0, HE0.out, OwnG.nil _ _, by simp, HP1.out, HG1.out, .inl ⟨rfl, _, by simp, HR.out⟩⟩
  case round =>
    obtain ⟨args, u, us, heu, hown, hl8, hps, hgb, hcase⟩ := hrel
    have HEU := Lib.hid heu
    have HO := Lib.hid hown
    have HPS := Lib.hid hps
    have HG := Lib.hid hgb
    have hgs := hgb.size
    obtain ⟨A, cap, rfl, hcap, hcm, hrow⟩ := hown.row GVal.len
    clear heu hown hps hgb hrow
    rcases hcase with ⟨rfl, n, hn, hr⟩ | ⟨rfl, hr⟩
    · obtain ⟨n, rfl⟩ : ∃ m, n = m + 1 := ⟨n - 1, by simp at hn; omega⟩
      rw [pArgs_step n args HEU.out] at hr
      have HPE := Lib.hid (pArg_ends (decide (args.length < 8)) HEU.out)
      have HARG := Lib.hid (argument_any p (decide (args.length < 8)) u us wr HPS.out HEU.out)
      generalize pArg (decide (args.length < 8)) (u :: us) = q at *
      obtain ⟨qe, ⟨vk, vi, vw⟩, qts⟩ := q
      unfold ValEnd at HARG
      simp only [GVal.val] at HARG HPE hr
      have HRR := Lib.hid hr
      have hd8 : decide ((args.length : Int) < 8) = decide (args.length < 8) := by congr 1; simp; omega
      clear hr
      by_cases hqe : qe = 0
      · have f1 : (qe != 0) = false := by simp [hqe]
        have hrm := (HPE.out.2.2 hqe).2
        have hlt8 : args.length < 8 := by simpa using hrm
        have HQ := Lib.hid hqe
        rw [hrm] at hd8 HARG
        have g8 : (args.length : Int) < 8 := by omega
        clear hqe hrm
        go_wp2_with fail
        go_fit HARG.out
        rintro e w2 ⟨rfl, hps1, hg1⟩
        have hown2 := ((HO.out.gb hpw hg1).alloc (.cells #[.int .i64 vk, .int .i64 vi, .string ⟨vw.toArray⟩] 40)).alloc (.cells #[.int .i64 vk, .int .i64 vi, .string ⟨vw.toArray⟩] 40)
        have hlit := GRow.lit GVal.len (w2.alloc (.cells #[.int .i64 vk, .int .i64 vi, .string ⟨vw.toArray⟩] 40)) 40 [(⟨vk, vi, vw⟩ : GVal)] #[.int .i64 vk, .int .i64 vi, .string ⟨vw.toArray⟩] rfl (by unfold maxLen; simp)
        have hs1 := hg1.size
        obtain ⟨v', w3, hrun, hown3, hgr3, _⟩ := OwnG.app elt_val GVal.len GVal.one hown2 1 hlit (by simp; omega) (by unfold maxLen; simp; omega) (by simp; omega)
        have hq : ∀ g, Value.ownBlock (.slice A args.length cap) = some g → w.heap.size ≤ g := fun g hg => (HO.out.lt g hg).1
        have HG3 := Lib.hid (gb_own (gb_trans HG.out (gb_lit (gb_lit hg1 _) _)) hgr3 hq)
        have HP3 := Lib.hid (((hps1.lit _).lit _).own hgr3 (fun g hg => by have := hq g hg; omega))
        obtain ⟨A3, cap3, rfl, _, _, _⟩ := hown3.row GVal.len
        have HO3 := Lib.hid hown3
        have hl3 : (args ++ [(⟨vk, vi, vw⟩ : GVal)]).length = args.length + 1 := by simp
        rw [hl3] at hrun
        have HRUN := Lib.hid hrun
        have HL3 := Lib.hid hl3
        clear hps1 hg1 hown2 hlit hrun hown3 hgr3 hq
        have eN : (w2.alloc (.cells #[.int .i64 vk, .int .i64 vi, .string ⟨vw.toArray⟩] 40)).heap.size = w2.heap.size + 1 := by simp
        rw [eN] at HRUN
        simp only [List.length_singleton] at HRUN
        rw [hl3] at HO3
        clear eN hl3
        have hends := HPE.out.1
        cases qts with
        | nil => exact hends.elim
        | cons x xs =>
        have HEX := Lib.hid hends
        have hlen := (HPE.out.2.2 HQ.out).1
        have hr2 := HRR.out
        rw [if_neg (by simp [HQ.out])] at hr2
        simp only at hr2
        have HMK := Lib.hid (mark1_any p [44] x xs w3 HP3.out hends)
        clear hends HARG
        go_wp2_with (at_builtin; refine wpList_gapp HRUN.out rfl rfl rfl rfl rfl ?_)
        cases hm : tMark [44] x
        · rw [hm, if_neg (by simp)] at hr2
          rw [hm, if_neg (by simp), if_neg (by simp)] at HMK
          have HR2 := Lib.hid hr2
          clear hr2 hm
          go_wp2_with fail
          go_fit HMK.out
          rintro e w4 ⟨rfl, hps4, hg4⟩
          have HO4 := Lib.hid (HO3.out.gb hpw hg4)
          have HP4 := Lib.hid hps4
          have HG4 := Lib.hid (gb_trans HG3.out hg4)
          clear hps4 hg4
          go_wp2
          go_roundw
          case rel => exact ⟨_, x, xs, HEX.out, HO4.out, by rw [HL3.out]; omega, HP4.out, HG4.out, .inr ⟨rfl, HR2.out.symm⟩⟩
          case measure => simp [ArgM]; omega
        · rw [hm, if_pos rfl] at hr2
          rw [hm, if_pos rfl, if_pos rfl] at HMK
          obtain ⟨_, y, ys, rfl, hey⟩ := HEX.out.more (by have := (tMark_iff.1 hm).1; omega)
          have HR2 := Lib.hid hr2
          have HEY := Lib.hid hey
          clear hr2 hm hey
          go_wp2_with fail
          go_fit HMK.out
          rintro e w4 ⟨rfl, hps4, hg4⟩
          have HO4 := Lib.hid (HO3.out.gb hpw hg4)
          have HP4 := Lib.hid hps4
          have HG4 := Lib.hid (gb_trans HG3.out hg4)
          clear hps4 hg4
          go_wp2
          go_roundw
          case rel => exact ⟨_, y, ys, HEY.out, HO4.out, by rw [HL3.out]; omega, HP4.out, HG4.out, .inl ⟨rfl, n, by simp at hlen hn ⊢; omega, HR2.out⟩⟩
          case measure => simp [ArgM]; omega
      · have f1 : (qe != 0) = true := by simp [hqe]
        have hr2 := HRR.out
        rw [if_pos hqe] at hr2
        have HR2 := Lib.hid hr2
        clear hr2 hqe HRR
        have hdd : decide ((args.length : Int) < 8) = decide (args.length < 8) := hd8
        generalize decide (args.length < 8) = room at *
        clear hd8
        go_wp2_with fail
        go_fit HARG.out
        rintro e w2 ⟨rfl, hps1, hg1⟩
        have HP1 := Lib.hid (hps1.lit (.cells #[.int .i64 vk, .int .i64 vi, .string ⟨vw.toArray⟩] 40))
        have HG1 := Lib.hid (gb_trans HG.out (gb_lit hg1 (.cells #[.int .i64 vk, .int .i64 vi, .string ⟨vw.toArray⟩] 40)))
        clear hps1 hg1
        go_wp2
        go_ret2
        rw [← HR2.out]
        exact ⟨_, rfl, OwnG.nil _ _, HP1.out, HG1.out⟩
    · have HR2 := Lib.hid hr
      have HMK := Lib.hid (mark2_any p [41] [46] u us wr HPS.out HEU.out)
      clear hr
      go_wp2_with fail
      go_fit HMK.out
      rintro e w4 ⟨rfl, hps4, hg4⟩
      have HO4 := Lib.hid (HO.out.gb hpw hg4)
      have HP4 := Lib.hid hps4
      have HG4 := Lib.hid (gb_trans HG.out hg4)
      clear hps4 hg4
      go_wp2
      go_ret2
      rw [HR2.out]
      exact ⟨_, rfl, HO4.out, HP4.out, HG4.out⟩
end Go.Proofs.YtmodjokoggmnaaaGreatDoor


namespace Go.Proofs.YtmodjokoggmnaaaGreatDoor

open Go.RowKit Go.Shelf

theorem GRow.keep1 {α : Type} {enc : α → List Value} {k : Nat} {w w' : World} {B B' : Nat} {A : Option Addr} {xs : List α} (h : GRow enc k w B A xs) (hB : B ≤ B') (hb : 0 < xs.length → ∀ b off, A = some ⟨b, off, none⟩ → b < B → w'.heap[b]? = w.heap[b]?) : GRow enc k w' B' A xs := fun hn => by
  obtain ⟨b, off, e, hlt, hc⟩ := h hn
  exact ⟨b, off, e, by omega, fun i hi j u hu => (World.cell?_of_block (a := ⟨b, off + (i * k + j), none⟩) (hb hn b off e hlt)).trans (hc i hi j u hu)⟩
/-- No argument of f lies in the block o. -/
def Apart (o : Option Nat) (s : SFact) (f : GFact) : Prop := 0 < f.args.length → ∀ b off, s.A = some ⟨b, off, none⟩ → o ≠ some b
/-- The copy so far: what it holds, and that no argument lies in the copy's own block. -/
structure CopyI (w wr : World) (vl : Value) (ss : List SFact) (fs : List GFact) : Prop where
  own : OwnG SFact.cells 37 2 wr w.heap.size vl ss
  len : ss.length = fs.length
  each : ∀ i (h1 : i < ss.length) (h2 : i < fs.length), FHold wr wr.heap.size ss[i] fs[i] ∧ Apart vl.ownBlock ss[i] fs[i]
theorem CopyI.nil (w : World) : CopyI w w (.slice none 0 0) [] [] := ⟨OwnG.nil _ _, rfl, fun i h1 => by simp at h1⟩
theorem CopyI.step {w wr W u : World} {vl v : Value} {ss : List SFact} {fs : List GFact} {s : SFact} {f : GFact} (h : CopyI w wr vl ss fs) (hbel : Below wr.heap.size wr W) (hg : W.grownBy u vl.ownBlock) (hown : OwnG SFact.cells 37 2 u w.heap.size v (ss ++ [s]))
    (hob : v.ownBlock = vl.ownBlock ∨ v.ownBlock = some W.heap.size) (hs : FHold W W.heap.size s f) (hne : Apart vl.ownBlock s f) :
    CopyI w u v (ss ++ [s]) (fs ++ [f]) := by
  have key : ∀ (t : SFact) (g : GFact), FHold W W.heap.size t g → Apart vl.ownBlock t g → FHold u u.heap.size t g ∧ Apart v.ownBlock t g := fun t g ht hn => by
    refine ⟨⟨ht.rel, ht.n, ht.row.keep1 hg.size fun h0 b off e hb => hg.block b hb (fun e2 => hn h0 b off e e2.symm), ht.few⟩, fun h0 b off e => ?_⟩
    rcases hob with q | q
    · rw [q]; exact hn h0 b off e
    · rw [q]
      intro e2
      obtain ⟨b', off', e', hlt, _⟩ := ht.row h0
      rw [e] at e'
      cases e'
      injection e2 with e3
      omega
  refine ⟨hown, by simp [h.len], fun i h1 h2 => ?_⟩
  have hl := h.len
  rcases Nat.lt_or_ge i ss.length with hi | hi
  · rw [List.getElem_append_left hi, List.getElem_append_left (by omega)]
    have := h.each i hi (by omega)
    exact key _ _ (this.1.next (Nat.le_refl _) hbel) this.2
  · have e : i = ss.length := by simp at h1; omega
    subst e
    have e2 : fs.length ≤ ss.length := by omega
    rw [List.getElem_append_right (Nat.le_refl _), List.getElem_append_right e2]
    simp
    exact key _ _ hs hne
theorem facts_take {fs : List GFact} {k : Nat} (h : k < fs.length) : fs.take (k + 1) = fs.take k ++ [fs[k]] := List.take_succ_eq_append_getElem h
def CopyFEnd (fs : List GFact) (w : World) (e : Ending) (w' : World) : Prop :=
  ∃ A, ∃ c : Nat, ∃ ss : List SFact, e = .returned (.slice A fs.length c) ∧ SetV w' (.slice A fs.length c) ss fs ∧ fs.length ≤ c ∧ c ≤ maxLen ∧ (A = none → c = 0) ∧ Below w.heap.size w w'
theorem copyFacts_end {w wr : World} {vl : Value} {ss : List SFact} {fs : List GFact} (h : CopyI w wr vl ss fs) (hb : Below w.heap.size w wr) : CopyFEnd fs w (.returned vl) wr := by
  obtain ⟨A, c, e, h1, h2, h3⟩ := h.own.row SFact.len
  rw [h.len] at e h1
  have hn : A = none → c = 0 := fun hA => by
    rcases h.own.2 with ⟨hv, h0⟩ | ⟨g, cap, cur, hv, _⟩
    · rw [e] at hv; injection hv
    · rw [e, hA] at hv; cases hv
  have hr := h.own.rowV
  rw [e] at hr
  exact ⟨A, c, ss, by rw [e], ⟨hr, h.len, fun i a b => (h.each i a b).1⟩, h1, h2, hn, hb⟩
set_option maxRecDepth 50000 in
set_option maxHeartbeats 1000000 in
theorem copyFacts_any (A : Option Addr) (c : Nat) (ss : List SFact) (fs : List GFact) (w : World) (hA : FRow w w.heap.size A ss fs) (hn : fs.length ≤ 1000) (ha : ∀ f ∈ fs, f.args.length ≤ 1000) :
    Calls Tryz.prog 11 #[.slice A fs.length c] w (CopyFEnd fs w) := by
  have HA := Lib.hid hA
  have HAR := Lib.hid ha
  have hlen := hA.len
  clear hA ha
  go_enter Tryz.func11, Tryz.ntmps11
  go_wp2
  go_loopw [3, 4] (fun vl vi wr => ∃ k : Nat, vi = .int .i64 k ∧ k ≤ fs.length ∧ (∃ ss', Hid (CopyI w wr vl ss' (fs.take k))) ∧ Hid (Below w.heap.size w wr)) (fun _ vi _ => fs.length - (intOf vi).toNat)
  case atStart => exact ⟨0, rfl, Nat.zero_le _, ⟨[], Lib.hid (CopyI.nil _)⟩, Lib.hid (Below.refl _ _)⟩
  case round =>
    obtain ⟨k, rfl, hk, ⟨ss', HI⟩, HW⟩ := hrel
    obtain ⟨Al, cl, rfl, hll, hml, _⟩ := HI.out.own.row SFact.len
    rcases Nat.lt_or_ge k fs.length with hlt | hge
    · have hls : k < ss.length := by omega
      obtain ⟨b1, o1, rfl, hb1, x0, x1⟩ := (HA.out.row.below (Nat.le_refl _) HW.out).fact2 hls
      have hsz := HW.out.size
      have hl1 : b1 < wr.heap.size := by omega
      have hold := (HA.out.each k hls hlt).next (Nat.le_refl _) HW.out
      have har := HAR.out fs[k] (List.getElem_mem hlt)
      have HTK := Lib.hid (facts_take hlt)
      have hl' : ss'.length ≤ 1000 := by have := HI.out.len; rw [List.length_take] at this; omega
      generalize fs[k] = f at *
      generalize ss[k] = y at *
      obtain ⟨yr, yA, yn, yc⟩ := y
      obtain ⟨r, vs⟩ := f
      have e1 := hold.rel
      have e2 := hold.n
      have hrow := hold.row
      simp only at e1 e2 hrow har x0 x1
      subst e1 e2
      have hbd : Below wr.heap.size wr wr.drew := (Below.refl _ _).drew
      obtain ⟨v3, w3, hrun3, hown3, hgr3, hbk3⟩ := OwnG.app elt_val GVal.len GVal.one (OwnG.nil wr.drew wr.heap.size) yc (hrow.below (Nat.le_refl _) hbd) (by have := hbd.size; omega) (by unfold maxLen; simp; omega) (by simp; omega)
      rw [List.nil_append] at hown3
      obtain ⟨A3, c3, rfl, hc3, hm3, hr3⟩ := hown3.row GVal.len
      have hb3 : Below wr.heap.size wr w3 := hbd.grown hgr3 (by have := hbd.size; omega) (fun g hg => by simp [Value.ownBlock] at hg)
      have hb4 := bel_lit hb3 (.cells #[.string ⟨yr.toArray⟩, .slice A3 vs.length c3] 37)
      have hs3 := hb3.size
      obtain ⟨v5, w5, hrun5, hown5, hgr5, hbk5⟩ := OwnG.app elt_fact SFact.len SFact.one ((HI.out.own.next hb3).alloc (.cells #[.string ⟨yr.toArray⟩, .slice A3 vs.length c3] 37)) 1 (GRow.lit SFact.len w3 37 [⟨yr, A3, vs.length, c3⟩] _ rfl (by unfold maxLen; simp)) (by have h2 := HW.out.size; simp; omega) (by unfold maxLen; simp; omega) (by simp; omega)
      have hap : Apart (Value.slice Al ss'.length cl).ownBlock ⟨yr, A3, vs.length, c3⟩ ⟨yr, vs⟩ := fun h0 b off e e2 => by
        have h1 := HI.out.own.lt _ e2
        rcases hown3.2 with ⟨hv, h00⟩ | ⟨g, cap, cur, hv, hbs, _⟩
        · simp at h0; omega
        · simp only at e
          rw [e] at hv
          cases hv
          omega
      have HI5 := Lib.hid (HI.out.step hb4 hgr5 hown5 hbk5 ⟨rfl, rfl, (hr3.next (bel_lit (Below.refl w3.heap.size w3) _)), by simp; omega⟩ hap)
      rw [← HTK.out] at HI5
      obtain ⟨A5, c5, rfl, _, _, _⟩ := hown5.row SFact.len
      have hb5 : Below wr.heap.size wr w5 → Below w.heap.size w w5 := fun h => bel_next HW.out h
      have HB5 : Hid (Below w.heap.size w w5) := Lib.hid ((bel_next HW.out hb4).grown hgr5 (by have := HW.out.size; simp; omega) (fun g hg => (HI.out.own.lt g hg).1))
      have HR3 := Lib.hid hrun3
      have HR5 := Lib.hid hrun5
      simp only [List.length_cons, List.length_nil, List.length_append, Nat.zero_add] at HR5 HR3
      have HS : Hid (∀ W : World, Below w.heap.size w W → wr.cell? ⟨b1, o1 + k * 2, none⟩ = W.cell? ⟨b1, o1 + k * 2, none⟩ ∧ wr.cell? ⟨b1, o1 + k * 2 + 1, none⟩ = W.cell? ⟨b1, o1 + k * 2 + 1, none⟩) := Lib.hid fun W hb => ⟨(HW.out.cell (p := ⟨b1, o1 + k * 2, none⟩) hb1).trans (hb.cell (p := ⟨b1, o1 + k * 2, none⟩) hb1).symm, (HW.out.cell (p := ⟨b1, o1 + k * 2 + 1, none⟩) hb1).trans (hb.cell (p := ⟨b1, o1 + k * 2 + 1, none⟩) hb1).symm⟩
      have mk : ∀ W : World, Below w.heap.size w W → (W.cell? ⟨b1, o1 + k * 2, none⟩ = some (.string ⟨yr.toArray⟩) ∧ W.cell? ⟨b1, o1 + k * 2 + 1, none⟩ = some (.slice yA vs.length yc)) := fun W hb => ⟨(HS.out W hb).1.symm.trans x0, (HS.out W hb).2.symm.trans x1⟩
      have hS0 := mk _ (bel_next HW.out hbd)
      have hS3 := mk _ (bel_next HW.out hb3)
      have hS4 := mk _ (bel_next HW.out hb4)
      have hS5 := mk _ HB5.out
      have HBS := Lib.hid hb1
      clear mk hb3 hb4 hbd hb5 hap hrun3 hrun5 hown3 hown5 hgr3 hgr5 hbk3 hbk5 hr3 x0 x1 hold hrow
      go_upto_region 5 with fail
      go_region_held3 (fun W => W.cell? ⟨b1, o1 + k * 2, none⟩ = some (.string ⟨yr.toArray⟩) ∧ W.cell? ⟨b1, o1 + k * 2 + 1, none⟩ = some (.slice yA vs.length yc))
        (assumption)
        (first | (refine step_gapp HR3.out rfl rfl rfl rfl rfl ?_) | (refine step_gapp HR5.out rfl rfl rfl rfl rfl ?_))
      go_wp2
      go_roundw
      case rel => exact ⟨k + 1, by go_num, by omega, ⟨_, by simpa using HI5⟩, HB5⟩
      case measure => simp [intOf]; omega
    · have HE := Lib.hid (copyFacts_end HI.out HW.out)
      rw [List.take_of_length_le hge] at HE
      go_wp2
      go_ret
      exact HE.out
end Go.Proofs.YtmodjokoggmnaaaGreatDoor


namespace Go.Proofs.YtmodjokoggmnaaaGreatDoor
open Go.RowKit Go.Shelf

theorem pRel_cons (room : Bool) (t : GTok) (ts : List GTok) : pRel room (t :: ts) = if t.kind ≠ 1 then (50, [], t :: ts) else if sizedP t.text = false then (63, [], t :: ts) else if room = false then (15, [], t :: ts) else (0, t.text, ts) := rfl
theorem pRel_ends (room : Bool) {t : GTok} {ts : List GTok} (h : TEnds (t :: ts)) : TEnds (pRel room (t :: ts)).2.2 ∧ ((pRel room (t :: ts)).1 = 0 → (pRel room (t :: ts)).2.2.length < (t :: ts).length ∧ room = true) := by
  rw [pRel_cons]
  by_cases h1 : t.kind = 1
  · rw [if_neg (by simp [h1])]
    split
    · exact ⟨h, fun e => by cases e⟩
    · cases room
      · rw [if_pos rfl]
        exact ⟨h, fun e => by cases e⟩
      · rw [if_neg (by simp)]
        obtain ⟨_, u, r, rfl, hu⟩ := h.more (by omega)
        exact ⟨hu, fun _ => ⟨by simp, rfl⟩⟩
  · rw [if_pos h1]
    exact ⟨h, fun e => by cases e⟩
theorem pArgs_ends : ∀ (n : Nat) (args : List GVal) (ts : List GTok), TEnds ts → ts.length ≤ n → args.length ≤ 8 → TEnds (pArgs n args ts).2.2 ∧ (pArgs n args ts).2.2.length ≤ ts.length ∧ (pArgs n args ts).2.1.length ≤ 8
  | _, _, [], h, _, _ => h.elim
  | 0, _, t :: ts, _, hn, _ => by simp at hn
  | n + 1, args, t :: ts, h, hn, ha => by
    rw [pArgs_step n args h]
    obtain ⟨h1, h2, h3⟩ := pArg_ends (decide (args.length < 8)) h
    generalize pArg (decide (args.length < 8)) (t :: ts) = q at *
    obtain ⟨e, v, qs⟩ := q
    simp only at *
    by_cases he : e = 0
    · rw [if_neg (by simp [he])]
      obtain ⟨h4, h5⟩ := h3 he
      have h6 : args.length < 8 := by simpa using h5
      cases qs with
      | nil => exact h1.elim
      | cons x xs =>
        simp only
        cases hm : tMark [44] x
        · rw [if_neg (by simp)]
          obtain ⟨h7, h8⟩ := two0_ends [41] [46] h1
          exact ⟨h7, by simp at h8 h4 ⊢; omega, by simp; omega⟩
        · rw [if_pos rfl]
          obtain ⟨_, y, ys, rfl, hy⟩ := h1.more (by have := (tMark_iff.1 hm).1; omega)
          obtain ⟨i1, i2, i3⟩ := pArgs_ends n (args ++ [v]) (y :: ys) hy (by simp at h4 hn ⊢; omega) (by simp; omega)
          exact ⟨i1, by simp at i2 h4 ⊢; omega, i3⟩
    · rw [if_pos he]
      exact ⟨h1, h2, by simp⟩
theorem pArguments_ends {t : GTok} {ts : List GTok} (h : TEnds (t :: ts)) : TEnds (pArguments (t :: ts).length (t :: ts)).2.2 ∧ (pArguments (t :: ts).length (t :: ts)).2.2.length ≤ (t :: ts).length ∧ (pArguments (t :: ts).length (t :: ts)).2.1.length ≤ 8 := by
  have e : pArguments (t :: ts).length (t :: ts) = if tMark [40] t then pArgs (t :: ts).length [] ts else (50, [], t :: ts) := rfl
  rw [e]
  cases hm : tMark [40] t
  · rw [if_neg (by simp)]
    exact ⟨h, Nat.le_refl _, by simp⟩
  · rw [if_pos rfl]
    obtain ⟨_, y, ys, rfl, hy⟩ := h.more (by have := (tMark_iff.1 hm).1; omega)
    obtain ⟨i1, i2, i3⟩ := pArgs_ends (t :: y :: ys).length [] (y :: ys) hy (by simp) (by simp)
    exact ⟨i1, by simp at i2 ⊢; omega, i3⟩
theorem pFacts_step (n : Nat) (l : List GFact) (t : GTok) (r : List GTok) :
    pFacts (n + 1) l (t :: r) = if t.kind = 0 then (0, l, t :: r) else
      if (pRel (decide (l.length < 8192)) (t :: r)).1 ≠ 0 then ((pRel (decide (l.length < 8192)) (t :: r)).1, [], (pRel (decide (l.length < 8192)) (t :: r)).2.2) else
      if (pArguments (pRel (decide (l.length < 8192)) (t :: r)).2.2.length (pRel (decide (l.length < 8192)) (t :: r)).2.2).1 ≠ 0 then ((pArguments (pRel (decide (l.length < 8192)) (t :: r)).2.2.length (pRel (decide (l.length < 8192)) (t :: r)).2.2).1, [], (pArguments (pRel (decide (l.length < 8192)) (t :: r)).2.2.length (pRel (decide (l.length < 8192)) (t :: r)).2.2).2.2)
      else pFacts n (l ++ [⟨(pRel (decide (l.length < 8192)) (t :: r)).2.1, (pArguments (pRel (decide (l.length < 8192)) (t :: r)).2.2.length (pRel (decide (l.length < 8192)) (t :: r)).2.2).2.1⟩]) (pArguments (pRel (decide (l.length < 8192)) (t :: r)).2.2.length (pRel (decide (l.length < 8192)) (t :: r)).2.2).2.2 := by
  conv => lhs; unfold pFacts
/-- The list so far: what it holds, and that no argument lies in the list's own block, nor in the parser. -/
structure ListI (w wr : World) (p : Nat) (vl : Value) (ss : List SFact) (fs : List GFact) : Prop where
  own : OwnG SFact.cells 37 2 wr w.heap.size vl ss
  len : ss.length = fs.length
  each : ∀ i (h1 : i < ss.length) (h2 : i < fs.length), FHold wr wr.heap.size ss[i] fs[i] ∧ Apart vl.ownBlock ss[i] fs[i] ∧ Apart (some p) ss[i] fs[i]
theorem ListI.nil (w wr : World) (p : Nat) : ListI w wr p (.slice none 0 0) [] [] := ⟨OwnG.nil _ _, rfl, fun i h1 => by simp at h1⟩
theorem FHold.gb {w w' : World} {p : Nat} {s : SFact} {f : GFact} (h : FHold w w.heap.size s f) (ha : Apart (some p) s f) (hg : w.grownBy w' (some p)) : FHold w' w'.heap.size s f :=
  ⟨h.rel, h.n, h.row.keep1 hg.size fun h0 b off e hb => hg.block b hb (fun e2 => ha h0 b off e e2.symm), h.few⟩
theorem ListI.gb {w wr wr' : World} {p : Nat} {vl : Value} {ss : List SFact} {fs : List GFact} (h : ListI w wr p vl ss fs) (hp : p < w.heap.size) (hg : wr.grownBy wr' (some p)) : ListI w wr' p vl ss fs :=
  ⟨h.own.gb hp hg, h.len, fun i h1 h2 => by
    obtain ⟨a, b, c⟩ := h.each i h1 h2
    exact ⟨a.gb c hg, b, c⟩⟩
theorem ListI.step {w wr W u : World} {p : Nat} {vl v : Value} {ss : List SFact} {fs : List GFact} {s : SFact} {f : GFact} (h : ListI w wr p vl ss fs) (hbel : Below wr.heap.size wr W) (hg : W.grownBy u vl.ownBlock) (hown : OwnG SFact.cells 37 2 u w.heap.size v (ss ++ [s]))
    (hob : v.ownBlock = vl.ownBlock ∨ v.ownBlock = some W.heap.size) (hs : FHold W W.heap.size s f) (hne : Apart vl.ownBlock s f) (hnp : Apart (some p) s f) :
    ListI w u p v (ss ++ [s]) (fs ++ [f]) := by
  have key : ∀ (t : SFact) (g : GFact), FHold W W.heap.size t g → Apart vl.ownBlock t g → FHold u u.heap.size t g ∧ Apart v.ownBlock t g := fun t g ht hn => by
    refine ⟨⟨ht.rel, ht.n, ht.row.keep1 hg.size fun h0 b off e hb => hg.block b hb (fun e2 => hn h0 b off e e2.symm), ht.few⟩, fun h0 b off e => ?_⟩
    rcases hob with q | q
    · rw [q]; exact hn h0 b off e
    · rw [q]
      intro e2
      obtain ⟨b', off', e', hlt, _⟩ := ht.row h0
      rw [e] at e'
      cases e'
      injection e2 with e3
      omega
  refine ⟨hown, by simp [h.len], fun i h1 h2 => ?_⟩
  have hl := h.len
  rcases Nat.lt_or_ge i ss.length with hi | hi
  · rw [List.getElem_append_left hi, List.getElem_append_left (by omega)]
    have := h.each i hi (by omega)
    obtain ⟨k1, k2⟩ := key _ _ (this.1.next (Nat.le_refl _) hbel) this.2.1
    exact ⟨k1, k2, this.2.2⟩
  · have e : i = ss.length := by simp at h1; omega
    subst e
    have e2 : fs.length ≤ ss.length := by omega
    rw [List.getElem_append_right (Nat.le_refl _), List.getElem_append_right e2]
    simp
    obtain ⟨k1, k2⟩ := key _ _ hs hne
    exact ⟨k1, k2, hnp⟩
theorem ListI.setV {w wr : World} {p : Nat} {vl : Value} {ss : List SFact} {fs : List GFact} (h : ListI w wr p vl ss fs) : SetV wr vl ss fs := ⟨h.own.rowV, h.len, fun i h1 h2 => (h.each i h1 h2).1⟩
/-- How facts ends. -/
def FactsE2 (r : Int × List GFact × List GTok) (p : Nat) (w : World) (e : Ending) (w' : World) : Prop :=
  ∃ v ss, e = .returned (.tuple #[v, .int .i64 r.1]) ∧ SetV w' v ss r.2.1 ∧ r.2.1.length ≤ 8192 ∧ (∀ f ∈ r.2.1, f.args.length ≤ 8) ∧ TEnds r.2.2 ∧ PS w' p r.2.2 ∧ w.grownBy w' (some p)
def FactsI (r : Int × List GFact × List GTok) (p : Nat) (w : World) (vl : Value) (wr : World) : Prop :=
  ∃ fs ss t ts n, TEnds (t :: ts) ∧ ListI w wr p vl ss fs ∧ fs.length ≤ 8192 ∧ (∀ f ∈ fs, f.args.length ≤ 8) ∧ PS wr p (t :: ts) ∧ w.grownBy wr (some p) ∧ (t :: ts).length ≤ n ∧ pFacts n fs (t :: ts) = r
def FactsM (vl : Value) : Nat := match vl with
  | .slice _ l _ => 8193 - l
  | _ => 0
set_option maxRecDepth 50000 in
set_option maxHeartbeats 1000000 in
theorem facts_all (p : Nat) (t : GTok) (ts : List GTok) (w : World) (h : PS w p (t :: ts)) (he : TEnds (t :: ts)) :
    Calls Tryz.prog 22 #[.pointer (some ⟨p, 0, none⟩)] w (FactsE2 (pFacts (t :: ts).length [] (t :: ts)) p w) := by
  have hpw := h.lt
  have H0 := Lib.hid h
  have HE0 := Lib.hid he
  generalize hr : pFacts (t :: ts).length [] (t :: ts) = r
  have HR := Lib.hid hr
  clear h he hr
  go_enter Tryz.func22, Tryz.ntmps22
  go_wp2
  go_loopw [4] (fun vl wr => FactsI r p w vl wr) (fun vl _ => FactsM vl)
  case atStart => exact ⟨[], [], t, ts, _, HE0.out, ListI.nil _ _ _, by simp, fun f hf => by simp at hf, H0.out, gb_refl _, Nat.le_refl _, HR.out⟩
  case round =>
    obtain ⟨fs, ss, u, us, n, heu, hli, hfl, hfa, hps, hgb, hn, hpf⟩ := hrel
    have HEU := Lib.hid heu
    have HLI := Lib.hid hli
    have HFA := Lib.hid hfa
    have HPS := Lib.hid hps
    have HG := Lib.hid hgb
    have hgs := hgb.size
    have HSSL := Lib.hid hli.len
    have hsl : ss.length ≤ 8192 := by have := hli.len; omega
    obtain ⟨A, cap, rfl, _, _, _⟩ := hli.own.row SFact.len
    obtain ⟨n, rfl⟩ : ∃ m, n = m + 1 := ⟨n - 1, by simp at hn; omega⟩
    rw [pFacts_step] at hpf
    have HRE := Lib.hid (pRel_ends (decide (fs.length < 8192)) heu)
    have HREL := Lib.hid (relationG_any p (decide (fs.length < 8192)) u us wr hps heu)
    obtain ⟨b, off, cp, hbp, _, hc1, hc2, hh, hcp, hfz, hrr, x0, x1, x2, x3, x4⟩ := hps.open
    have hbw : b < wr.heap.size := by omega
    clear heu hli hfa hps hgb hh hrr
    by_cases hk : u.kind = 0
    · rw [if_pos hk] at hpf
      have HPF := Lib.hid hpf
      rw [hk] at x0
      have fk : ((0 : Int) != 0) = false := by decide
      clear hpf hk HREL HRE
      go_wp2
      go_ret2
      rw [← HPF.out]
      exact ⟨_, ss, rfl, HLI.out.setV, hfl, HFA.out, HEU.out, HPS.out, HG.out⟩
    · rw [if_neg hk] at hpf
      have fk : (u.kind != 0) = true := by simp [hk]
      have hd8 : decide ((ss.length : Int) < 8192) = decide (fs.length < 8192) := by rw [HSSL.out]; congr 1; simp; omega
      generalize pRel (decide (fs.length < 8192)) (u :: us) = q at *
      obtain ⟨qe, qr, qts⟩ := q
      unfold RelEnd at HREL
      simp only at HREL HRE hpf
      have HPF := Lib.hid hpf
      clear hpf
      by_cases hqe : qe = 0
      · obtain ⟨hlen, hrm⟩ := HRE.out.2 hqe
        have hlt : fs.length < 8192 := by simpa using hrm
        have hends := HRE.out.1
        have hpf := HPF.out
        rw [if_neg (by simp [hqe])] at hpf
        subst hqe
        rw [hrm] at hd8 HREL
        have g8 : (ss.length : Int) < 8192 := by have := HSSL.out; omega
        cases qts with
        | nil => exact hends.elim
        | cons x xs =>
        have HARG := Lib.hid fun W (hW : PS W p (x :: xs)) => arguments_any p x xs W hW hends
        have HAE := Lib.hid (pArguments_ends hends)
        generalize pArguments (x :: xs).length (x :: xs) = a at *
        obtain ⟨ae, avs, ats⟩ := a
        unfold ArgsEnd at HARG
        simp only at HARG HAE hpf
        have HPF2 := Lib.hid hpf
        clear hpf hends HPF hrm hk
        go_wp2_with fail
        go_fit HREL.out
        rintro e w1 ⟨rfl, hps1, hg1⟩
        have HP1 := Lib.hid hps1
        have HG1 := Lib.hid (gb_trans HG.out hg1)
        have HL1 := Lib.hid (HLI.out.gb hpw hg1)
        have hs1 := hg1.size
        clear hps1 hg1 HREL
        go_wp2_with fail
        go_fit (HARG.out _ HP1.out)
        rintro e w2 ⟨va, rfl, hva, hps2, hg2⟩
        have HG2 := Lib.hid (gb_trans HG1.out hg2)
        have HL2 := Lib.hid (HL1.out.gb hpw hg2)
        obtain ⟨Av, cv, rfl, _, _, hrv⟩ := hva.row GVal.len
        have hs2 := hg2.size
        have hal := HAE.out.2.2
        by_cases hae : ae = 0
        · subst hae
          have hpf := HPF2.out
          rw [if_neg (by simp)] at hpf
          have hlit := GRow.lit SFact.len w2 37 [⟨qr, Av, avs.length, cv⟩] #[.string ⟨qr.toArray⟩, .slice Av avs.length cv] rfl (by unfold maxLen; simp)
          obtain ⟨v', w3, hrun, hown3, hgr3, hob⟩ := OwnG.app elt_fact SFact.len SFact.one (HL2.out.own.alloc (.cells #[.string ⟨qr.toArray⟩, .slice Av avs.length cv] 37)) 1 hlit (by simp; omega) (by unfold maxLen; simp; omega) (by simp; omega)
          have hap : ∀ o : Option Nat, (∀ g, o = some g → g < w1.heap.size) → Apart o ⟨qr, Av, avs.length, cv⟩ ⟨qr, avs⟩ := fun o ho h0 b off e e2 => by
            have h1 := ho _ e2
            rcases hva.2 with ⟨hv, h00⟩ | ⟨g, cap, cur, hv, hbs, _⟩
            · simp at h0; omega
            · simp only at e
              rw [e] at hv
              cases hv
              omega
          have HL3 := Lib.hid (HL2.out.step (s := ⟨qr, Av, avs.length, cv⟩) (f := ⟨qr, avs⟩) (bel_lit (Below.refl _ w2) _) hgr3 hown3 hob ⟨rfl, rfl, hrv.next (bel_lit (Below.refl w2.heap.size w2) _), by simp; omega⟩ (hap _ fun g hg => (HL1.out.own.lt g hg).2) (hap _ fun g hg => by cases hg; omega))
          have hq : ∀ g, Value.ownBlock (.slice A ss.length cap) = some g → w.heap.size ≤ g := fun g hg => (HLI.out.own.lt g hg).1
          have HG3 := Lib.hid (gb_own (gb_lit HG2.out (.cells #[.string ⟨qr.toArray⟩, .slice Av avs.length cv] 37)) hgr3 hq)
          have HP3 := Lib.hid ((hps2.lit (.cells #[.string ⟨qr.toArray⟩, .slice Av avs.length cv] 37)).own hgr3 (fun g hg => by have := hq g hg; omega))
          obtain ⟨A3, cap3, rfl, _, _, _⟩ := hown3.row SFact.len
          have HRUN := Lib.hid hrun
          have HPF3 := Lib.hid hpf
          have HAL := Lib.hid hal
          simp only [List.length_singleton, List.length_append] at HRUN HL3
          clear hps2 hg2 hlit hrun hown3 hgr3 hva hob hrv hap hpf hal HARG HPF2 hq
          have hat := HAE.out.1
          have hatl := HAE.out.2.1
          cases ats with
          | nil => exact hat.elim
          | cons y ys =>
          have HEY := Lib.hid hat
          clear hat
          go_wp2_with (at_builtin; refine wpList_gapp HRUN.out rfl rfl rfl rfl rfl ?_)
          go_wp2
          go_roundw
          case rel => exact ⟨fs ++ [⟨qr, avs⟩], _, y, ys, n, HEY.out, HL3.out, by simp; omega, fun f hf => by
            rcases List.mem_append.1 hf with h | h
            · exact HFA.out f h
            · simp at h; subst h; exact HAL.out, HP3.out, HG3.out, by simp at hatl hlen hn ⊢; omega, HPF3.out⟩
          case measure => simp [FactsM]; omega
        · have hpf := HPF2.out
          rw [if_pos hae] at hpf
          have HPF3 := Lib.hid hpf
          have f2 : (ae != 0) = true := by simp [hae]
          have HP2 := Lib.hid hps2
          have HAT := Lib.hid HAE.out.1
          clear hps2 hg2 hva hrv hpf hae HARG HPF2 HAE hal
          go_wp2
          go_ret2
          rw [← HPF3.out]
          exact ⟨_, [], rfl, SetV.nil _, by simp, fun f hf => by simp at hf, HAT.out, HP2.out, HG2.out⟩
      · have hpf := HPF.out
        rw [if_pos hqe] at hpf
        have HPF3 := Lib.hid hpf
        have f2 : (qe != 0) = true := by simp [hqe]
        have HAT := Lib.hid HRE.out.1
        generalize decide (fs.length < 8192) = room at *
        clear hpf hqe HPF HRE hk
        go_wp2_with fail
        go_fit HREL.out
        rintro e w1 ⟨rfl, hps1, hg1⟩
        have HP1 := Lib.hid hps1
        have HG1 := Lib.hid (gb_trans HG.out hg1)
        clear hps1 hg1 HREL
        go_wp2
        go_ret2
        rw [← HPF3.out]
        exact ⟨_, [], rfl, SetV.nil _, by simp, fun f hf => by simp at hf, HAT.out, HP1.out, HG1.out⟩
end Go.Proofs.YtmodjokoggmnaaaGreatDoor
