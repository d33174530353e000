/-
  The blocks between two addresses are appended to a list.
  Conditions: addresses are multiples of 64 up to 2^40; the table of math/bits lies as the program's text lays it.
-/
import Derived.Test.YtndppbfdcceflaaGreatDoorMrb
namespace Go.Proofs.YtndppbfdcceflaaGreatDoor

open Go.RowKit

/-- From w to w' only new blocks and block o are touched. -/
def Keep (w : World) (o : Option Nat) (w' : World) : Prop := w.heap.size ≤ w'.heap.size ∧ ∀ b, b < w.heap.size → o ≠ some b → w'.heap[b]? = w.heap[b]?
theorem Keep.refl (w : World) (o : Option Nat) : Keep w o w := ⟨Nat.le_refl _, fun _ _ _ => rfl⟩
theorem Keep.of {w w' : World} (o : Option Nat) (h : Below w.heap.size w w') : Keep w o w' := ⟨h.size, fun b hb _ => h.block b hb⟩
/-- The block is the same, or a new one. -/
def NewB (n : Nat) (o o' : Option Nat) : Prop := o' = o ∨ ∃ g, o' = some g ∧ n ≤ g
theorem Keep.trans {w w1 w2 : World} {o o1 : Option Nat} (h : Keep w o w1) (h1 : Keep w1 o1 w2) (hn : NewB w.heap.size o o1) : Keep w o w2 := by
  refine ⟨Nat.le_trans h.1 h1.1, fun b hb hne => (h1.2 b (Nat.lt_of_lt_of_le hb h.1) ?_).trans (h.2 b hb hne)⟩
  rcases hn with rfl | ⟨g, rfl, hg⟩
  · exact hne
  · intro e; injection e with e; omega
theorem NewB.trans {n m : Nat} {o o1 o2 : Option Nat} (h : NewB n o o1) (h1 : NewB m o1 o2) (hm : n ≤ m) : NewB n o o2 := by
  rcases h1 with rfl | ⟨g, rfl, hg⟩
  · exact h
  · exact .inr ⟨g, rfl, by omega⟩
theorem RB.keep {w w' : World} {o : Option Nat} {N : Nat} {r : GR} (h : RB w N r) (hk : Keep w o w') (hne : o ≠ some N) : RB w' N r := (hk.2 N h.lt hne).trans h
/-- A range that lies in a new block is appended to a row of the call's own. -/
theorem OwnR.boxed {w1 w0 : World} {v : Value} {xs : List GR} (h : OwnR w1 w0.heap.size v xs) (hb : Below w0.heap.size w0 w1) (r : GR) (hl : xs.length ≤ 68719476735) :
    ∃ v' w', (Builtin.append_ #[61, 61] 61 #[v, .slice (some ⟨w1.heap.size + 1, 0, none⟩) 1 1]).run Tryz.prog ((w1.alloc (.cells #[.int .i64 r.base, .int .i64 r.bits] 58)).alloc (.cells #[.int .i64 r.base, .int .i64 r.bits] 58)) = .ok v' w' ∧ OwnR w' w0.heap.size v' (xs ++ [r]) ∧ Below w0.heap.size w0 w' ∧ RB w' w1.heap.size r ∧ Keep w1 v.ownBlock w' ∧ NewB w1.heap.size v.ownBlock v'.ownBlock := by
  have hs := hb.size
  have e1 : (w1.alloc (.cells #[.int .i64 r.base, .int .i64 r.bits] 58)).heap.size = w1.heap.size + 1 := by simp
  have hlit := lit_rng (w1.alloc (.cells #[.int .i64 r.base, .int .i64 r.bits] 58)) r
  rw [e1] at hlit
  have hbx := belt (belt (Below.refl _ w1) (.cells #[.int .i64 r.base, .int .i64 r.bits] 58)) (.cells #[.int .i64 r.base, .int .i64 r.bits] 58)
  obtain ⟨v', w', hrun, hown, hg, hnb⟩ := OwnG.app elt_rng GR.len GR.one ((h.alloc (.cells #[.int .i64 r.base, .int .i64 r.bits] 58)).alloc (.cells #[.int .i64 r.base, .int .i64 r.bits] 58)) 1 hlit (by simp; omega) (by unfold maxLen; simp; omega) (by simp; omega)
  refine ⟨v', w', hrun, hown, ((hb.alloc hs _).alloc (by simp; omega) _).grown hg (by simp; omega) (fun g e => (h.lt g e).1), ?_, ?_, ?_⟩
  · refine RB.gb ((RB.new w1 r).next (belt (Below.refl _ _) _)) hg fun e => ?_
    have := (h.lt _ e).2
    omega
  · refine (Keep.of _ hbx).trans (o1 := v.ownBlock) ⟨hg.size, fun b hb hne => hg.block b hb (fun e => hne e.symm)⟩ (.inl rfl)
  · rcases hnb with e | e
    · exact .inl e
    · exact .inr ⟨_, e, by simp; omega⟩
def BlocksEnd (l : List GR) (w0 w : World) (o : Option Nat) (e : Ending) (w' : World) : Prop := ∃ v, e = .returned v ∧ OwnR w' w0.heap.size v l ∧ Below w0.heap.size w0 w' ∧ Keep w o w' ∧ NewB w.heap.size o v.ownBlock
set_option maxRecDepth 20000 in
set_option maxHeartbeats 1000000 in
theorem pBlocks_any (xs : List GR) (A : Option Addr) (c : Nat) (s t : Int) (w0 w : World) (ho : OwnR w w0.heap.size (.slice A xs.length c) xs) (hb : Below w0.heap.size w0 w) (hT : T10 w0)
    (hs0 : 0 ≤ s) (hs1 : s ≤ 1099511627776) (ht0 : 0 ≤ t) (ht1 : t ≤ 1099511627776) (ha : s % 64 = 0) (hta : t % 64 = 0) (hl : 64 * (xs.length : Int) + max 0 (t - s) ≤ 2199023255552) :
    Calls Tryz.prog 113 #[.slice A xs.length c, .int .i64 s, .int .i64 t] w (BlocksEnd (xs ++ blocks s t) w0 w (Value.slice A xs.length c).ownBlock) := by
  have HO := Lib.hid ho
  have HB := Lib.hid hb
  have HT := Lib.hid hT
  have HA := Lib.hid (show 0 ≤ s ∧ s ≤ 1099511627776 ∧ s % 64 = 0 ∧ 64 * (xs.length : Int) + max 0 (t - s) ≤ 2199023255552 from ⟨hs0, hs1, ha, hl⟩)
  have HTA := Lib.hid (show 0 ≤ t ∧ t ≤ 1099511627776 ∧ t % 64 = 0 from ⟨ht0, ht1, hta⟩)
  obtain ⟨q, hq⟩ : ∃ q, q = xs ++ blocks s t := ⟨_, rfl⟩
  rw [← hq]
  have HQ := Lib.hid hq
  have HK0 : Hid (Keep w (Value.slice A xs.length c).ownBlock w) := Lib.hid (Keep.refl _ _)
  have HN0 : Hid (NewB w.heap.size (Value.slice A xs.length c).ownBlock (Value.slice A xs.length c).ownBlock) := Lib.hid (.inl rfl)
  obtain ⟨o, hoo⟩ : ∃ o, o = (Value.slice A xs.length c).ownBlock := ⟨_, rfl⟩
  rw [← hoo]
  rw [← hoo] at HK0
  have HN1 : Hid (NewB w.heap.size o (Value.slice A xs.length c).ownBlock) := Lib.hid (by rw [hoo]; exact HN0.out)
  clear HN0 hoo
  clear ho hb hT hs0 hs1 ht0 ht1 ha hta hl hq
  go_enter Tryz.func113, Tryz.ntmps113
  go_wp2
  go_loopw [0, 1] (fun v0 v1 wr => ∃ (l : List GR) (n : Int), v1 = .int .i64 n ∧ Hid (OwnR wr w0.heap.size v0 l) ∧ Hid (Below w0.heap.size w0 wr) ∧ Hid (0 ≤ n ∧ n ≤ 1099511627776 ∧ n % 64 = 0 ∧ 64 * (l.length : Int) + max 0 (t - n) ≤ 2199023255552) ∧ Hid (q = l ++ blocks n t) ∧ Hid (Keep w o wr) ∧ Hid (NewB w.heap.size o v0.ownBlock)) (fun _ v1 _ => (t - intOf v1).toNat)
  case atStart => exact ⟨xs, s, rfl, HO, HB, HA, HQ, HK0, HN1⟩
  case round =>
    obtain ⟨l, n, rfl, HO, HB, HA, HQ, HKP, HNB⟩ := hrel
    obtain ⟨Al, cl, rfl, hcl, hml, hrl⟩ := HO.out.row GR.len
    clear hcl hml hrl
    generalize wr = w1 at *
    by_cases hlt : n < t
    · have f1 : decide (n < t) = true := decide_eq_true hlt
      have K := kOf_ok HA.out.1 hlt HTA.out.2.1 HA.out.2.2.1 HTA.out.2.2
      have HV : Hid (VR ⟨n, kOf n t⟩) := Lib.hid (K.vr HA.out.1 HTA.out.2.1)
      have HK := Lib.hid K
      have HQ2 : Hid (q = (l ++ [⟨n, kOf n t⟩]) ++ blocks (n + pw (kOf n t)) t) := Lib.hid (by rw [HQ.out, blocks_cons hlt, List.append_assoc]; rfl)
      have HKE : Hid (kOf n t = min (Lib.ctz 64 n.toNat : Int) ((Lib.bitLen (t - n).toNat : Int) - 1)) := Lib.hid rfl
      have HLT : Hid (n < t) := Lib.hid hlt
      have HZ := Lib.hid (tz_any n.toNat (by have := HA.out; omega) w1 (T10.next HT.out HB.out))
      have HL := Lib.hid (Tryz.bits_Len (t - n) w1 (by omega) (by have := HA.out; have := HTA.out; omega))
      have en : ((n.toNat : Nat) : Int) = n := by have := HA.out; omega
      rw [en] at HZ
      have u1 : IntKind.u64.wrap n = n := by rw [IntKind.wrap_u64]; have := HA.out; omega
      have u2 : IntKind.u64.wrap (t - n) = t - n := by rw [IntKind.wrap_u64]; have := HA.out; have := HTA.out; omega
      have u3 : IntKind.i64.wrap (t - n) = t - n := IntWalk.i64_in _ (by have := HA.out; have := HTA.out; omega)
      have u4 : wrap64 (t - n) = t - n := IntWalk.wrap64_in _ (by have := HA.out; have := HTA.out; omega)
      generalize kOf n t = k at *
      have hbl : (Lib.bitLen (t - n).toNat : Int) ≤ 64 ∧ 0 ≤ (Lib.bitLen (t - n).toNat : Int) := by
        have := HA.out
        have := HTA.out
        obtain ⟨m, e, h1, h2⟩ := bitLenAux_spec 64 (t - n).toNat (by omega) (by omega)
        unfold Lib.bitLen
        rw [e]
        refine ⟨?_, by omega⟩
        rcases Nat.lt_or_ge m 64 with h | h
        · omega
        · have := Nat.pow_le_pow_right (n := 2) (by omega) h
          omega
      generalize Lib.ctz 64 n.toNat = cz at *
      generalize Lib.bitLen (t - n).toNat = bl at *
      have u5 : IntKind.i64.wrap ((bl : Int) - 1) = (bl : Int) - 1 := IntWalk.i64_in _ (by omega)
      clear en K hbl hlt
      go_wp2_with fail
      go_fit HZ.out
      rintro e w2 ⟨rfl, hww⟩
      obtain rfl : w1 = w2 := hww.symm
      go_wp2_with fail
      go_fit HL.out
      rintro e w2 ⟨rfl, hww⟩
      obtain rfl : w1 = w2 := hww.symm
      clear u1 u2 u3 u4
      have u6 : min (cz : Int) ((bl : Int) - 1) = k := HKE.out.symm
      obtain ⟨v9, w9, hrun, hown9, hb9, hbox, hkp9, hnb9⟩ := OwnR.boxed HO.out HB.out ⟨n, k⟩ (by have := HA.out; omega)
      have HRUN := Lib.hid hrun
      have HO9 := Lib.hid hown9
      have HB9 := Lib.hid hb9
      have HX9 := Lib.hid hbox
      have HKP9 := Lib.hid (HKP.out.trans hkp9 HNB.out)
      have HNB9 := Lib.hid (HNB.out.trans hnb9 HKP.out.1)
      have HE9 := Lib.hid (pEnd_any ⟨n, k⟩ w9)
      have hee : endR ⟨n, k⟩ = n + pw k := HV.out.endR
      rw [hee] at HE9
      have HA9 : Hid (0 ≤ n + pw k ∧ n + pw k ≤ 1099511627776 ∧ (n + pw k) % 64 = 0 ∧ 64 * ((l ++ [⟨n, k⟩] : List GR).length : Int) + max 0 (t - (n + pw k)) ≤ 2199023255552) := Lib.hid (by
        have h1 := HA.out
        have h2 := HTA.out
        have h3 := HK.out.fit
        have h4 := pw_ge64 HK.out.lo
        have h5 := pw64 HK.out.lo
        rw [List.length_append, List.length_singleton]
        push_cast
        refine ⟨by omega, by omega, by omega, by omega⟩)
      have HM : Hid ((t - (n + pw k)).toNat < (t - n).toNat) := Lib.hid (by have := HLT.out; have := pw_pos k; omega)
      simp only [GR.val] at HE9
      obtain ⟨x0, x1, _, _⟩ := HX9.out.facts
      have hbl := HX9.out.lt
      clear hrun hown9 hb9 hbox hkp9 hnb9 HKP HNB hee HKE HZ HL HV HK HLT HQ HA HX9 HO HB
      generalize pw k = z at *
      generalize n + z = m at *
      go_wp2_with (first | (at_builtin; refine wpList_gapp HRUN.out rfl rfl rfl rfl rfl ?_) | (go_at_call 114; go_fit HE9.out; rintro e w3 ⟨rfl, hb3⟩))
      have HO3 := Lib.hid (HO9.out.next hb3)
      have HB3 := Lib.hid (beln HB9.out hb3)
      have HKP3 := Lib.hid (HKP9.out.trans (Keep.of o hb3) (.inl rfl))
      go_roundw
      case rel => exact ⟨l ++ [⟨n, k⟩], m, rfl, HO3, HB3, HA9, HQ2, HKP3, HNB9⟩
      case measure => exact HM.out
    · have f1 : decide (n < t) = false := decide_eq_false hlt
      have HE : Hid (BlocksEnd q w0 w o (.returned (.slice Al l.length cl)) w1) := Lib.hid ⟨_, rfl, by rw [HQ.out, blocks_nil (by omega), List.append_nil]; exact HO.out, HB.out, HKP.out, HNB.out⟩
      clear hlt HQ HO HB HA HKP HNB
      go_wp2
      go_ret
      exact HE.out
end Go.Proofs.YtndppbfdcceflaaGreatDoor
