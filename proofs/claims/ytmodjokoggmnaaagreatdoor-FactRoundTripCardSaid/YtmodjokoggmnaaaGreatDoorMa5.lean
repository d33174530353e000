/-
  Tokens in memory: a slice of tokens that the call itself appends to, and a slice of tokens that is read.
  Conditions: none beyond what each theorem says.
  The contract of hwlex.Scan: it returns the tokens that the plain mathematics gives, in new memory, or the position and the number of the first error.
  Conditions: the variable strconv.ErrRange lies as the program's start lays it.
  Scan's contract in the two forms that its callers take, and the contract of the law's sanity check: it returns true.
  Conditions: the variable strconv.ErrRange lies as the program's start lays it.
-/
import Derived.Test.YtmodjokoggmnaaaGreatDoorMa4
import Derived.WalkMore
import Derived.RegionTactic
import Derived.ChangeAlike
import Derived.Deep.DeepCutAuto
namespace Go.Proofs.YtmodjokoggmnaaaGreatDoor

open Go.RowKit

/-- A token asx it lies in memory, whatever its numbers. -/
structure GTok where
  kind : Int
  text : List UInt8
  value : Int
  line : Int
  col : Int
def Tok.g (t : Tok) : GTok := ⟨t.kind, t.text, t.value, t.line, t.col⟩
def GTok.cells (t : GTok) : List Value := [.int .i64 t.kind, .string ⟨t.text.toArray⟩, .int .u64 t.value, .int .i64 t.line, .int .i64 t.col]
def tcells (ts : List GTok) : List Value := ts.flatMap GTok.cells
theorem tcells_len (ts : List GTok) : (tcells ts).length = ts.length * 5 := by
  induction ts with
  | nil => rfl
  | cons t r ih => show (t.cells ++ tcells r).length = _; rw [List.length_append, ih]; simp [GTok.cells]; omega
theorem tcells_append (a b : List GTok) : tcells (a ++ b) = tcells a ++ tcells b := by simp [tcells]
theorem tcells_get (ts : List GTok) : ∀ (i j : Nat) (_ : i < ts.length) (_ : j < 5), (tcells ts)[i * 5 + j]? = (ts[i]).cells[j]? := by
  induction ts with
  | nil => intro i j h; simp at h
  | cons t r ih =>
    intro i j h hj
    show (t.cells ++ tcells r)[_]? = _
    cases i with
    | zero => rw [List.getElem?_append_left (by simp [GTok.cells]; omega)]; simp
    | succ i =>
      rw [List.getElem?_append_right (by simp [GTok.cells]; omega)]
      have e : (i + 1) * 5 + j - t.cells.length = i * 5 + j := by simp [GTok.cells]; omega
      rw [e, ih i j (by simpa using h) hj]; simp

/-- v is a slice of the call's own that holds the tokens ts. -/
def OwnT (w : World) (base : Nat) (v : Value) (ts : List GTok) : Prop := w.ownsRow base 52 5 v ts.length (tcells ts)
theorem OwnT.nil (w : World) (base : Nat) : OwnT w base (.slice none 0 0) [] := World.ownsRow_nil w base 52 5
theorem OwnT.alloc {w : World} {base : Nat} {v : Value} {l : List GTok} (h : OwnT w base v l) (o : Obj) : OwnT (w.alloc o) base v l := World.ownsRow.alloc h o
theorem OwnT.keep {w w' : World} {base : Nat} {v : Value} {l : List GTok} (h : OwnT w base v l) (hb : ∀ g, base ≤ g → g < w.heap.size → w'.heap[g]? = w.heap[g]?) : OwnT w' base v l := by
  refine ⟨h.1, ?_⟩
  rcases h.2 with hh | ⟨g, cap, cur, hv, hbs, hh, rest⟩
  · exact .inl hh
  · have hlt : g < w.heap.size := by
      rcases Nat.lt_or_ge g w.heap.size with h1 | h1
      · exact h1
      · rw [Array.getElem?_eq_none h1] at hh; cases hh
    exact .inr ⟨g, cap, cur, hv, hbs, (hb g hbs hlt).trans hh, rest⟩
theorem OwnT.below {w w' : World} {base B : Nat} {v : Value} {l : List GTok} (h : OwnT w base v l) (hB : w.heap.size ≤ B) (hb : Below B w w') : OwnT w' base v l := h.keep fun g _ hg => hb.block g (by omega)

/-- The slice value with address A and n elements holds the tokens ts and lies below block B. -/
def TRow (w : World) (B : Nat) (A : Option Addr) (ts : List GTok) : Prop :=
  0 < ts.length → ∃ b off, A = some ⟨b, off, none⟩ ∧ b < B ∧ ∀ i (h : i < ts.length), ∀ j u, (ts[i]).cells[j]? = some u → w.cell? ⟨b, off + (i * 5 + j), none⟩ = some u
theorem TRow.below {w w' : World} {B B' : Nat} {A : Option Addr} {ts : List GTok} (h : TRow w B A ts) (hB : B ≤ B') (hb : Below B' w w') : TRow w' B A ts := fun hn => by
  obtain ⟨b, off, e, hlt, hc⟩ := h hn
  exact ⟨b, off, e, hlt, fun i hi j u hu => (hb.cell (p := ⟨b, off + (i * 5 + j), none⟩) (by show b < B'; omega)).trans (hc i hi j u hu)⟩
theorem TRow.wide {w : World} {B B' : Nat} {A : Option Addr} {ts : List GTok} (h : TRow w B A ts) (hB : B ≤ B') : TRow w B' A ts := fun hn => by
  obtain ⟨b, off, e, hlt, hc⟩ := h hn
  exact ⟨b, off, e, by omega, hc⟩
theorem TRow.nil {w : World} {B : Nat} {A : Option Addr} : TRow w B A [] := fun h => absurd h (by simp)
theorem OwnT.row {w : World} {base : Nat} {v : Value} {ts : List GTok} (h : OwnT w base v ts) : ∃ A cap, v = .slice A ts.length cap ∧ ts.length ≤ cap ∧ TRow w w.heap.size A ts := by
  rcases h.2 with ⟨hv, h0⟩ | ⟨g, cap, cur, hv, hbs, hh, hn, hm, hs, ht⟩
  · have h1 : ts = [] := List.eq_nil_of_length_eq_zero h0
    subst h1
    exact ⟨none, 0, hv, Nat.le_refl _, TRow.nil⟩
  · subst hv
    have hlt : g < w.heap.size := by
      rcases Nat.lt_or_ge g w.heap.size with h1 | h1
      · exact h1
      · rw [Array.getElem?_eq_none h1] at hh; cases hh
    refine ⟨some ⟨g, 0, none⟩, cap, rfl, hn, fun _ => ⟨g, 0, rfl, hlt, fun i hi j u hu => ?_⟩⟩
    have hj : j < 5 := by
      rcases Nat.lt_or_ge j 5 with h1 | h1
      · exact h1
      · rw [List.getElem?_eq_none (by simp [GTok.cells]; omega)] at hu; cases hu
    rw [Nat.zero_add, World.ownsRow.cellAt h (i * 5 + j) (by omega), tcells_get ts i j hi hj, hu]

theorem tok_info : (Tryz.prog.info? 52).map (fun i => (i.zero, i.size, i.bytes)) = some (some (.agg #[.int .i64 0, .string ⟨#[]⟩, .int .u64 0, .int .i64 0, .int .i64 0]), 5, 48) := by kernel_rfl
theorem cells_one (t : GTok) : ∀ u ∈ t.cells, u.oneCell' = true := by intro u hu; simp [GTok.cells] at hu; rcases hu with rfl | rfl | rfl | rfl | rfl <;> rfl

/-- append(v, t): the token t lies in a block of its own. -/
theorem wpList_push {ops : Array Oper} {rest : List Oper} {o : Oper} {a : Act} {Q : Exit → Act → World → Prop} {W : World} (base : Nat) (v : Value) (ts : List GTok) (N : Nat) (t : GTok) (c : Nat)
    (hown : OwnT W base v ts) (hcell : ∀ j u, t.cells[j]? = some u → W.cell? ⟨N, j, none⟩ = some u) (hlen : ts.length ≤ 1000000) (hbase : base ≤ W.heap.size)
    (hgd : o.guard = none) (s x : Operand) (ho : o.op = .call { callee := .builtin .append, args := #[s, x], argTypes := #[46, 46] })
    (hs : a.eval s = v) (hx : a.eval x = .slice (some ⟨N, 0, none⟩) 1 c)
    (h : ∀ v' w', OwnT w' base v' (ts ++ [t]) → W.grownBy w' v.ownBlock → wpList Tryz.prog ops Q rest (a.put o.dst v') w') : wpList Tryz.prog ops Q (o :: rest) a W := by
  obtain ⟨i0, hi0, hz0, hz1, hz2⟩ := info_parts tok_info
  refine wpList_append_own W hgd s x 46 ho base 52 i0 _ 5 48 Tryz.underlying46 hi0 hz0 hz1 hz2 rfl (by omega) v ts.length (tcells ts) hs hown ⟨N, 0, none⟩ 1 c t.cells hx rfl ?_ (cells_one t) (by unfold maxLen; omega) (by omega) hbase ?_
  · intro j u hu
    have e : (⟨N, 0, none⟩ : Addr).add j = ⟨N, j, none⟩ := by unfold Addr.add; split <;> simp_all
    rw [e]; exact hcell j u hu
  · intro v' w' h1 h2 _
    refine h v' w' ?_ h2
    unfold OwnT
    rw [tcells_append, List.length_append]
    simpa [tcells] using h1

end Go.Proofs.YtmodjokoggmnaaaGreatDoor


namespace Go.Proofs.YtmodjokoggmnaaaGreatDoor

open Go.RowKit Go.Shelf

/-- What the invariant of Scan's loop says: k bytes are read, the position is pl, k - ls + 1, v holds the tokens ts. -/
structure SInv (l : List UInt8) (w : World) (k pl ls : Nat) (v : Value) (wr : World) (ts : List Tok) : Prop where
  own : OwnT wr (w.heap.size + 1) v (ts.map Tok.g)
  len : ts.length ≤ k
  hls : ls ≤ k
  hpl : pl ≤ k + 1
  lexed : lex 0 (1, 1) l = (lex 0 (pl, k - ls + 1) (l.drop k)).app ts
  bel : Below w.heap.size w wr
  res : wr.heap[w.heap.size]? = some (.cells #[.int .i64 0, .int .i64 0] 26 (0, 0))
section

variable {l : List UInt8} {w wr : World} {k pl ls : Nat} {v : Value} {ts : List Tok}

theorem SInv.nl (h : SInv l w k pl ls v wr ts) (hk : k < l.length) (hc : l[k] = 10) : SInv l w (k + 1) (pl + 1) (k + 1) v wr ts := by
  refine ⟨h.own, by have := h.len; omega, Nat.le_refl _, by have := h.hpl; omega, ?_, h.bel, h.res⟩
  rw [h.lexed, lex_skipped _ 1 hk (by omega) (step_sp hk (by rw [hc]; rfl)), drop_cons hk, hc]
  simp [adv, adv1]
theorem SInv.sp (h : SInv l w k pl ls v wr ts) (hk : k < l.length) (hc : isSp l[k] = true) (hn : l[k] ≠ 10) : SInv l w (k + 1) pl ls v wr ts := by
  have h1 := h.hls
  refine ⟨h.own, by have := h.len; omega, by omega, by have := h.hpl; omega, ?_, h.bel, h.res⟩
  have e : adv (pl, k - ls + 1) ((l.drop k).take 1) = (pl, k - ls + 1 + 1) := by
    rw [drop_cons hk]; show adv1 _ _ = _; simp [adv1, hn]
  rw [h.lexed, lex_skipped _ 1 hk (by omega) (step_sp hk hc), e, show k + 1 - ls + 1 = k - ls + 1 + 1 by omega]
theorem SInv.cm (h : SInv l w k pl ls v wr ts) (hk : k < l.length) (hc : l[k] = 35) : SInv l w (k + run notNl (l.drop k)) pl ls v wr ts := by
  have h1 := h.hls
  have hr : 1 ≤ run notNl (l.drop k) := by rw [drop_cons hk, run_cons_pos (by rw [hc]; rfl)]; omega
  have hle := @run_le notNl (l.drop k)
  refine ⟨h.own, by have := h.len; omega, by omega, by have := h.hpl; omega, ?_, h.bel, h.res⟩
  rw [h.lexed, lex_skipped _ _ hk hr (step_comment hk hc), adv_plain _ (fun c hc => by have := run_all c hc; simpa [notNl] using this), List.length_take, Nat.min_eq_left hle]
  simp [show k + run notNl (l.drop k) - ls = k - ls + run notNl (l.drop k) by omega, Nat.add_right_comm]
theorem SInv.tok (h : SInv l w k pl ls v wr ts) (hk : k < l.length) (hs : isSp l[k] = false) (h35 : l[k] ≠ 35) {kd n tv : Nat} {tx : List UInt8} (hf : first (l.drop k) = .tok kd tx tv n) {w2 : World} {v2 : Value}
    (hown : OwnT w2 (w.heap.size + 1) v2 ((ts ++ [(⟨kd, tx, tv, pl, k - ls + 1⟩ : Tok)]).map Tok.g)) (hb : Below w.heap.size w w2) (hres : w2.heap[w.heap.size]? = wr.heap[w.heap.size]?) :
    SInv l w (k + n) pl ls v2 w2 (ts ++ [⟨kd, tx, tv, pl, k - ls + 1⟩]) := by
  obtain ⟨hn1, hn2, hnl⟩ := first_len hf
  have h1 := h.hls
  refine ⟨hown, by have := h.len; rw [List.length_append]; simp; omega, by omega, by have := h.hpl; omega, ?_, hb, hres.trans h.res⟩
  rw [h.lexed, lex_token _ kd tx tv n hk hn1 ((step_first hk hs h35).trans hf), app_cons, adv_plain _ hnl, List.length_take, Nat.min_eq_left hn2]
  simp [show k + n - ls = k - ls + n by omega, Nat.add_right_comm]
theorem SInv.push (h : SInv l w k pl ls v wr ts) (hk : k < l.length) (hs : isSp l[k] = false) (h35 : l[k] ≠ 35) {kd n tv : Nat} {tx : List UInt8} (hf : first (l.drop k) = .tok kd tx tv n) {w1 w2 : World} {v2 : Value} {c o1 o2 : Obj}
    (hb : Below (wr.alloc c).heap.size (wr.alloc c) w1) (hown : OwnT w2 (w.heap.size + 1) v2 (ts.map Tok.g ++ [⟨kd, tx, tv, pl, (k : Int) - ls + 1⟩])) (hg : ((w1.alloc o1).alloc o2).grownBy w2 v.ownBlock) :
    SInv l w (k + n) pl ls v2 w2 (ts ++ [⟨kd, tx, tv, pl, k - ls + 1⟩]) := by
  have h1 := h.hls
  have hsz : w.heap.size < wr.heap.size := by
    rcases Nat.lt_or_ge w.heap.size wr.heap.size with h1 | h1
    · exact h1
    · have := h.res; rw [Array.getElem?_eq_none h1] at this; cases this
  have hbw : Below wr.heap.size wr (wr.alloc c) := (Below.refl _ _).alloc (Nat.le_refl _) _
  have hz := hb.size
  have hz' : wr.heap.size + 1 ≤ w1.heap.size := by simpa using hz
  have hbW : Below wr.heap.size wr ((w1.alloc o1).alloc o2) := ((hbw.trans (hb.mono (by simp))).alloc (by omega) _).alloc (by simp; omega) _
  have hblk : ∀ b, v.ownBlock = some b → w.heap.size + 1 ≤ b := fun b hb => (World.ownsRow.lt h.own b hb).1
  refine h.tok hk hs h35 hf ?_ ?_ ?_
  · rw [List.map_append]
    have e : ((⟨kd, tx, tv, pl, k - ls + 1⟩ : Tok)).g = ⟨kd, tx, tv, pl, (k : Int) - ls + 1⟩ := by
      simp only [Tok.g]; congr 1; omega
    show OwnT w2 _ v2 (_ ++ [Tok.g _])
    rw [e]; exact hown
  · exact (h.bel.trans (hbW.mono (by omega))).grown hg (by simp; omega) (fun b hb => by have := hblk b hb; omega)
  · exact (hg.block w.heap.size (by simp; omega) (fun e => by have := hblk _ e.symm; omega)).trans (hbW.block w.heap.size hsz)
theorem SInv.err (h : SInv l w k pl ls v wr ts) (hk : k < l.length) (hs : isSp l[k] = false) (h35 : l[k] ≠ 35) {e : Nat} (hf : first (l.drop k) = .err e) : lex 0 (1, 1) l = .no pl (k - ls + 1) e := by
  rw [h.lexed, lex_error _ e hk ((step_first hk hs h35).trans hf)]; rfl
theorem SInv.fin (h : SInv l w l.length pl ls v wr ts) : lex 0 (1, 1) l = .ok ts := by
  rw [h.lexed, List.drop_length, lex_nil]; simp [Res.app]
theorem SInv.start (l : List UInt8) (w : World) : SInv l w 0 1 0 (.slice none 0 0) (w.alloc (.cells #[.int .i64 0, .int .i64 0] 26)) [] :=
  ⟨OwnT.nil _ _, Nat.le_refl _, Nat.le_refl _, by omega, by rw [app_nil]; rfl, (Below.refl _ _).alloc (Nat.le_refl _) _, heap_alloc_new w _⟩
end

theorem firstR_tok {l : List UInt8} (h : (firstR l).e = 0) : first l = .tok (firstR l).kind (firstR l).text (firstR l).value (firstR l).n := by
  unfold firstR at h ⊢
  cases l with
  | nil => simp at h
  | cons c r =>
    simp only at h ⊢
    by_cases hd : isDig c = true
    · rw [if_pos hd] at h ⊢
      simp only [first, if_pos hd]
      cases hm : num (List.take (run isWB (c :: r)) (c :: r)) with
      | bad => rw [hm] at h; simp [numE] at h
      | big => rw [hm] at h; simp [numE] at h
      | val v => rfl
    · rw [if_neg hd] at h ⊢
      cases hf : first (c :: r) with
      | tok k t v n => rfl
      | err e =>
        rw [hf] at h
        simp only [ofAct] at h
        subst h
        exact absurd hf (first_noerr0 _)
      | skip n => exact absurd hf first_noskip
theorem firstR_err {l : List UInt8} (h : (firstR l).e ≠ 0) : first l = .err (firstR l).e := by
  unfold firstR at h ⊢
  cases l with
  | nil => rfl
  | cons c r =>
    simp only at h ⊢
    by_cases hd : isDig c = true
    · rw [if_pos hd] at h ⊢
      simp only [first, if_pos hd]
      cases hm : num (List.take (run isWB (c :: r)) (c :: r)) with
      | bad => rfl
      | big => rfl
      | val v => rw [hm] at h; simp [numE] at h
    · rw [if_neg hd] at h ⊢
      cases hf : first (c :: r) with
      | tok k t v n => rw [hf] at h; simp [ofAct] at h
      | err e => rfl
      | skip n => exact absurd hf first_noskip

theorem lit_cells (W : World) (t : GTok) (N : Nat) (hN : N = W.heap.size) : ∀ (j : Nat) (u : Value), t.cells[j]? = some u → (W.alloc (.cells #[.int .i64 t.kind, .string ⟨t.text.toArray⟩, .int .u64 t.value, .int .i64 t.line, .int .i64 t.col] 52)).cell? ⟨N, j, none⟩ = some u := by
  subst hN
  intro j u hu
  match j, hu with
  | 0, hu => simpa [GTok.cells] using hu
  | 1, hu => simpa [GTok.cells] using hu
  | 2, hu => simpa [GTok.cells] using hu
  | 3, hu => simpa [GTok.cells] using hu
  | 4, hu => simpa [GTok.cells] using hu
  | j + 5, hu => simp [GTok.cells] at hu
theorem first_drop (d : List UInt8) (hne : d ≠ []) (w : World) (hl : d.length ≤ 65536) (hG : Glob w) :
    Calls Tryz.prog 49 #[.string ⟨d.toArray⟩] w fun e w' => e = .returned (frV (firstR d)) ∧ Below w.heap.size w w' := by
  obtain ⟨c, r, rfl⟩ := List.exists_cons_of_ne_nil hne
  exact first_any c r w hl hG

/-- What Scan returns for a result. -/
def ScanEnd (r : Res) (w : World) (e : Ending) (w' : World) : Prop :=
  match r with
  | .ok ts => ∃ v, e = .returned (.tuple #[v, .agg #[.int .i64 0, .int .i64 0], .int .i64 0]) ∧ OwnT w' (w.heap.size + 1) v (ts.map Tok.g) ∧ Below w.heap.size w w'
  | .no line col er => e = .returned (.tuple #[.slice none 0 0, .agg #[.int .i64 line, .int .i64 col], .int .i64 er]) ∧ Below w.heap.size w w'

set_option maxRecDepth 50000 in
set_option maxHeartbeats 2000000 in
theorem scan_any (l : List UInt8) (w : World) (hG : Glob w) (hl : l.length ≤ maxLen) :
    Calls Tryz.prog 20 #[.string ⟨l.toArray⟩] w (ScanEnd (scan l) w) := by
  unfold maxLen at hl
  rcases Nat.lt_or_ge 65536 l.length with hbig | hsm
  · have HR : Hid (scan l = .no 0 0 15) := by unfold Hid scan; rw [if_pos hbig]
    go_enter Tryz.func20, Tryz.ntmps20
    go_wp2
    go_step3
    go_wp2
    rw [Exit.noGoto_ret]
    refine bodyPost_ret (v := .tuple #[.slice none 0 0, .agg #[.int .i64 0, .int .i64 0], .int .i64 15]) (by simp [results, Tryz.results20, go_sem]) rfl ?_
    rw [HR.out]
    exact ⟨rfl, (Below.refl _ _).alloc (Nat.le_refl _) _⟩
  · have HR : Hid (scan l = lex 0 (1, 1) l) := by unfold Hid scan; rw [if_neg (by omega)]
    rw [HR.out]
    clear HR
    have HI := SInv.start l w
    go_enter Tryz.func20, Tryz.ntmps20
    go_wp2
    go_step3
    go_wp2
    go_step3
    go_wp2
    go_loopw [5, 6, 7, 8] (fun v vl vs va wr => ∃ (k pl ls : Nat) (ts : List Tok), vl = .int .i64 pl ∧ vs = .int .i64 ls ∧ va = .int .i64 k ∧ k ≤ l.length ∧ SInv l w k pl ls v wr ts)
      (fun _ _ _ va _ => l.length - (intOf va).toNat)
    case atStart => exact ⟨0, 1, 0, [], rfl, rfl, rfl, Nat.zero_le _, HI⟩
    case round =>
      obtain ⟨k, pl, ls, ts, rfl, rfl, rfl, hk, HI⟩ := hrel
      have hls := HI.hls
      have hpl := HI.hpl
      have hsz : (⟨l.toArray⟩ : ByteArray).size = l.length := ba_size l
      rcases Nat.lt_or_ge k l.length with hlt | hge
      · have hx : (⟨l.toArray⟩ : ByteArray)[k]'(by rw [hsz]; exact hlt) = l[k] := rfl
        have hu : ∀ m : UInt8, l[k].toNat = m.toNat → l[k] = m := fun m h => UInt8.toNat_inj.1 h
        have hsp : isSp l[k] = decide ((l[k].toNat : Int) = 32 ∨ (l[k].toNat : Int) = 9 ∨ (l[k].toNat : Int) = 10 ∨ (l[k].toNat : Int) = 13) := rfl
        by_cases h10 : l[k].toNat = 10
        · have H := Lib.hid (HI.nl hlt (hu 10 h10))
          have f10 : ((l[k].toNat : Int) == 10) = true := by simp; omega
          clear HI hu hsp h10
          go_wp2
          go_roundw
          case rel => exact ⟨k + 1, pl + 1, k + 1, ts, by go_num, by go_num, by go_num, by omega, H.out⟩
          case measure => simp [intOf]; omega
        by_cases h32 : l[k].toNat = 32
        · have H := Lib.hid (HI.sp hlt (by rw [hsp]; simp; omega) (fun h => h10 (by rw [h]; rfl)))
          have f10 : ((l[k].toNat : Int) == 10) = false := by simp; omega
          have f32 : ((l[k].toNat : Int) == 32) = true := by simp; omega
          clear HI hu hsp h10 h32
          go_wp2
          go_roundw
          case rel => exact ⟨k + 1, pl, ls, ts, by go_num, by go_num, by go_num, by omega, H.out⟩
          case measure => simp [intOf]; omega
        by_cases h9 : l[k].toNat = 9
        · have H := Lib.hid (HI.sp hlt (by rw [hsp]; simp; omega) (fun h => h10 (by rw [h]; rfl)))
          have f10 : ((l[k].toNat : Int) == 10) = false := by simp; omega
          have f32 : ((l[k].toNat : Int) == 32) = false := by simp; omega
          have f9 : ((l[k].toNat : Int) == 9) = true := by simp; omega
          clear HI hu hsp h10 h9
          go_wp2
          go_roundw
          case rel => exact ⟨k + 1, pl, ls, ts, by go_num, by go_num, by go_num, by omega, H.out⟩
          case measure => simp [intOf]; omega
        by_cases h13 : l[k].toNat = 13
        · have H := Lib.hid (HI.sp hlt (by rw [hsp]; simp; omega) (fun h => h10 (by rw [h]; rfl)))
          have f10 : ((l[k].toNat : Int) == 10) = false := by simp; omega
          have f32 : ((l[k].toNat : Int) == 32) = false := by simp; omega
          have f9 : ((l[k].toNat : Int) == 9) = false := by simp; omega
          have f13 : ((l[k].toNat : Int) == 13) = true := by simp; omega
          clear HI hu hsp h10 h13
          go_wp2
          go_roundw
          case rel => exact ⟨k + 1, pl, ls, ts, by go_num, by go_num, by go_num, by omega, H.out⟩
          case measure => simp [intOf]; omega
        by_cases h35 : l[k].toNat = 35
        · have H := Lib.hid (HI.cm hlt (hu 35 h35))
          have f10 : ((l[k].toNat : Int) == 10) = false := by simp; omega
          have f32 : ((l[k].toNat : Int) == 32) = false := by simp; omega
          have f9 : ((l[k].toNat : Int) == 9) = false := by simp; omega
          have f13 : ((l[k].toNat : Int) == 13) = false := by simp; omega
          have f35 : ((l[k].toNat : Int) == 35) = true := by simp; omega
          have HC := Lib.hid fun W => commentLen_any (l.drop k) W
          have hr1 := @run_le notNl (l.drop k)
          have hr2 : 1 ≤ run notNl (l.drop k) := by rw [drop_cons hlt, run_cons_pos (by rw [hu 35 h35]; rfl)]; omega
          rw [List.length_drop] at hr1
          have hcut := cut_from' l k l.length (Nat.le_refl _)
          generalize run notNl (l.drop k) = m at *
          clear HI hu hsp h10 h35
          go_wp2_with (go_at_call 48; refine (HC.out _).mono ?_; rintro e w' ⟨rfl, rfl⟩)
          go_roundw
          case rel => exact ⟨k + m, pl, ls, ts, by go_num, by go_num, by go_num, by omega, H.out⟩
          case measure => simp [intOf]; omega
        have hsp0 : isSp l[k] = false := by rw [hsp]; simp; omega
        have h35' : l[k] ≠ 35 := fun h => h35 (by rw [h]; rfl)
        have f10 : ((l[k].toNat : Int) == 10) = false := by simp; omega
        have f32 : ((l[k].toNat : Int) == 32) = false := by simp; omega
        have f9 : ((l[k].toNat : Int) == 9) = false := by simp; omega
        have f13 : ((l[k].toNat : Int) == 13) = false := by simp; omega
        have f35 : ((l[k].toNat : Int) == 35) = false := by simp; omega
        have hd0 : (l.drop k).length ≤ 65536 := by rw [List.length_drop]; omega
        have hcut := cut_from' l k l.length (Nat.le_refl _)
        have hbw : Below wr.heap.size wr (wr.alloc (.cells #[.int .i64 (pl : Int), .int .i64 ((k : Int) - ls + 1)] 26)) := (Below.refl _ _).alloc (Nat.le_refl _) _
        have hwsz : w.heap.size < wr.heap.size := by
          rcases Nat.lt_or_ge w.heap.size wr.heap.size with h1 | h1
          · exact h1
          · have := HI.res; rw [Array.getElem?_eq_none h1] at this; cases this
        have HC := Lib.hid (first_drop (l.drop k) (drop_ne hlt) _ hd0 ((hG.next HI.bel).next hbw))
        have c0 : wr.cell? ⟨w.heap.size, 0, none⟩ = some (.int .i64 0) := by simp [World.cell?, HI.res]
        have c1 : wr.cell? ⟨w.heap.size, 1, none⟩ = some (.int .i64 0) := by simp [World.cell?, HI.res]
        have z0 : ∀ j, wr.frozen? ⟨w.heap.size, j, none⟩ = false := fun j => by simp [World.frozen?, HI.res]
        by_cases he : (firstR (l.drop k)).e = 0
        · have hft := firstR_tok he
          generalize firstR (l.drop k) = f at *
          have fe : ((f.e : Int) != 0) = false := by simp; omega
          have HFT := Lib.hid hft
          have HH := Lib.hid HI
          clear HI hu hsp hft h10 h32 h9 h13 h35 hd0 he
          go_wp2_with fail
          refine HC.out.mono ?_
          rintro e w1 ⟨rfl, hb1⟩
          have hz1 : wr.heap.size + 1 ≤ w1.heap.size := by have := hb1.size; simpa using this
          have p0 : w1.cell? ⟨wr.heap.size, 0, none⟩ = some (.int .i64 (pl : Int)) := (hb1.cell (p := ⟨wr.heap.size, 0, none⟩) (by simp)).trans (by simp)
          have p1 : w1.cell? ⟨wr.heap.size, 1, none⟩ = some (.int .i64 ((k : Int) - ls + 1)) := (hb1.cell (p := ⟨wr.heap.size, 1, none⟩) (by simp)).trans (by simp)
          have hz2 : wr.heap.size < w1.heap.size := by omega
          have HB := Lib.hid hb1
          clear hb1 c0 c1 z0 hbw
          have hownW := Lib.hid ((((HH.out.own.alloc _).below (Nat.le_refl _) HB.out).alloc (.cells #[.int .i64 (f.kind : Int), .string ⟨f.text.toArray⟩, .int .u64 (f.value : Int), .int .i64 (pl : Int), .int .i64 ((k : Int) - ls + 1)] 52)).alloc (.cells #[.int .i64 (f.kind : Int), .string ⟨f.text.toArray⟩, .int .u64 (f.value : Int), .int .i64 (pl : Int), .int .i64 ((k : Int) - ls + 1)] 52))
          have HP := Lib.hid fun (v2 : Value) (w2 : World) => HH.out.push hlt hsp0 h35' HFT.out HB.out (o1 := .cells #[.int .i64 (f.kind : Int), .string ⟨f.text.toArray⟩, .int .u64 (f.value : Int), .int .i64 (pl : Int), .int .i64 ((k : Int) - ls + 1)] 52) (o2 := .cells #[.int .i64 (f.kind : Int), .string ⟨f.text.toArray⟩, .int .u64 (f.value : Int), .int .i64 (pl : Int), .int .i64 ((k : Int) - ls + 1)] 52) (v2 := v2) (w2 := w2)
          have HT : Hid (ts.length ≤ 1000000) := Lib.hid (by have := HH.out.len; omega)
          have hfn := first_len HFT.out
          have hfn1 : f.n ≤ l.length - k := by have := hfn.2.1; rwa [List.length_drop] at this
          have hfn0 := hfn.1
          clear hfn hsp0 h35'
          simp only [frV]
          go_wp2_with (at_builtin; refine wpList_push (w.heap.size + 1) u5 (ts.map Tok.g) (w1.heap.size + 1) ⟨f.kind, f.text, f.value, pl, (k : Int) - ls + 1⟩ 1 hownW.out (lit_cells (w1.alloc _) _ _ (by simp)) (by rw [List.length_map]; exact HT.out) (by simp; omega) rfl _ _ rfl rfl rfl ?_)
          intro v2 w2 hown2 hg2
          have HQ := Lib.hid (HP.out v2 w2 hown2 hg2)
          clear hown2 hg2
          go_wp2
          go_roundw
          case rel => exact ⟨k + f.n, pl, ls, _, by go_num, by go_num, by go_num, by omega, HQ.out⟩
          case measure => simp [intOf]; omega
        · have hft := firstR_err he
          have HE := Lib.hid (HI.err hlt hsp0 h35' hft)
          generalize firstR (l.drop k) = f at *
          have fe : ((f.e : Int) != 0) = true := by simp; omega
          have HH := Lib.hid HI
          clear HI hu hsp hft h10 h32 h9 h13 h35 hsp0 h35' hd0 he
          go_wp2_with fail
          refine HC.out.mono ?_
          rintro e w1 ⟨rfl, hb1⟩
          have hz1 : wr.heap.size + 1 ≤ w1.heap.size := by have := hb1.size; simpa using this
          have p0 : w1.cell? ⟨wr.heap.size, 0, none⟩ = some (.int .i64 (pl : Int)) := (hb1.cell (p := ⟨wr.heap.size, 0, none⟩) (by simp)).trans (by simp)
          have p1 : w1.cell? ⟨wr.heap.size, 1, none⟩ = some (.int .i64 ((k : Int) - ls + 1)) := (hb1.cell (p := ⟨wr.heap.size, 1, none⟩) (by simp)).trans (by simp)
          have q0 : w1.cell? ⟨w.heap.size, 0, none⟩ = some (.int .i64 0) := (hb1.cell (p := ⟨w.heap.size, 0, none⟩) (by simp; omega)).trans ((hbw.cell (p := ⟨w.heap.size, 0, none⟩) hwsz).trans c0)
          have q1 : w1.cell? ⟨w.heap.size, 1, none⟩ = some (.int .i64 0) := (hb1.cell (p := ⟨w.heap.size, 1, none⟩) (by simp; omega)).trans ((hbw.cell (p := ⟨w.heap.size, 1, none⟩) hwsz).trans c1)
          have qz : ∀ j, w1.frozen? ⟨w.heap.size, j, none⟩ = false := fun j => (hb1.frozen (p := ⟨w.heap.size, j, none⟩) (by simp; omega)).trans ((hbw.frozen (p := ⟨w.heap.size, j, none⟩) hwsz).trans (z0 j))
          have hz2 : wr.heap.size < w1.heap.size := by omega
          have hz3 : w.heap.size < w1.heap.size := by omega
          have HB := Lib.hid hb1
          clear hb1 c0 c1 z0 hbw
          simp only [frV]
          go_wp2
          go_region
          all_goals go_wp2
          rw [Exit.noGoto_ret]
          refine bodyPost_ret (v := .tuple #[.slice none 0 0, .agg #[.int .i64 (pl : Int), .int .i64 ((k : Int) - ls + 1)], .int .i64 (f.e : Int)]) (by simp [results, Tryz.results20, go_sem, q0, q1, hz3]) rfl ?_
          rw [HE.out, show ((k : Int) - ls + 1) = ((k - ls + 1 : Nat) : Int) by omega]
          have hbw : Below wr.heap.size wr w1 := ((Below.refl _ _).alloc (Nat.le_refl _) _).trans (HB.out.mono (by simp))
          exact ⟨rfl, ((((HH.out.bel.trans (hbw.mono (by omega))).setCell (Nat.le_refl _) _).setCell (Nat.le_refl _) _).alloc (by simp; omega) _).drew⟩
      · have hkl : k = l.length := by omega
        subst hkl
        have HF := Lib.hid HI.fin
        have c0 : wr.cell? ⟨w.heap.size, 0, none⟩ = some (.int .i64 0) := by simp [World.cell?, HI.res]
        have c1 : wr.cell? ⟨w.heap.size, 1, none⟩ = some (.int .i64 0) := by simp [World.cell?, HI.res]
        have z0 : ∀ j, wr.frozen? ⟨w.heap.size, j, none⟩ = false := fun j => by simp [World.frozen?, HI.res]
        have HH := Lib.hid HI
        clear HI
        go_wp2
        rw [Exit.noGoto_ret]
        refine bodyPost_ret (v := .tuple #[u5, .agg #[.int .i64 0, .int .i64 0], .int .i64 0]) (by simp [results, Tryz.results20, go_sem, c0, c1]) rfl ?_
        rw [HF.out]
        refine ⟨u5, rfl, HH.out.own.keep fun g hg _ => ?_, (HH.out.bel.setCell (Nat.le_refl _) _).setCell (Nat.le_refl _) _⟩
        rw [Below.heap_setCell _ _ _ _ (by show g ≠ w.heap.size; omega), Below.heap_setCell _ _ _ _ (by show g ≠ w.heap.size; omega)]
end Go.Proofs.YtmodjokoggmnaaaGreatDoor


namespace Go.Proofs.YtmodjokoggmnaaaGreatDoor

open Go.RowKit Go.Shelf

theorem scan_ok (l : List UInt8) (ts : List Tok) (h : scan l = .ok ts) (w : World) (hG : Glob w) (hl : l.length ≤ maxLen) :
    Calls Tryz.prog 20 #[.string ⟨l.toArray⟩] w fun e w' => ∃ A cap, e = .returned (.tuple #[.slice A ts.length cap, .agg #[.int .i64 0, .int .i64 0], .int .i64 0]) ∧ ts.length ≤ cap ∧ TRow w' w'.heap.size A (ts.map Tok.g) ∧ Below w.heap.size w w' :=
  (scan_any l w hG hl).mono fun e w' hh => by
    rw [h] at hh
    obtain ⟨v, he, hown, hb⟩ := hh
    obtain ⟨A, cap, hv, hc, hr⟩ := hown.row
    rw [List.length_map] at hv hc
    exact ⟨A, cap, by rw [he, hv], hc, hr, hb⟩
theorem scan_no (l : List UInt8) (line col er : Nat) (h : scan l = .no line col er) (w : World) (hG : Glob w) (hl : l.length ≤ maxLen) :
    Calls Tryz.prog 20 #[.string ⟨l.toArray⟩] w fun e w' => e = .returned (.tuple #[.slice none 0 0, .agg #[.int .i64 line, .int .i64 col], .int .i64 er]) ∧ Below w.heap.size w w' :=
  (scan_any l w hG hl).mono fun e w' hh => by rw [h] at hh; exact hh

def awk1 : List Tok := [⟨1, [99, 111, 114, 101], 0, 1, 1⟩, ⟨2, [], 16384, 1, 6⟩, ⟨4, [59], 0, 1, 11⟩]
theorem awk1_eq : scan [99, 111, 114, 101, 32, 48, 120, 49, 48, 75, 59] = .ok awk1 := by decide +kernel
theorem awk2_eq : scan [49, 50, 97] = .no 1 1 50 := by decide +kernel

end Go.Proofs.YtmodjokoggmnaaaGreatDoor
