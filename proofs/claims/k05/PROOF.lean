import PyProof.Rows.All
import Wide.All
import OpenK.AllK
import Wide.FinOn
import HandS.ForMost
import HandS.Walk
import HandS.IsInst
import PySem.Challenge.RW_letterhouse_k05_sixty_told
set_option Elab.async false
set_option linter.all false
set_option maxRecDepth 100000
namespace LH
open PySem PySem.Spec PyProof.Rows L2
/-! ### heaps -/
theorem same_upd {H : Hp} {p : Addr} {o : HO} (h : H p = none) : Same H (upd H p o) := fun b x e => by
  rw [upd_ne (ne_of_none e h)]
  exact e
theorem seqT {K : PySem.W.Frag} {H H' : Hp} {a : Addr} {xs : List V} (e : Same H H') (h : SqT K H a xs) : SqT K H' a xs := by
  rcases h with (h | ⟨o, h⟩) | h
  · exact .inl (.inl (e _ _ h))
  · exact .inl (.inr ⟨o, e _ _ h⟩)
  · exact .inr h
/-- a list that is told new, in a heap that keeps all that stood -/
def New (H : Hp) (xs : List V) (Q : VK) : Prop := ∀ H' p, Same H H' → H p = none → H' p = some (.lst xs) → Q (.ref p) H'
/-- a value that is told in a heap that keeps all that stood -/
def Tell (H : Hp) (v : V) (Q : VK) : Prop := ∀ H', Same H H' → Q v H'
/-! ### a comprehension over anything that yields xs 0 .. xs (n - 1), its element f i -/
theorem lc_pure {J : It} {n : Nat} {G : Hp → Prop} {te : TE} {c : Nat} {σ : L2.St} {H1 : Hp} {D : Addr} {Qd : Hp → Prop} (xs f : Nat → V) (w : Walk J n G (YFn xs)) (hG : ∀ H, Same H1 H → G H) (hD : H1 D = none) (hn : n ≤ sizeLine)
    (he : ∀ i H Q, i < n → Same H1 H → Tell H (f i) Q → te ((σ.set c none).set c (some (xs i))) H Q)
    (hd : ∀ H, Same H1 H → H D = some (.lst ((List.range n).map f)) → Qd H) :
    ∃ W : Nat → Nat → Hp → Prop, (∃ m, W 0 m (upd H1 D (.lst []))) ∧ ∀ i m H, W i m H →
      (J.stop i H ∧ Qd H) ∨ (J.go i H ∧ ∃ Nx : Hp → Prop, (∀ H', Nx H' → ∃ m', m' < m ∧ W (i + 1) m' H') ∧ ∀ x H', J.yld i H x H' → gName c x (wipe σ [c]) H' fun σ2 H2 => wipe σ2 [c] = wipe σ [c] ∧ tYes σ2 H2 fun b H3 =>
        if b = true then te σ2 H3 fun y H4 => ∃ acc, H4 D = some (.lst acc) ∧ acc.length < sizeLine ∧ Nx (upd H4 D (.lst (acc ++ [y]))) else Nx H3) := by
  refine lc_it w (fun i H => Same H1 H ∧ H D = some (.lst ((List.range i).map f))) ⟨same_upd hD, upd_same⟩ (fun i H _ h => hG H h.1) (fun i x H H' hi hP hy => ?_) (fun H h => hd H h.1 h.2)
  obtain ⟨sm, eD⟩ := hP
  obtain ⟨rfl, rfl⟩ := hy
  refine ⟨?_, ?_⟩
  rotate_left
  · show (if true = true then te ((σ.set c none).set c (some (xs i))) H' fun y H4 => ∃ acc, H4 D = some (.lst acc) ∧ acc.length < sizeLine ∧ Same H1 (upd H4 D (.lst (acc ++ [y]))) ∧ upd H4 D (.lst (acc ++ [y])) D = some (.lst ((List.range (i + 1)).map f)) else (Same H1 H' ∧ H' D = some (.lst ((List.range (i + 1)).map f))))
    rw [if_pos rfl]
    refine he i H' _ hi sm fun H2 s2 => ⟨_, s2 _ _ eD, ?_, ?_, ?_⟩
    · rw [List.length_map, List.length_range]
      omega
    · intro b o hb
      rw [upd_ne (ne_of_none hb hD)]
      exact s2 _ _ (sm _ _ hb)
    · rw [upd_same, List.range_succ, List.map_append]
      rfl
  · show (((σ.set c none).set c (some (xs i))).set c none) = σ.set c none
    rw [List.set_set, List.set_set]
/-! ### a def as its callers see it -/
structure Def (P : Program) (w : World) (K : PySem.W.Frag) (mg : Str → Option Value) (base : Heap) (x : Str) (k : Nat) (f : Addr) (fd : FuncData) (ps : List Str) (sp : Sp) : Prop where
  ok : FnOk P w K mg base CX0 k f fd ps sp
  mg : mg x = some (.ref f)
  kp : PySem.W.keepIn K (.ref f) = true
  bd : Binds K fd ps []
section
variable {X : Cx} {x : Str} {k j : Nat} {f : Addr} {fd : FuncData} {ps : List Str} {sp : Sp} {e : Expr} {es : List Expr} {t : TA} {p pos : Pos}
theorem pe_def (D : Def X.prog X.w X.K X.mg X.base x k f fd ps sp) (hr : Room k X.A) (ha : PA X (e :: es) t) (hg : Gl X x := by rfl) (hdb : (x == ("__debug__" : Str)) = false := by decide)
    (he : starEach (e :: es) X.env = (false, eval e X.env) :: starEach es X.env := by rfl) (hpl : (backTo pos (starEach es X.env)).any (·.1) = false := by rfl) : PE X (.Call (.Name x p) (e :: es) [] pos) (tCall sp [] E0 t) :=
  pe_call D.ok hr hg D.mg D.kp D.bd .nil pass0 ha hdb he hpl
theorem pe_def0 (D : Def X.prog X.w X.K X.mg X.base x k f fd ps sp) (hr : Room k X.A) (hg : Gl X x := by rfl) (hdb : (x == ("__debug__" : Str)) = false := by decide) : PE X (.Call (.Name x p) [] [] pos) (tCall sp [] E0 tNil) :=
  pe_call0 D.ok hr hg D.mg D.kp D.bd .nil pass0 hdb
end
/-! ### a text times a number -/
section
variable {X : Cx}
def repS (x : Str) (n : Int) : Str := ⟨(List.replicate n.toNat x.cps.toList).flatten.toArray⟩
theorem foldl_app (l : List (Array Nat)) : ∀ a : Array Nat, (l.foldl (· ++ ·) a).toList = a.toList ++ (l.map (·.toList)).flatten := by
  induction l with
  | nil => intro a; simp
  | cons x r ih => intro a; simp [ih]
theorem mul_rep (x : Str) (n : Int) : Txt.mul x n = repS x n := by
  unfold Txt.mul repS
  by_cases h : n < 1
  · rw [if_pos h, show n.toNat = 0 by omega]
    rfl
  · rw [if_neg h]
    by_cases h2 : (n == 1 || x.length == 0) = true
    · rw [if_pos h2]
      refine TL.ext_tl ?_
      show x.cps.toList = (List.replicate n.toNat x.cps.toList).flatten
      rcases (Bool.or_eq_true _ _).mp h2 with e | e
      · have : n = 1 := eq_of_beq e
        subst this
        simp
      · have : x.cps.toList = [] := by
          have e' : x.length = 0 := eq_of_beq e
          have e3 : x.cps.toList.length = 0 := by simpa [Str.length] using e'
          exact List.length_eq_zero_iff.mp e3
        rw [this]
        simp
    · rw [if_neg h2]
      refine TL.ext_tl ?_
      show ((List.replicate n.toNat x.cps).foldl (· ++ ·) #[]).toList = (List.replicate n.toNat x.cps.toList).flatten
      rw [foldl_app]
      simp
theorem op_mul_str : OpR X (binaryOp .Mult) (fun x y H Q => ∃ z n, x = .str z ∧ y = .int n ∧ -(2 ^ 63) ≤ n ∧ n ≤ 4096 ∧ z.length ≤ 4096 ∧ Q (.str (repS z n)) H) := by
  intro pins s σ H x y v u Q I rx ry h
  obtain ⟨z, n, rfl, rfl, h0, h1, h2, q⟩ := h
  obtain ⟨t, rfl⟩ := rx
  obtain ⟨t', rfl⟩ := ry
  refine SB.mul (mulOk_of 4096 4096 h2 (by exact_mod_cast h1) h0 (by decide) (by decide)) fun t2 k => ?_
  rw [mul_rep]
  exact ⟨.str (repS z n), H, I.tok _, ⟨_, rfl⟩, q⟩
end
/-! ### chunks -/
def chunks {α : Type} (k : Nat) (t : List α) : List (List α) := (List.range ((t.length + (k - 1)) / k)).map fun i => (t.drop (i * k)).take k
theorem chunks_nil {α : Type} {k : Nat} (hk : 0 < k) : chunks k ([] : List α) = [] := by
  unfold chunks
  rw [show (([] : List α).length + (k - 1)) / k = 0 from Nat.div_eq_of_lt (by simp; omega)]
  rfl
theorem chunks_cons {α : Type} {k : Nat} (hk : 0 < k) {t : List α} (ht : t ≠ []) : chunks k t = t.take k :: chunks k (t.drop k) := by
  unfold chunks
  have hl : 0 < t.length := List.length_pos_iff.mpr ht
  have e : (t.length + (k - 1)) / k = ((t.drop k).length + (k - 1)) / k + 1 := by
    rw [List.length_drop]
    by_cases h : t.length ≤ k
    · rw [show t.length - k = 0 by omega, show (0 + (k - 1)) / k = 0 from Nat.div_eq_of_lt (by omega)]
      exact Nat.div_eq_of_lt_le (by omega) (by omega)
    · rw [show t.length + (k - 1) = (t.length - k + (k - 1)) + k by omega, Nat.add_div_right _ hk]
  rw [e, List.range_succ_eq_map, List.map_cons, List.map_map]
  congr 1
  · simp
  · refine List.map_congr_left fun i _ => ?_
    show (t.drop ((i + 1) * k)).take k = ((t.drop k).drop (i * k)).take k
    rw [List.drop_drop, Nat.succ_mul, Nat.add_comm]
/-! ### slices and ranges -/
theorem cutS_at (z : Str) (a b : Nat) : cutS z (some (a : Int)) (some (b : Int)) = ⟨((TL.tl z).drop a |>.take (b - a)).toArray⟩ := by
  unfold cutS
  rw [HT.sIx_nat, HT.sIx_nat]
  refine TL.ext_tl ?_
  show ((TL.tl z).drop (min a z.length)).take (min b z.length - min a z.length) = ((TL.tl z).drop a).take (b - a)
  have hz : z.length = (TL.tl z).length := TL.len_tl z
  rw [hz]
  generalize TL.tl z = l
  by_cases h : a ≤ l.length
  · rw [Nat.min_eq_left h]
    by_cases h2 : b ≤ l.length
    · rw [Nat.min_eq_left h2]
    · rw [Nat.min_eq_right (by omega), List.take_of_length_le (by rw [List.length_drop]; omega), List.take_of_length_le (by rw [List.length_drop]; omega)]
  · have h' : l.length ≤ a := by omega
    rw [Nat.min_eq_right h', List.drop_of_length_le (Nat.le_refl _), List.drop_of_length_le h']
    simp
theorem cutV_at (z : List V) (a b : Nat) : cutV z (some (a : Int)) (some (b : Int)) = (z.drop a).take (b - a) := by
  unfold cutV
  rw [HT.sIx_nat, HT.sIx_nat]
  by_cases h : a ≤ z.length
  · rw [Nat.min_eq_left h]
    by_cases h2 : b ≤ z.length
    · rw [Nat.min_eq_left h2]
    · rw [Nat.min_eq_right (by omega), List.take_of_length_le (by rw [List.length_drop]; omega), List.take_of_length_le (by rw [List.length_drop]; omega)]
  · have h' : z.length ≤ a := by omega
    rw [Nat.min_eq_right h', List.drop_of_length_le (Nat.le_refl _), List.drop_of_length_le h']
    simp
theorem cutV_to (z : List V) (b : Nat) : cutV z none (some (b : Int)) = z.take b := by
  unfold cutV
  rw [HT.sIx_nat, HT.sIx_none]
  by_cases h2 : b ≤ z.length
  · rw [Nat.min_eq_left h2]; simp
  · rw [Nat.min_eq_right (by omega), List.take_of_length_le (by simp), List.take_of_length_le (by omega)]; simp
theorem cutS_to (z : Str) (b : Nat) : cutS z none (some (b : Int)) = ⟨((TL.tl z).take b).toArray⟩ := by
  have := cutS_at z 0 b
  have e : cutS z none (some (b : Int)) = cutS z (some ((0 : Nat) : Int)) (some (b : Int)) := by
    unfold cutS
    rw [HT.sIx_none, HT.sIx_nat, HT.sIx_nat, Nat.zero_min]
  rw [e, this]
  simp
theorem cutS_from (z : Str) (a : Nat) : cutS z (some (a : Int)) none = ⟨((TL.tl z).drop a).toArray⟩ := by
  have e : cutS z (some (a : Int)) none = cutS z (some (a : Int)) (some ((z.length : Nat) : Int)) := by
    unfold cutS
    rw [HT.sIx_none, HT.sIx_nat, HT.sIx_nat]
    simp
  rw [e, cutS_at, TL.len_tl, List.take_of_length_le (by simp)]
theorem rgC (n k : Nat) (hk : 0 < k) (hk2 : k < 1000) (hn : n < 2 ^ 40) : RgC 0 (n : Int) (k : Int) ((n + (k - 1)) / k) := by
  refine ⟨by omega, by omega, ?_, ?_⟩
  · have e := rangeSize_pos (len := (n : Int)) (c := (k : Int)) (by omega) (by omega)
    have q : ((n : Int) + (k : Int) - 1) / (k : Int) ≤ (n : Int) + (k : Int) - 1 := Int.ediv_le_self _ (by omega)
    have q0 : 0 ≤ ((n : Int) + (k : Int) - 1) / (k : Int) := Int.ediv_nonneg (by omega) (by omega)
    unfold Builtin.Range.small
    rw [e]
    simp only [Builtin.Range.rangeFitsLong, Bool.and_eq_true, Bool.or_eq_true, decide_eq_true_eq, beq_iff_eq, show ((k : Int) > 0) by omega, if_true]
    have p1 : (0:Int) < 2 ^ 63 := by decide
    omega
  · rw [rangeSize_pos (by omega) (by omega)]
    rw [show (n : Int) + (k : Int) - 1 = ((n + (k - 1) : Nat) : Int) by omega]
    exact (Int.natCast_ediv _ _).symm
end LH
namespace LH
open PySem PySem.Spec PyProof.Rows L2
theorem walk_listF {K : PySem.W.Frag} {a : Addr} {xs : List V} : Walk (Itl K a) xs.length (fun H => SqL K H a xs) (YFn fun i => xs.getD i .non) :=
  walk_list.mono (fun _ h => h) fun i H x H' hi _ y => ⟨y.1, by show x = xs.getD i .non; rw [List.getD_eq_getElem?_getD, y.2]; rfl⟩
theorem walk_tupF {K : PySem.W.Frag} {a : Addr} {xs : List V} : Walk (Itt K a) xs.length (fun H => SqT K H a xs) (YFn fun i => xs.getD i .non) :=
  walk_tup.mono (fun _ h => h) fun i H x H' hi _ y => ⟨y.1, by show x = xs.getD i .non; rw [List.getD_eq_getElem?_getD, y.2]; rfl⟩
theorem getD_map_int (bs : List Int) (i : Nat) (h : i < bs.length) : (bs.map V.int).getD i .non = .int (bs.getD i 0) := by
  rw [List.getD_eq_getElem?_getD, List.getElem?_map, List.getElem?_eq_getElem h, List.getD_eq_getElem?_getD, List.getElem?_eq_getElem h]
  rfl
theorem range_getD {α : Type} (xs : List α) (d : α) : (List.range xs.length).map (fun i => xs.getD i d) = xs := by
  apply List.ext_getElem?
  intro i
  rw [List.getElem?_map]
  by_cases h : i < xs.length
  · rw [List.getElem?_range h]
    show some (xs.getD i d) = _
    rw [List.getD_eq_getElem?_getD, List.getElem?_eq_getElem h]
    rfl
  · rw [List.getElem?_eq_none (by rw [List.length_range]; omega), List.getElem?_eq_none (by omega)]
    rfl
section
variable {X : Cx}
theorem ixL (K : PySem.W.Frag) (h : X.K = K := by rfl) : IxR X (rIxL K) := h ▸ ix_list
theorem ixT (K : PySem.W.Frag) (h : X.K = K := by rfl) : IxR X (rIxT K) := h ▸ ix_tup
theorem slL (K : PySem.W.Frag) (h : X.K = K := by rfl) : SlR X (rSlL K) := h ▸ sl_list
theorem slT (K : PySem.W.Frag) (h : X.K = K := by rfl) : SlR X (rSlT K) := h ▸ sl_tup
theorem cIsi (K : PySem.W.Frag) (h : X.K = K := by rfl) : CallR X (.builtin "isinstance") (rIsi K) := h ▸ call_isi
def rLenS (K : PySem.W.Frag) : List V → Hp → VK → Prop := fun xs H Q => ∃ p ys, xs = [.ref p] ∧ (SqL K H p ys ∨ SqT K H p ys) ∧ Q (.int ys.length) H
theorem cLen (K : PySem.W.Frag) (h : X.K = K := by rfl) : CallR X (.builtin "len") (rLenS K) := h ▸ call_len_seq
theorem cAll (K : PySem.W.Frag) (h : X.K = K := by rfl) (hc : X.calm = true := by rfl) : CallR X (.builtin "all") (rAll K) := h ▸ cr_all hc
theorem cAny (K : PySem.W.Frag) (h : X.K = K := by rfl) (hc : X.calm = true := by rfl) : CallR X (.builtin "any") (rAny K) := h ▸ cr_any hc
theorem oIn (K : PySem.W.Frag) (h : X.K = K := by rfl) : OpR X (compareOp .In) (rIn K false) := h ▸ op_in_seq
theorem oNotIn (K : PySem.W.Frag) (h : X.K = K := by rfl) : OpR X (compareOp .NotIn) (rIn K true) := h ▸ op_notIn_seq
theorem oEqD (K : PySem.W.Frag) (hu : X.A.units + 64 < cLine) (h : X.K = K := by rfl) : OpR X (compareOp .Eq) (rEqD K) := h ▸ op_eqD hu
theorem oNeD (K : PySem.W.Frag) (hu : X.A.units + 64 < cLine) (h : X.K = K := by rfl) : OpR X (compareOp .NotEq) (rNeD K) := h ▸ op_neD hu
end
end LH
namespace LH
open PySem PySem.Spec PyProof.Rows L2
/-! ### data: flat lists compared -/
def OkS (x : Str) : Prop := ∀ c ∈ TL.tl x, c < 1114112
theorem strOk_of (x : Str) (h : OkS x) : PyData.strOk x = true := by
  unfold PyData.strOk
  rw [Array.all_eq_true']
  intro c hc
  exact decide_eq_true (h c (Array.mem_toList_iff.mpr hc))
theorem dpAll_ints {K : PySem.W.Frag} {H : Hp} : ∀ bs : List Int, DpAll K H (bs.map V.int) (bs.map PyData.int)
  | [] => .nil
  | b :: r => .cons (.int b) (dpAll_ints r)
theorem dpAll_strs {K : PySem.W.Frag} {H : Hp} : ∀ bs : List Str, DpAll K H (bs.map V.str) (bs.map PyData.str)
  | [] => .nil
  | b :: r => .cons (.str b) (dpAll_strs r)
theorem dp_ints {K : PySem.W.Frag} {H : Hp} {a : Addr} {bs : List Int} (h : SqL K H a (bs.map V.int)) : Dp K H (.ref a) (.list (bs.map PyData.int)) := .lst h (dpAll_ints bs)
theorem dp_strs {K : PySem.W.Frag} {H : Hp} {a : Addr} {bs : List Str} (h : SqL K H a (bs.map V.str)) : Dp K H (.ref a) (.list (bs.map PyData.str)) := .lst h (dpAll_strs bs)
theorem lay_strs : ∀ bs : List Str, (∀ x ∈ bs, OkS x) → PyData.canLayAll0 (bs.map PyData.str) = true
  | [], _ => by simp [PyData.canLayAll0]
  | b :: r, h => by simp [PyData.canLayAll0, PyData.canLay0, strOk_of b (h b (by simp)), lay_strs r fun x hx => h x (by simp [hx])]
theorem depth_strs : ∀ bs : List Str, PyData.depthAll (bs.map PyData.str) = 0
  | [] => rfl
  | _ :: r => by simp [PyData.depthAll, PyData.depth, depth_strs r]
theorem shaped_strs (bs : List Str) (h : ∀ x ∈ bs, OkS x) : SeqAt.shaped (.list (bs.map PyData.str)) = true := by
  simp [SeqAt.shaped, PyData.canLay0, PyData.depth, lay_strs bs h, depth_strs]
theorem shaped_intsL (bs : List Int) : SeqAt.shaped (.list (bs.map PyData.int)) = true := PySem.W.ke_shaped_ints bs
theorem eqv_ints : ∀ bs cs : List Int, PyData.eqvAll (bs.map PyData.int) (cs.map PyData.int) = decide (bs = cs)
  | [], [] => by simp [PyData.eqvAll]
  | [], _ :: _ => by simp [PyData.eqvAll]
  | _ :: _, [] => by simp [PyData.eqvAll]
  | b :: r, c :: q => by
    rw [List.map_cons, List.map_cons, PyData.eqvAll, PyData.eqv, eqv_ints r q]
    by_cases h : b = c <;> simp [h]
theorem eqv_strs : ∀ bs cs : List Str, PyData.eqvAll (bs.map PyData.str) (cs.map PyData.str) = decide (bs = cs)
  | [], [] => by simp [PyData.eqvAll]
  | [], _ :: _ => by simp [PyData.eqvAll]
  | _ :: _, [] => by simp [PyData.eqvAll]
  | b :: r, c :: q => by
    rw [List.map_cons, List.map_cons, PyData.eqvAll, PyData.eqv, eqv_strs r q]
    by_cases h : b = c <;> simp [h]
theorem eqv_intsL (bs cs : List Int) : PyData.eqv (.list (bs.map PyData.int)) (.list (cs.map PyData.int)) = decide (bs = cs) := by rw [PyData.eqv, eqv_ints]
theorem eqv_strsL (bs cs : List Str) : PyData.eqv (.list (bs.map PyData.str)) (.list (cs.map PyData.str)) = decide (bs = cs) := by rw [PyData.eqv, eqv_strs]
theorem map_true {α : Type} (l : List α) : (l.map fun _ => true).all id = true := by
  induction l with
  | nil => rfl
  | cons x r ih => simpa using ih
end LH

namespace K05
open PySem PySem.Spec PyProof.Rows L2 LH
def topS (i : Nat) : Stmt := PySem.Challenge.pw_letterhouse_k05_sixty_told.main.body.getD i (.Pass ⟨0, 0, 0, 0⟩)
def S64 : Str := Str.ofString "ABCDEFGHIJKLMNOPQRSTUVWXYZabcdefghijklmnopqrstuvwxyz0123456789+/"
structure Tx (mg : Str → Option Value) (t1 t2 : Tok) : Prop where
  n_all : mg "all" = none
  n_bool : mg "bool" = none
  n_enumerate : mg "enumerate" = none
  n_int : mg "int" = none
  n_isinstance : mg "isinstance" = none
  n_len : mg "len" = none
  n_list : mg "list" = none
  n_range : mg "range" = none
  n_str : mg "str" = none
  m_ROW_SIGNS : mg "ROW_SIGNS" = some (.int 60 t1)
  m_SIXTY_FOUR : mg "SIXTY_FOUR" = some (.str S64 t2)
section
variable {P : Program} {w : World} {K : PySem.W.Frag} {mg : Str → Option Value} {base : Heap} {t1 t2 : Tok}
abbrev s_is_number : Stmt := topS 5
abbrev N_is_number : List Str := ["thing"]
theorem sc_is_number : FnScope N_is_number ["thing"] (defScope s_is_number) := ⟨rfl, rfl, rfl, by decide +kernel, rfl, by decide +kernel, by decide +kernel⟩
def sp_is_number : Sp := fun vs H Q _ => ∃ i : Int, vs = [.int i] ∧ Tell H (.bl true) Q
theorem ok_is_number {f : Addr} {fd : FuncData} {k : Nat} (F : Fun K "is_number" "is_number" s_is_number f fd) (T : Tx mg t1 t2) : FnOk P w K mg base CX0 (k + 1) f fd ["thing"] sp_is_number := by
  refine F.ok sc_is_number (fun vs H Q E h => ?_) (fun cdv A outer s H vs Q E hr h => ?_)
  · obtain ⟨i, rfl, _⟩ := h
    rfl
  · have nd := sc_is_number.nd
    obtain ⟨i, rfl, q⟩ := h
    refine ⟨_, (pss_one (ps_ret (pe_and (pe_callB call_isi (by rfl) T.n_isinstance (by decide +kernel) (pa_cons (pv 0) (pa_cons (pe_bltn (v := .ty "int") (by rfl) T.n_int (by decide +kernel) rfl) pa_nil))) (pe_one (pe_not (pe_callB call_isi (by rfl) T.n_isinstance (by decide +kernel) (pa_cons (pv 0) (pa_cons (pe_bltn (v := .ty "bool") (by rfl) T.n_bool (by decide +kernel) rfl) pa_nil)))))))), ?_⟩
    refine ⟨.int i, rfl, .int i, .ty "int", _, _, true, rfl, .ty _, .base (.int i), kit_ty (by decide +kernel), true, rfl, iteT ?_⟩
    refine ⟨.int i, rfl, .int i, .ty "bool", _, _, false, rfl, .ty _, .base (.int i), kit_ty (by decide +kernel), false, rfl, q _ (Same.refl _)⟩
/-! ### _law_cell, _law_mixed, _law_next, _law_sixty -/
abbrev s__law_cell : Stmt := topS 12
abbrev N__law_cell : List Str := ["_law_script", "_law_k"]
theorem sc__law_cell : FnScope N__law_cell ["_law_script", "_law_k"] (defScope s__law_cell) := ⟨rfl, rfl, rfl, by decide +kernel, rfl, by decide +kernel, by decide +kernel⟩
def sp_cell (K : PySem.W.Frag) : Sp := fun vs H Q _ => ∃ (a : Addr) (ns : List Int) (k : Nat), vs = [.ref a, .int (k : Int)] ∧ SqL K H a (ns.map V.int) ∧ Tell H (.int (ns.getD k 0)) Q
theorem ok_cell {f : Addr} {fd : FuncData} {k : Nat} (F : Fun K "_law_cell" "_law_cell" s__law_cell f fd) (T : Tx mg t1 t2) : FnOk P w K mg base CX0 (k + 1) f fd ["_law_script", "_law_k"] (sp_cell K) := by
  refine F.ok sc__law_cell (fun vs H Q E h => ?_) (fun cdv A outer s H vs Q E hr h => ?_)
  · obtain ⟨a, ns, j, rfl, _⟩ := h
    rfl
  · have nd := sc__law_cell.nd
    obtain ⟨a, ns, j, rfl, hS, q⟩ := h
    refine ⟨_, (pss_cons (ps_if (pt_cmpR op_lt (pv 1) (pe_callB call_len_seq (by rfl) T.n_len (by decide +kernel) (pa_cons (pv 0) pa_nil)) (nomark _))
        (pss_one (ps_ret (pe_ix ix_list (pv 0) (pv 1) (fun _ _ => rfl))))
        pss_nil)
      (pss_one (ps_ret pe_int))), ?_⟩
    refine ⟨.int j, rfl, .ref a, rfl, a, _, rfl, .inl hS, _, _, rfl, rfl, _, rfl, ite2 (fun e => ?_) (fun e => ?_)⟩
    · have h1 : j < ns.length := by
        have := of_decide_eq_true e
        rw [List.length_map] at this
        omega
      refine ⟨.ref a, rfl, .int j, rfl, a, _, j, .int (ns[j]), rfl, rfl, hS, atI_nat (by rw [List.getElem?_map, List.getElem?_eq_getElem h1]; rfl), ?_⟩
      have := q H (Same.refl _)
      rw [List.getD_eq_getElem?_getD, List.getElem?_eq_getElem h1] at this
      exact this
    · have h1 : ns.length ≤ j := by
        have : ¬ (j : Int) < ((ns.map V.int).length : Nat) := fun z => e (decide_eq_true z)
        rw [List.length_map] at this
        omega
      have := q H (Same.refl _)
      rw [List.getD_eq_getElem?_getD, List.getElem?_eq_none h1] at this
      exact this
abbrev s__law_mixed : Stmt := topS 13
abbrev N__law_mixed : List Str := ["_law_cell_here", "_law_k"]
theorem sc__law_mixed : FnScope N__law_mixed ["_law_cell_here", "_law_k"] (defScope s__law_mixed) := ⟨rfl, rfl, rfl, by decide +kernel, rfl, by decide +kernel, by decide +kernel⟩
def mixed (c k : Int) : Int := (c * 48271 + 7919 * k * k * k + 104729) % 2147483647 * 16807 % 2147483629
theorem mixed_lt (c k : Int) : 0 ≤ mixed c k ∧ mixed c k < 2147483629 := ⟨Int.emod_nonneg _ (by decide), Int.emod_lt_of_pos _ (by decide)⟩
def sp_mixed : Sp := fun vs H Q _ => ∃ (c k : Int), vs = [.int c, .int k] ∧ 0 ≤ k ∧ k < 1000 ∧ Tell H (.int (mixed c k)) Q
theorem ok_mixed {f : Addr} {fd : FuncData} {k : Nat} (F : Fun K "_law_mixed" "_law_mixed" s__law_mixed f fd) : FnOk P w K mg base CX0 (k + 1) f fd ["_law_cell_here", "_law_k"] sp_mixed := by
  refine F.ok sc__law_mixed (fun vs H Q E h => ?_) (fun cdv A outer s H vs Q E hr h => ?_)
  · obtain ⟨c, j, rfl, _⟩ := h
    rfl
  · have nd := sc__law_mixed.nd
    obtain ⟨c, j, rfl, h0, h1, q⟩ := h
    refine ⟨_, (pss_one (ps_ret (pe_op op_mod (pe_op op_mul (pe_op op_mod (pe_op op_add (pe_op op_add (pe_op op_mul (pv 0) pe_int) (pe_op op_mul (pe_op op_mul (pe_op op_mul pe_int (pv 1)) (pv 1)) (pv 1))) pe_int) pe_int) pe_int) pe_int))), ?_⟩
    refine ⟨.int c, rfl, c, 48271, rfl, rfl, .inr (by decide), .int j, rfl, 7919, j, rfl, rfl, .inl (by decide), .int j, rfl, _, j, rfl, rfl, .inr ⟨by omega, by omega⟩, .int j, rfl, _, j, rfl, rfl, .inr ⟨by omega, by omega⟩, _, _, rfl, rfl, _, _, rfl, rfl, _, _, rfl, rfl, (show (0 : Int) < 2147483647 by decide), _, _, rfl, rfl, .inr (by decide), _, _, rfl, rfl, (show (0 : Int) < 2147483629 by decide), q _ (Same.refl _)⟩
abbrev s__law_next : Stmt := topS 14
abbrev N__law_next : List Str := ["_law_number_here", "_law_k"]
theorem sc__law_next : FnScope N__law_next ["_law_number_here", "_law_k"] (defScope s__law_next) := ⟨rfl, rfl, rfl, by decide +kernel, rfl, by decide +kernel, by decide +kernel⟩
def nextN (n k : Int) : Int := (n * (k * k + 1) + 1009 * k + 11) * 69621 % 2147483629
theorem nextN_lt (c k : Int) : 0 ≤ nextN c k ∧ nextN c k < 2147483629 := ⟨Int.emod_nonneg _ (by decide), Int.emod_lt_of_pos _ (by decide)⟩
def sp_next : Sp := fun vs H Q _ => ∃ (c k : Int), vs = [.int c, .int k] ∧ 0 ≤ c ∧ c < 2147483648 ∧ 0 ≤ k ∧ k < 1000 ∧ Tell H (.int (nextN c k)) Q
theorem ok_next {f : Addr} {fd : FuncData} {k : Nat} (F : Fun K "_law_next" "_law_next" s__law_next f fd) : FnOk P w K mg base CX0 (k + 1) f fd ["_law_number_here", "_law_k"] sp_next := by
  refine F.ok sc__law_next (fun vs H Q E h => ?_) (fun cdv A outer s H vs Q E hr h => ?_)
  · obtain ⟨c, j, rfl, _⟩ := h
    rfl
  · have nd := sc__law_next.nd
    obtain ⟨c, j, rfl, hc, hc1, h0, h1, q⟩ := h
    refine ⟨_, (pss_one (ps_ret (pe_op op_mod (pe_op op_mul (pe_op op_add (pe_op op_add (pe_op op_mul (pv 0) (pe_op op_add (pe_op op_mul (pv 1) (pv 1)) pe_int)) (pe_op op_mul pe_int (pv 1))) pe_int) pe_int) pe_int))), ?_⟩
    refine ⟨.int c, rfl, .int j, rfl, .int j, rfl, j, j, rfl, rfl, .inr ⟨by omega, by omega⟩, _, 1, rfl, rfl, c, _, rfl, rfl, .inl ⟨by omega, by omega⟩, .int j, rfl, 1009, j, rfl, rfl, .inl (by decide), _, _, rfl, rfl, _, _, rfl, rfl, _, _, rfl, rfl, .inr (by decide), _, _, rfl, rfl, (show (0 : Int) < 2147483629 by decide), q _ (Same.refl _)⟩
abbrev s__law_sixty : Stmt := topS 16
abbrev N__law_sixty : List Str := []
theorem sc__law_sixty : FnScope N__law_sixty [] (defScope s__law_sixty) := ⟨rfl, rfl, rfl, by decide +kernel, rfl, by decide +kernel, by decide +kernel⟩
def sp_sixty : Sp := fun vs H Q _ => vs = [] ∧ Q (.str S64) H
theorem ok_sixty {f : Addr} {fd : FuncData} {k : Nat} (F : Fun K "_law_sixty" "_law_sixty" s__law_sixty f fd) : FnOk P w K mg base CX0 (k + 1) f fd [] sp_sixty := by
  refine F.ok sc__law_sixty (fun vs H Q E h => ?_) (fun cdv A outer s H vs Q E hr h => ?_)
  · obtain ⟨rfl, _⟩ := h
    rfl
  · have nd := sc__law_sixty.nd
    obtain ⟨rfl, q⟩ := h
    refine ⟨_, (pss_one (ps_ret pe_str)), q⟩
end
end K05

namespace K05
open PySem PySem.Spec PyProof.Rows L2 LH
section
variable {P : Program} {w : World} {K : PySem.W.Frag} {mg : Str → Option Value} {base : Heap} {t1 t2 : Tok}
/-! ### _law_number -/
abbrev s__law_number : Stmt := topS 18
abbrev N__law_number : List Str := ["_law_bits_here", "_law_found", "_law_bit"]
theorem sc__law_number : FnScope N__law_number ["_law_bits_here"] (defScope s__law_number) := ⟨rfl, rfl, rfl, by decide +kernel, rfl, by decide +kernel, by decide +kernel⟩
def numB (bs : List Int) : Int := bs.foldl (fun n b => 2 * n + b) 0
def sp_number (K : PySem.W.Frag) : Sp := fun vs H Q _ => ∃ (a : Addr) (bs : List Int), vs = [.ref a] ∧ SqL K H a (bs.map V.int) ∧ Tell H (.int (numB bs)) Q
theorem ok_number {f : Addr} {fd : FuncData} {k : Nat} (F : Fun K "_law_number" "_law_number" s__law_number f fd) : FnOk P w K mg base CX0 (k + 1) f fd ["_law_bits_here"] (sp_number K) := by
  refine F.ok sc__law_number (fun vs H Q E h => ?_) (fun cdv A outer s H vs Q E hr h => ?_)
  · obtain ⟨a, bs, rfl, _⟩ := h
    rfl
  · have nd := sc__law_number.nd
    obtain ⟨a, bs, rfl, hS, q⟩ := h
    refine ⟨_, (pss_cons (ps_set (i := 1) nd rfl (.inl rfl) pe_int)
      (pss_cons (ps_for PassesOwn.never rfl (pi_list (pv 0)) (pg_name (i := 2) nd rfl (Or.inl rfl))
        (pss_one (ps_set (i := 1) nd rfl (.inl rfl) (pe_op op_add (pe_op op_mul pe_int (pv 1)) (pv 2)))))
      (pss_one (ps_ret (pv 1))))), ?_⟩
    refine ⟨.ref a, rfl, a, rfl, ⟨_, hS⟩, for_it walk_list (fun i σ H' => ∃ y, σ = [some (.ref a), some (.int (numB (bs.take i))), y] ∧ H' = H) ⟨_, rfl, rfl⟩ (fun i σ H' _ h => by obtain ⟨y, rfl, rfl⟩ := h; exact hS) (fun i x σ H' H'' hi hP hy => ?_) (fun σ H' hP => ?_)⟩
    · obtain ⟨y, rfl, rfl⟩ := hP
      obtain ⟨rfl, hx⟩ := hy
      rw [List.length_map] at hi
      rw [List.getElem?_map, List.getElem?_eq_getElem hi] at hx
      obtain rfl := Option.some.inj hx
      refine ⟨_, rfl, 2, _, rfl, rfl, .inl (by decide), _, rfl, _, _, rfl, rfl, some (.int bs[i]), ?_, rfl⟩
      rw [List.take_add_one, List.getElem?_eq_getElem hi]
      unfold numB
      rw [List.foldl_append]
      rfl
    · obtain ⟨y, rfl, rfl⟩ := hP
      refine ⟨_, rfl, ?_⟩
      rw [List.length_map, List.take_length]
      exact q _ (Same.refl _)
/-! ### _law_bits -/
abbrev s__law_bits : Stmt := topS 17
abbrev N__law_bits : List Str := ["_law_number_here", "_law_many", "_law_k"]
theorem sc__law_bits : FnScope N__law_bits ["_law_number_here", "_law_many"] (defScope s__law_bits) := ⟨rfl, rfl, rfl, by decide +kernel, rfl, by decide +kernel, by decide +kernel⟩
def bitsOf (n : Int) (m : Nat) : List Int := (List.range m).map fun k => n / 2 ^ (m - 1 - k) % 2
def sp_bits : Sp := fun vs H Q _ => ∃ (n : Int) (m : Nat), vs = [.int n, .int (m : Int)] ∧ m ≤ 8 ∧ New H ((bitsOf n m).map V.int) Q
theorem pow_at : ∀ j : Fin 8, ([.int 1, .int 2, .int 4, .int 8, .int 16, .int 32, .int 64, .int 128] : List V)[j.val]? = some (.int (2 ^ j.val)) := by decide
theorem ok_bits {f : Addr} {fd : FuncData} {k : Nat} (F : Fun K "_law_bits" "_law_bits" s__law_bits f fd) (T : Tx mg t1 t2) : FnOk P w K mg base CX0 (k + 1) f fd ["_law_number_here", "_law_many"] sp_bits := by
  refine F.ok sc__law_bits (fun vs H Q E h => ?_) (fun cdv A outer s H vs Q E hr h => ?_)
  · obtain ⟨a, bs, rfl, _⟩ := h
    rfl
  · have nd := sc__law_bits.nd
    obtain ⟨n, m, rfl, hm, q⟩ := h
    refine ⟨_, (pss_one (ps_ret (pe_lc (own := [("_law_k", 2)]) (g := gName 2) (by rfl) nd (pi_range1 (by rfl) T.n_range (pa_cons (pv 1) pa_nil)) (blkOk_by (N := N__law_bits) (sc := defScope s__law_bits) (by decide +kernel)) (fun _ _ _ _ _ => (pg_name (i := 2) nd rfl (Or.inl rfl))) (fun _ _ _ _ _ => pts_nil) (fun _ _ _ _ _ => (pe_op op_mod (pe_op op_fdiv (pv 0) (pe_ix (ixL K) (pe_lst (pa_cons pe_int (pa_cons pe_int (pa_cons pe_int (pa_cons pe_int (pa_cons pe_int (pa_cons pe_int (pa_cons pe_int (pa_cons pe_int pa_nil))))))))) (pe_op op_sub (pe_op op_sub (pv 1) pe_int) (pv 2)) (fun _ _ => rfl))) pe_int))))), ?_⟩
    refine ⟨.int m, rfl, m, rfl, by omega, by omega, fun D hD => lc_pure (n := m) (fun i => .int (0 + (i : Int))) (fun i => .int (n / 2 ^ (m - 1 - i) % 2)) walk_range (fun _ _ => trivial) hD (by rw [sizeLine_eq]; omega) (fun i H1 Q1 hi sm q1 => ?_) (fun H1 sm e => ?_)⟩
    · have hj : m - 1 - i < 8 := by omega
      refine ⟨.int n, rfl, by rw [sizeLine_eq]; decide, fun p np => ⟨.int m, rfl, m, 1, rfl, rfl, .int (0 + i), rfl, _, _, rfl, rfl, p, _, _, .int (2 ^ (m - 1 - i)), rfl, rfl, .inl (.inl upd_same), ?_, n, 2 ^ (m - 1 - i), rfl, rfl, ?_, _, 2, rfl, rfl, (show (0 : Int) < 2 by decide), q1 _ (same_upd np)⟩⟩
      · exact at_of (j := m - 1 - i) (by omega) (pow_at ⟨m - 1 - i, hj⟩)
      · have : ∀ j : Fin 8, (0 : Int) < 2 ^ j.val ∧ (2 : Int) ^ j.val < 1073741824 := by decide
        exact this ⟨m - 1 - i, hj⟩
    · refine q H1 D sm hD ?_
      rw [e]
      unfold bitsOf
      rw [List.map_map]
      rfl
/-! ### _law_bytes -/
abbrev s__law_bytes : Stmt := topS 15
abbrev N__law_bytes : List Str := ["_law_script", "_law_found", "_law_k", "_law_cell_here", "_law_number_here", "_law_j", "_law_more"]
theorem sc__law_bytes : FnScope N__law_bytes ["_law_script"] (defScope s__law_bytes) := ⟨rfl, rfl, rfl, by decide +kernel, rfl, by decide +kernel, by decide +kernel⟩
def Bytes (bs : List Int) : Prop := ∀ b ∈ bs, 0 ≤ b ∧ b < 256
def sp_bytes (K : PySem.W.Frag) : Sp := fun vs H Q _ => ∃ (a : Addr) (ns : List Int), vs = [.ref a] ∧ SqL K H a (ns.map V.int) ∧ ns.length ≤ 63 ∧ ∀ bs, Bytes bs → bs.length ≤ 252 → New H (bs.map V.int) Q
theorem pick_at (x : Int) : ∀ m : Int, 0 ≤ m → m < 4 → ∃ b : Int, atI [V.int (x / 4 % 256), .int 255, .int 0, .int (x / 4 % 256)] m = some (.int b) ∧ 0 ≤ b ∧ b < 256 := by
  intro m h0 h1
  have h3 : 0 ≤ x / 4 % 256 ∧ x / 4 % 256 < 256 := ⟨Int.emod_nonneg _ (by decide), Int.emod_lt_of_pos _ (by decide)⟩
  have : m = 0 ∨ m = 1 ∨ m = 2 ∨ m = 3 := by omega
  rcases this with rfl | rfl | rfl | rfl
  · exact ⟨_, rfl, h3⟩
  · exact ⟨255, rfl, by decide⟩
  · exact ⟨0, rfl, by decide⟩
  · exact ⟨_, rfl, h3⟩
theorem ok_bytes {f fM fN : Addr} {fd fdM fdN : FuncData} (F : Fun K "_law_bytes" "_law_bytes" s__law_bytes f fd) (T : Tx mg t1 t2) (D__law_mixed : Def P w K mg base "_law_mixed" 1 fM fdM ["_law_cell_here", "_law_k"] sp_mixed) (D__law_next : Def P w K mg base "_law_next" 1 fN fdN ["_law_number_here", "_law_k"] sp_next) :
    FnOk P w K mg base CX0 2 f fd ["_law_script"] (sp_bytes K) := by
  refine F.ok sc__law_bytes (fun vs H Q E h => ?_) (fun cdv A outer s H vs Q E hr h => ?_)
  · obtain ⟨a, ns, rfl, _⟩ := h
    rfl
  · have nd := sc__law_bytes.nd
    obtain ⟨a, ns, rfl, hS, hlen, q⟩ := h
    refine ⟨_, (pss_cons (ps_set (i := 1) nd rfl (.inl rfl) (pe_lst pa_nil))
      (pss_cons (ps_for PassesOwn.never rfl (pi_enum (by rfl) T.n_enumerate (pa_cons (pe_slice sl_list (pv 0) po_none (po_some pe_int)) pa_nil)) (pg_tup rfl (pgs_cons (pg_name (i := 2) nd rfl (Or.inl rfl)) (pgs_cons (pg_name (i := 3) nd rfl (Or.inl rfl)) pgs_nil)))
        (pss_cons (ps_set (i := 4) nd rfl (.inl rfl) (pe_def D__law_mixed (hr.mono (by decide)) (pa_cons (pv 3) (pa_cons (pv 2) pa_nil))))
        (pss_one (ps_for PassesOwn.never rfl (pi_range1 (by rfl) T.n_range (pa_cons (pe_op op_add pe_int (pe_op op_mod (pv 4) pe_int)) pa_nil)) (pg_name (i := 5) nd rfl (Or.inl rfl))
          (pss_cons (ps_set (i := 6) nd rfl (.inl rfl) (pe_def D__law_next (hr.mono (by decide)) (pa_cons (pv 4) (pa_cons (pv 5) pa_nil))))
          (pss_one (ps_expr (pe_bm PySem.F.plainAttrs_list PySem.F.slot_list_append PySem.F.type_list_append mt_append (pv 1) (pa_cons (pe_ix (ixL K) (pe_lst (pa_cons (pe_op op_mod (pe_op op_fdiv (pv 6) pe_int) pe_int) (pa_cons pe_int (pa_cons pe_int (pa_cons (pe_op op_mod (pe_op op_fdiv (pv 6) pe_int) pe_int) pa_nil))))) (pe_op op_mod (pv 6) pe_int) (fun _ _ => rfl)) pa_nil)))))))))
      (pss_one (ps_ret (pv 1))))), ?_⟩
    refine ⟨Nat.zero_le _, fun o no => ?_⟩
    have s1 : Same H (upd H o (.lst [])) := same_upd no
    refine ⟨.ref a, rfl, 63, rfl, a, _, rfl, s1.seq hS, fun c nc => ?_⟩
    have s2 : Same (upd H o (.lst [])) (upd (upd H o (.lst [])) c (.lst (cutV (ns.map V.int) none (some 63)))) := same_upd nc
    have nco : c ≠ o := fun e => by
      rw [e, upd_same] at nc
      cases nc
    have ecut : cutV (ns.map V.int) none (some 63) = ns.map V.int := by
      rw [show (63 : Int) = ((63 : Nat) : Int) from rfl, cutV_to, List.take_of_length_le (by rw [List.length_map]; exact hlen)]
    rw [ecut] at s2 ⊢
    refine ⟨c, ns.map V.int, rfl, .inl (.inl upd_same), for_it walk_enum (fun i σ H' => ∃ y2 y3 y4 y5 y6 bs, σ = [some (.ref a), some (.ref o), y2, y3, y4, y5, y6] ∧ Same H H' ∧ H' c = some (.lst (ns.map V.int)) ∧ H' o = some (.lst (bs.map V.int)) ∧ Bytes bs ∧ bs.length ≤ 4 * i)
      ⟨none, none, none, none, none, [], rfl, s1.trans s2, upd_same, by rw [upd_ne nco.symm, upd_same]; rfl, (fun b hb => by cases hb), Nat.le_refl _⟩
      (fun i σ H' _ h => by obtain ⟨_, _, _, _, _, _, rfl, _, e, _⟩ := h; exact .inl (.inl e)) (fun i x σ H' H'' hi hP hy => ?_) (fun σ H' hP => ?_)⟩
    · obtain ⟨y2, y3, y4, y5, y6, bs, rfl, sm, ec, eo, hb, hl⟩ := hP
      obtain ⟨U, x1, x2, rfl, nU, rfl, f1, f2⟩ := hy
      rw [List.length_map] at hi
      have f2 : (ns.map V.int)[i]? = some x2 := f2
      rw [List.getElem?_map, List.getElem?_eq_getElem hi] at f2
      obtain rfl := Option.some.inj f1
      obtain rfl := Option.some.inj f2
      have sU : Same H' (upd H' U (.tup [.int (i : Nat), .int ns[i]])) := same_upd nU
      refine ⟨U, _, rfl, .inl (.inl upd_same), rfl, _, _, rfl, _, _, rfl, rfl, ?_⟩
      refine ⟨_, rfl, _, rfl, ns[i], (i : Int), rfl, by omega, by omega, fun H2 sm2 => ?_⟩
      have hM := mixed_lt ns[i] (i : Int)
      generalize mixed ns[i] (i : Int) = M at hM
      have hm4 : 0 ≤ M % 4 ∧ M % 4 < 4 := ⟨Int.emod_nonneg _ (by decide), Int.emod_lt_of_pos _ (by decide)⟩
      refine ⟨.int M, rfl, M, 4, rfl, rfl, (show (0 : Int) < 4 by decide), 1, _, rfl, rfl, 1 + M % 4, rfl, by omega, by omega, ?_⟩
      have eo2 : H2 o = some (.lst (bs.map V.int)) := sm2 _ _ (sU _ _ eo)
      have ec2 := sm2 _ _ (sU _ _ ec)
      have smm : Same H H2 := (sm.trans sU).trans sm2
      refine for_it walk_range (fun j σ H' => ∃ y5 y6 bs, σ = [some (.ref a), some (.ref o), some (.int (i : Nat)), some (.int ns[i]), some (.int M), y5, y6] ∧ Same H H' ∧ H' c = some (.lst (ns.map V.int)) ∧ H' o = some (.lst (bs.map V.int)) ∧ Bytes bs ∧ bs.length ≤ 4 * i + j)
        ⟨y5, y6, bs, rfl, smm, ec2, eo2, hb, hl⟩ (fun _ _ _ _ _ => trivial) (fun j x σ H3 H4 hj hP hy => ?_) (fun σ H3 hP => ?_)
      · obtain ⟨y5, y6, bs, rfl, sm3, ec3, eo3, hb, hl⟩ := hP
        obtain ⟨rfl, rfl⟩ := hy
        refine ⟨_, rfl, _, rfl, M, 0 + (j : Int), rfl, by omega, by omega, by omega, by omega, fun H5 sm5 => ?_⟩
        have hN := nextN_lt M (0 + (j : Int))
        generalize nextN M (0 + (j : Int)) = R at hN
        have hr4 : 0 ≤ R % 4 ∧ R % 4 < 4 := ⟨Int.emod_nonneg _ (by decide), Int.emod_lt_of_pos _ (by decide)⟩
        obtain ⟨b, eb, hb0, hb1⟩ := pick_at R (R % 4) hr4.1 hr4.2
        have eo5 := sm5 _ _ eo3
        refine ⟨.ref o, rfl, .inl ⟨rfl, _, .inl (.inl eo5)⟩, ?_⟩
        refine ⟨.int R, rfl, R, 4, rfl, rfl, ⟨by decide, by decide⟩, _, 256, rfl, rfl, (show (0 : Int) < 256 by decide), .int R, rfl, R, 4, rfl, rfl, ⟨by decide, by decide⟩, _, 256, rfl, rfl, (show (0 : Int) < 256 by decide), Nat.le_of_lt (small1000 (show 4 ≤ 1000 by decide)), fun p np => ?_⟩
        have npo : o ≠ p := ne_of_none eo5 np
        have sp := same_upd (o := .lst [V.int (R / 4 % 256), .int 255, .int 0, .int (R / 4 % 256)]) np
        have eop : (upd H5 p (.lst [V.int (R / 4 % 256), .int 255, .int 0, .int (R / 4 % 256)])) o = some (.lst (bs.map V.int)) := sp _ _ eo5
        refine ⟨.int R, rfl, R, 4, rfl, rfl, (show (0 : Int) < 4 by decide), p, _, _, .int b, rfl, rfl, .inl (.inl upd_same), eb, o, _, _, rfl, rfl, eop, ?_, ?_⟩
        · rw [List.length_map]
          exact small1000 (by omega)
        · refine ⟨some (.int (0 + (j : Int))), some (.int R), bs ++ [b], rfl, fun b' z e => ?_, ?_, ?_, ?_, ?_⟩
          · rw [upd_ne (ne_of_none e no)]
            exact sp _ _ (sm5 _ _ (sm3 _ _ e))
          · rw [upd_ne nco]
            exact sp _ _ (sm5 _ _ ec3)
          · rw [upd_same, List.map_append]
            rfl
          · intro b' hb'
            rcases List.mem_append.mp hb' with h | h
            · exact hb b' h
            · rw [List.mem_singleton.mp h]
              exact ⟨hb0, hb1⟩
          · rw [List.length_append]
            simp only [List.length_cons, List.length_nil]
            omega
      · obtain ⟨y5, y6, bs, rfl, sm3, ec3, eo3, hb, hl⟩ := hP
        exact ⟨_, _, _, y5, y6, bs, rfl, sm3, ec3, eo3, hb, by omega⟩
    · obtain ⟨y2, y3, y4, y5, y6, bs, rfl, sm, ec, eo, hb, hl⟩ := hP
      rw [List.length_map] at hl
      exact ⟨.ref o, rfl, q bs hb (by omega) H' o sm no eo⟩
end
end K05

namespace K05
open PySem PySem.Spec PyProof.Rows L2 LH
section
variable {P : Program} {w : World} {K : PySem.W.Frag} {mg : Str → Option Value} {base : Heap} {t1 t2 : Tok}
/-! ### is_bytes -/
abbrev s_is_bytes : Stmt := topS 6
abbrev N_is_bytes : List Str := ["thing", "byte"]
theorem sc_is_bytes : FnScope N_is_bytes ["thing"] (defScope s_is_bytes) := ⟨rfl, rfl, rfl, by decide +kernel, rfl, by decide +kernel, by decide +kernel⟩
def sp_is_bytes : Sp := fun vs H Q _ => ∃ (a : Addr) (bs : List Int), vs = [.ref a] ∧ H a = some (.lst (bs.map V.int)) ∧ Bytes bs ∧ bs.length ≤ sizeLine ∧ Tell H (.bl true) Q
theorem ok_is_bytes {f fN : Addr} {fd fdN : FuncData} (F : Fun K "is_bytes" "is_bytes" s_is_bytes f fd) (T : Tx mg t1 t2) (D_is_number : Def P w K mg base "is_number" 1 fN fdN ["thing"] sp_is_number) : FnOk P w K mg base CX0 2 f fd ["thing"] sp_is_bytes := by
  refine F.ok sc_is_bytes (fun vs H Q E h => ?_) (fun cdv A outer s H vs Q E hr h => ?_)
  · obtain ⟨a, bs, rfl, _⟩ := h
    rfl
  · have nd := sc_is_bytes.nd
    obtain ⟨a, bs, rfl, hS, hb, hl, q⟩ := h
    refine ⟨_, (pss_cons (ps_if (pt_not (pt_val (pe_callB (cIsi K) (by rfl) T.n_isinstance (by decide +kernel) (pa_cons (pv 0) (pa_cons (pe_bltn (v := .ty "list") (by rfl) T.n_list (by decide +kernel) rfl) pa_nil)))))
        (pss_one (ps_ret pe_bl))
        pss_nil)
      (pss_one (ps_ret (pe_callB (cAll K) (by rfl) T.n_all (by decide +kernel) (pa_cons (pe_lc (own := [("byte", 1)]) (g := gName 1) (by rfl) nd (pi_list (pv 0)) (blkOk_by (N := N_is_bytes) (sc := defScope s_is_bytes) (by decide +kernel)) (fun _ _ _ _ _ => (pg_name (i := 1) nd rfl (Or.inl rfl))) (fun _ _ _ _ _ => pts_nil) (fun _ _ _ _ _ => (pe_and (pe_def D_is_number (hr.mono (by decide)) (pa_cons (pv 1) pa_nil)) (pe_one (pe_chain op_le op_le pe_int (pv 1) pe_int))))) pa_nil))))), ?_⟩
    refine ⟨.ref a, rfl, .ref a, .ty "list", _, _, true, rfl, .ty _, .base (.lst hS), kit_ty (by decide +kernel), true, rfl, iteF ?_⟩
    refine ⟨.ref a, rfl, a, rfl, ⟨_, .inl (.inl hS)⟩, fun D hD => lc_pure (n := (bs.map V.int).length) (fun i => (bs.map V.int).getD i .non) (fun i => .bl true) walk_listF (fun H1 sm => sm.seq (.inl (.inl hS))) hD (by rw [List.length_map]; exact hl) (fun i H1 Q1 hi sm q1 => ?_) (fun H1 sm e => ?_)⟩
    · rw [List.length_map] at hi
      have hbi := hb bs[i] (List.getElem_mem hi)
      rw [LH.getD_map_int bs i hi, List.getD_eq_getElem?_getD, List.getElem?_eq_getElem hi]
      show tAndV _ _ _ _ _
      refine ⟨.int bs[i], rfl, bs[i], rfl, fun H2 s2 => ⟨true, rfl, iteT ?_⟩⟩
      refine ⟨.int bs[i], rfl, 0, bs[i], rfl, rfl, true, by show V.bl (decide (0 ≤ bs[i])) = V.bl true; rw [decide_eq_true hbi.1], iteT ?_⟩
      refine ⟨bs[i], 255, rfl, rfl, ?_⟩
      show Q1 (.bl (decide (bs[i] ≤ 255))) H2
      rw [decide_eq_true (show bs[i] ≤ 255 by omega)]
      exact q1 _ s2
    · refine ⟨D, (List.range (bs.map V.int).length).map fun _ => true, rfl, .inl (.inl (by rw [e, List.map_map]; rfl)), ?_⟩
      rw [map_true]
      exact q _ sm
/-! ### four_of -/
abbrev s_four_of : Stmt := topS 10
abbrev N_four_of : List Str := ["row", "lacking", "number", "byte", "signs", "shift"]
theorem sc_four_of : FnScope N_four_of ["row"] (defScope s_four_of) := ⟨rfl, rfl, rfl, by decide +kernel, rfl, by decide +kernel, by decide +kernel⟩
def val256 (l : List Int) : Int := l.foldl (fun n b => n * 256 + b) 0
def sgn (n : Int) : Nat := (TL.tl S64).getD n.toNat 0
def fourL (c : List Int) : List Nat :=
  let v := val256 (c ++ List.replicate (3 - c.length) 0)
  (([18, 12, 6, 0] : List Nat).map fun s => sgn (v / 2 ^ s % 64)).take (4 - (3 - c.length)) ++ List.replicate (3 - c.length) 61
theorem S64_len : (TL.tl S64).length = 64 := by decide +kernel
theorem sgn_at {n : Int} (h0 : 0 ≤ n) (h1 : n < 64) : atI (TL.tl S64) n = some (sgn n) := by
  have hl : n.toNat < (TL.tl S64).length := by rw [S64_len]; omega
  obtain ⟨m, rfl⟩ : ∃ m : Nat, n = (m : Int) := ⟨n.toNat, by omega⟩
  refine atI_nat ?_
  unfold sgn
  rw [Int.toNat_natCast] at hl ⊢
  rw [List.getD_eq_getElem?_getD, List.getElem?_eq_getElem hl]
  rfl
theorem val256_snoc (l : List Int) (b : Int) : val256 (l ++ [b]) = val256 l * 256 + b := by
  unfold val256
  rw [List.foldl_append]
  rfl
theorem val256_le (l : List Int) (h : Bytes l) : 0 ≤ val256 l ∧ val256 l < 256 ^ l.length := by
  have key : ∀ r : List Int, Bytes r → 0 ≤ val256 r.reverse ∧ val256 r.reverse < 256 ^ r.length := by
    intro r
    induction r with
    | nil => intro _; exact ⟨by decide, by decide⟩
    | cons b r ih =>
      intro h
      have hb := h b (by simp)
      have ih' := ih fun x hx => h x (by simp [hx])
      rw [List.reverse_cons, val256_snoc, List.length_cons, Int.pow_succ]
      omega
  have := key l.reverse fun x hx => h x (by simpa using hx)
  simpa using this
theorem tl_rep_eq (k : Int) : TL.tl (repS (Str.ofString "=") k) = List.replicate k.toNat 61 := by
  show (List.replicate k.toNat (TL.tl (Str.ofString "="))).flatten = _
  rw [show TL.tl (Str.ofString "=") = [61] by decide +kernel]
  generalize k.toNat = n
  induction n with
  | zero => rfl
  | succ n ih => rw [List.replicate_succ, List.flatten_cons, ih, List.replicate_succ]; rfl
theorem rep_flat (n : Nat) : (List.replicate n [V.int 0]).flatten = (List.replicate n (0 : Int)).map V.int := by
  induction n with
  | zero => rfl
  | succ n ih => rw [List.replicate_succ, List.flatten_cons, ih, List.replicate_succ]; rfl
def sp_four_of : Sp := fun vs H Q _ => ∃ (a : Addr) (c : List Int), vs = [.ref a] ∧ H a = some (.lst (c.map V.int)) ∧ Bytes c ∧ 1 ≤ c.length ∧ c.length ≤ 3 ∧ Tell H (.str ⟨(fourL c).toArray⟩) Q
theorem ok_four_of {f : Addr} {fd : FuncData} {k : Nat} (F : Fun K "four_of" "four_of" s_four_of f fd) (T : Tx mg t1 t2) : FnOk P w K mg base CX0 (k + 1) f fd ["row"] sp_four_of := by
  refine F.ok sc_four_of (fun vs H Q E h => ?_) (fun cdv A outer s H vs Q E hr h => ?_)
  · obtain ⟨a, bs, rfl, _⟩ := h
    rfl
  · have nd := sc_four_of.nd
    obtain ⟨a, c, rfl, hS, hb, hl1, hl3, q⟩ := h
    refine ⟨_, (pss_cons (ps_set (i := 1) nd rfl (.inl rfl) (pe_op op_sub pe_int (pe_callB (cLen K) (by rfl) T.n_len (by decide +kernel) (pa_cons (pv 0) pa_nil))))
      (pss_cons (ps_set (i := 2) nd rfl (.inr rfl) pe_int)
      (pss_cons (ps_for PassesOwn.never rfl (pi_list (pe_op op_cat (pv 0) (pe_op op_rep (pe_lst (pa_cons pe_int pa_nil)) (pv 1)))) (pg_name (i := 3) nd rfl (Or.inl rfl))
        (pss_one (ps_set (i := 2) nd rfl (.inr rfl) (pe_op op_or (pe_op op_shl (pv 2) pe_int) (pv 3)))))
      (pss_cons (ps_set (i := 4) nd rfl (.inl rfl) (pe_join pe_str (pe_lc (own := [("shift", 5)]) (g := gName 5) (by rfl) nd (pi_tup (pe_tup (pa_cons pe_int (pa_cons pe_int (pa_cons pe_int (pa_cons pe_int pa_nil)))))) (blkOk_by (N := N_four_of) (sc := defScope s_four_of) (by decide +kernel)) (fun _ _ _ _ _ => (pg_name (i := 5) nd rfl (Or.inl rfl))) (fun _ _ _ _ _ => pts_nil) (fun _ _ _ _ _ => (pe_ix ix_str (pe_glob (v := .str S64) (by rfl) T.m_SIXTY_FOUR ⟨_, rfl⟩) (pe_op op_and (pe_op op_shr (pv 2) (pv 5)) pe_int) (fun _ _ => rfl))))))
      (pss_one (ps_ret (pe_op op_add_str (pe_slice sl_str (pv 4) po_none (po_some (pe_op op_sub pe_int (pv 1)))) (pe_op op_mul_str pe_str (pv 1))))))))), ?_⟩
    have hlm : (c.map V.int).length = c.length := List.length_map ..
    refine ⟨.ref a, rfl, a, _, rfl, .inl (.inl (.inl hS)), 3, _, rfl, rfl, ?_⟩
    rw [hlm]
    have hL0 : 0 ≤ (3 : Int) - (c.length : Nat) ∧ (3 : Int) - (c.length : Nat) ≤ 2 := by omega
    have hLn : ((3 : Int) - (c.length : Nat)).toNat = 3 - c.length := by omega
    refine ⟨.ref a, rfl, Nat.le_of_lt (small1000 (show 1 ≤ 1000 by decide)), fun p np => ⟨.int (3 - (c.length : Nat)), rfl, p, 3 - (c.length : Nat), _, rfl, rfl, upd_same, by omega, by omega, ?_, fun p2 np2 => ?_⟩⟩
    · rw [List.length_singleton, sizeLine_eq]
      omega
    have s1 := same_upd (o := .lst [V.int 0]) np
    have e2 : (List.replicate ((3 : Int) - (c.length : Nat)).toNat [V.int 0]).flatten = (List.replicate (3 - c.length) (0 : Int)).map V.int := by rw [hLn, rep_flat]
    rw [e2]
    have s2 := same_upd (o := .lst ((List.replicate (3 - c.length) (0 : Int)).map V.int)) np2
    refine ⟨a, p2, _, _, rfl, rfl, s2 _ _ (s1 _ _ hS), upd_same, ?_, fun p3 np3 => ?_⟩
    · rw [List.length_map, List.length_map, List.length_replicate, sizeLine_eq]
      omega
    rw [← List.map_append]
    have hb3 : Bytes (c ++ List.replicate (3 - c.length) (0 : Int)) := fun x hx => by
      rcases List.mem_append.mp hx with h | h
      · exact hb x h
      · rw [(List.mem_replicate.mp h).2]
        decide
    have hl : (c ++ List.replicate (3 - c.length) (0 : Int)).length = 3 := by
      rw [List.length_append, List.length_replicate]
      omega
    have ev : fourL c = (([18, 12, 6, 0] : List Nat).map fun s => sgn (val256 (c ++ List.replicate (3 - c.length) 0) / 2 ^ s % 64)).take (4 - (3 - c.length)) ++ List.replicate (3 - c.length) 61 := rfl
    generalize c ++ List.replicate (3 - c.length) (0 : Int) = l at *
    have s3 := same_upd (o := .lst (l.map V.int)) np3
    have s13 := (s1.trans s2).trans s3
    generalize hH3 : upd _ p3 (.lst (l.map V.int)) = H3 at *
    have e3 : H3 p3 = some (.lst (l.map V.int)) := by rw [← hH3, upd_same]
    refine ⟨p3, rfl, ⟨_, .inl (.inl e3)⟩, for_it walk_list (fun i σ H' => ∃ y3, σ = [some (.ref a), some (.int (3 - (c.length : Nat))), some (.int (val256 (l.take i))), y3, none, none] ∧ H' = H3) ⟨none, rfl, rfl⟩
      (fun i σ H' _ h => by obtain ⟨y, rfl, rfl⟩ := h; exact .inl (.inl e3)) (fun i x σ H' H'' hi hP hy => ?_) (fun σ H' hP => ?_)⟩
    · obtain ⟨y3, rfl, rfl⟩ := hP
      obtain ⟨rfl, hx⟩ := hy
      rw [List.length_map] at hi
      rw [List.getElem?_map, List.getElem?_eq_getElem hi] at hx
      obtain rfl := Option.some.inj hx
      have hv := val256_le (l.take i) fun x hx => hb3 x (List.mem_of_mem_take hx)
      have hli : (l.take i).length = i := by rw [List.length_take]; omega
      rw [hli] at hv
      have hi3 : i = 0 ∨ i = 1 ∨ i = 2 := by omega
      have hv2 : val256 (l.take i) < 65536 := by
        rcases hi3 with rfl | rfl | rfl
        · exact Int.lt_of_lt_of_le hv.2 (by decide)
        · exact Int.lt_of_lt_of_le hv.2 (by decide)
        · exact Int.lt_of_lt_of_le hv.2 (by decide)
      have hbi := hb3 l[i] (List.getElem_mem hi)
      refine ⟨_, rfl, val256 (l.take i), 8, rfl, rfl, ⟨by decide, by decide, by omega⟩, .int l[i], rfl, _, l[i], rfl, rfl, some (.int l[i]), ?_, rfl⟩
      rw [List.take_add_one, List.getElem?_eq_getElem hi]
      show _ = [_, _, some (V.int (val256 (l.take i ++ [l[i]]))), _, _, _]
      rw [val256_snoc]
      have := Bits.bitOr_join' (k := 8) hbi.1 hbi.2 hv.1
      show [_, _, some (V.int (Builtin.bitOr (val256 (l.take i) * 2 ^ 8) l[i])), _, _, _] = _
      rw [this, Int.add_comm]
      rfl
    · obtain ⟨y3, rfl, rfl⟩ := hP
      rw [List.length_map, List.take_length]
      have hv := val256_le l hb3
      generalize val256 l = v at *
      refine ⟨⟨_, rfl⟩, Nat.le_of_lt (small1000 (show 4 ≤ 1000 by decide)), fun p np => ?_⟩
      have s4 := same_upd (o := .tup [.int 18, .int 12, .int 6, .int 0]) np
      refine ⟨p, rfl, ⟨_, .inl (.inl upd_same)⟩, fun D hD => lc_pure (n := 4) (fun i => ([.int 18, .int 12, .int 6, .int 0] : List V).getD i .non) (fun i => .str ⟨#[sgn (v / 2 ^ (([18, 12, 6, 0] : List Nat).getD i 0) % 64)]⟩) (walk_tupF (xs := [.int 18, .int 12, .int 6, .int 0])) (fun H1 sm => seqT sm (.inl (.inl upd_same))) hD (Nat.le_of_lt (small1000 (by decide))) (fun i H1 Q1 hi sm q1 => ?_) (fun H1 sm e => ?_)⟩
      · have key : ∀ t : Nat, atI S64.cps.toList (Builtin.bitAnd (v / 2 ^ t) 63) = some (sgn (v / 2 ^ t % 64)) := fun t => by
          rw [bitAnd_m6]
          exact sgn_at (Int.emod_nonneg _ (by decide)) (Int.emod_lt_of_pos _ (by decide))
        have hz : S64.length ≤ sizeLine := Nat.le_of_lt (small1000 (by decide +kernel))
        have hi4 : i = 0 ∨ i = 1 ∨ i = 2 ∨ i = 3 := by omega
        rcases hi4 with rfl | rfl | rfl | rfl
        · exact ⟨.int v, rfl, .int 18, rfl, v, 18, rfl, rfl, (show (0 : Int) ≤ 18 by decide), _, 63, rfl, rfl, S64, _, _, rfl, rfl, hz, key 18, q1 _ (Same.refl _)⟩
        · exact ⟨.int v, rfl, .int 12, rfl, v, 12, rfl, rfl, (show (0 : Int) ≤ 12 by decide), _, 63, rfl, rfl, S64, _, _, rfl, rfl, hz, key 12, q1 _ (Same.refl _)⟩
        · exact ⟨.int v, rfl, .int 6, rfl, v, 6, rfl, rfl, (show (0 : Int) ≤ 6 by decide), _, 63, rfl, rfl, S64, _, _, rfl, rfl, hz, key 6, q1 _ (Same.refl _)⟩
        · exact ⟨.int v, rfl, .int 0, rfl, v, 0, rfl, rfl, (show (0 : Int) ≤ 0 by decide), _, 63, rfl, rfl, S64, _, _, rfl, rfl, hz, key 0, q1 _ (Same.refl _)⟩
      · refine ⟨Str.ofString "", D, ([18, 12, 6, 0] : List Nat).map fun s => ⟨#[sgn (v / 2 ^ s % 64)]⟩, rfl, rfl, .inl (.inl (.inl e)), ?_, ?_⟩
        · show 4 ≤ 16777216
          decide
        have ej : TL.tl (Txt.join (Str.ofString "") (([18, 12, 6, 0] : List Nat).map fun s => (⟨#[sgn (v / 2 ^ s % 64)]⟩ : Str))) = ([18, 12, 6, 0] : List Nat).map fun s => sgn (v / 2 ^ s % 64) := by
          rw [TL.join_eq, TL.tl_join]
          rfl
        generalize Txt.join (Str.ofString "") (([18, 12, 6, 0] : List Nat).map fun s => (⟨#[sgn (v / 2 ^ s % 64)]⟩ : Str)) = J at ej
        have hJ : J.length = 4 := by rw [TL.len_tl, ej]; rfl
        refine ⟨.str J, rfl, .int (3 - (c.length : Nat)), rfl, 4, 3 - (c.length : Nat), rfl, rfl, 4 - (3 - (c.length : Nat)), rfl, J, rfl, by rw [hJ]; exact Nat.le_of_lt (small1000 (by decide)), ?_⟩
        refine ⟨.int (3 - (c.length : Nat)), rfl, Str.ofString "=", 3 - (c.length : Nat), rfl, rfl, by omega, by omega, by decide +kernel, _, _, rfl, rfl, ?_, ?_⟩
        · rw [TL.len_tl (repS _ _), tl_rep_eq, List.length_replicate, hLn, sizeLine_eq]
          have := cutS_length J none (some (4 - (3 - (c.length : Int))))
          omega
        · have ef : cutS J none (some (4 - (3 - (c.length : Int)))) ++ repS (Str.ofString "=") (3 - (c.length : Int)) = ⟨(fourL c).toArray⟩ := by
            refine TL.ext_tl ?_
            rw [TL.tl_append, tl_rep_eq, hLn, show (4 - (3 - (c.length : Int))) = ((4 - (3 - c.length) : Nat) : Int) by omega, cutS_to]
            show (TL.tl J).take (4 - (3 - c.length)) ++ List.replicate (3 - c.length) 61 = fourL c
            rw [ej, ev]
          rw [ef]
          refine q _ (s13.trans (s4.trans ?_))
          exact sm
end
end K05

namespace K05
open PySem PySem.Spec PyProof.Rows L2 LH
/-! ### texts of rows -/
def rowsV (t : List Nat) : List V := (chunks 60 t).map fun l => .str ⟨l.toArray⟩
def ptext (bs : List Int) : List Nat := ((chunks 3 bs).map fourL).flatten
theorem joinL_nil (l : List (List Nat)) : TL.joinL [] l = l.flatten := by
  induction l with
  | nil => rfl
  | cons x r ih =>
    cases r with
    | nil => simp [TL.joinL]
    | cons y r => rw [TL.joinL, ih]; simp
theorem tl_empty : TL.tl (Str.ofString "") = [] := by decide +kernel
theorem tl_join0 (ys : List Str) : TL.tl (Txt.join (Str.ofString "") ys) = (ys.map TL.tl).flatten := by
  rw [TL.join_eq, TL.tl_join, tl_empty, joinL_nil]
theorem flatten_le {α : Type} {k : Nat} : ∀ l : List (List α), (∀ x ∈ l, x.length ≤ k) → l.flatten.length ≤ k * l.length
  | [], _ => Nat.le_refl _
  | x :: r, h => by
    have ih := flatten_le r fun y hy => h y (List.mem_cons_of_mem _ hy)
    have hx := h x (by simp)
    rw [List.flatten_cons, List.length_append, List.length_cons, Nat.mul_succ]
    omega
theorem fourL_le (c : List Int) : (fourL c).length ≤ 7 := by
  unfold fourL
  simp only [List.length_append, List.length_take, List.length_map, List.length_replicate]
  omega
theorem chunks_len {α : Type} (k : Nat) (t : List α) : (chunks k t).length = (t.length + (k - 1)) / k := by
  unfold chunks
  rw [List.length_map, List.length_range]
theorem ptext_le (bs : List Int) : (ptext bs).length ≤ 7 * bs.length := by
  unfold ptext
  refine Nat.le_trans (flatten_le (k := 7) _ fun x hx => ?_) ?_
  · obtain ⟨c, _, rfl⟩ := List.mem_map.mp hx
    exact fourL_le c
  · rw [List.length_map, chunks_len]
    omega
theorem sum_len (ys : List Str) : (ys.map (·.length)).sum = ((ys.map TL.tl).flatten).length := by
  rw [List.length_flatten, List.map_map]
  rfl
section
variable {P : Program} {w : World} {K : PySem.W.Frag} {mg : Str → Option Value} {base : Heap} {t1 t2 : Tok}
/-! ### sixty_of -/
abbrev s_sixty_of : Stmt := topS 9
abbrev N_sixty_of : List Str := ["row", "text", "at"]
theorem sc_sixty_of : FnScope N_sixty_of ["row"] (defScope s_sixty_of) := ⟨rfl, rfl, rfl, by decide +kernel, rfl, by decide +kernel, by decide +kernel⟩
def sp_sixty_of (g : List Int → List Nat) : Sp := fun vs H Q _ => ∃ (a : Addr) (bs : List Int), vs = [.ref a] ∧ H a = some (.lst (bs.map V.int)) ∧ Bytes bs ∧ bs.length ≤ 1000 ∧ New H (rowsV (g bs)) Q
theorem ok_sixty_of {f fB fF : Addr} {fd fdB fdF : FuncData} (F : Fun K "sixty_of" "sixty_of" s_sixty_of f fd) (T : Tx mg t1 t2) (D_is_bytes : Def P w K mg base "is_bytes" 2 fB fdB ["thing"] sp_is_bytes) (D_four_of : Def P w K mg base "four_of" 1 fF fdF ["row"] sp_four_of) :
    FnOk P w K mg base CX0 3 f fd ["row"] (sp_sixty_of ptext) := by
  refine F.ok sc_sixty_of (fun vs H Q E h => ?_) (fun cdv A outer s H vs Q E hr h => ?_)
  · obtain ⟨a, bs, rfl, _⟩ := h
    rfl
  · have nd := sc_sixty_of.nd
    obtain ⟨a, bs, rfl, hS, hb, hlen, q⟩ := h
    refine ⟨_, (pss_cons (ps_if (pt_not (pt_val (pe_def D_is_bytes (hr.mono (by decide)) (pa_cons (pv 0) pa_nil))))
        (pss_one ps_never)
        pss_nil)
      (pss_cons (ps_set (i := 1) nd rfl (.inr rfl) (pe_join pe_str (pe_lc (own := [("at", 2)]) (g := gName 2) (by rfl) nd (pi_range3 (by rfl) T.n_range (pa_cons pe_int (pa_cons (pe_callB (cLen K) (by rfl) T.n_len (by decide +kernel) (pa_cons (pv 0) pa_nil)) (pa_cons pe_int pa_nil)))) (blkOk_by (N := N_sixty_of) (sc := defScope s_sixty_of) (by decide +kernel)) (fun _ _ _ _ _ => (pg_name (i := 2) nd rfl (Or.inl rfl))) (fun _ _ _ _ _ => pts_nil) (fun _ _ _ _ _ => (pe_def D_four_of (hr.mono (by decide)) (pa_cons (pe_slice (slL K) (pv 0) (po_some (pv 2)) (po_some (pe_op op_add (pv 2) pe_int))) pa_nil))))))
      (pss_one (ps_ret (pe_lc (own := [("at", 2)]) (g := gName 2) (by rfl) nd (pi_range3 (by rfl) T.n_range (pa_cons pe_int (pa_cons (pe_callB call_len_str (by rfl) T.n_len (by decide +kernel) (pa_cons (pv 1) pa_nil)) (pa_cons (pe_glob (v := .int 60) (by rfl) T.m_ROW_SIGNS ⟨_, rfl⟩) pa_nil)))) (blkOk_by (N := N_sixty_of) (sc := defScope s_sixty_of) (by decide +kernel)) (fun _ _ _ _ _ => (pg_name (i := 2) nd rfl (Or.inl rfl))) (fun _ _ _ _ _ => pts_nil) (fun _ _ _ _ _ => (pe_slice sl_str (pv 1) (po_some (pv 2)) (po_some (pe_op op_add (pv 2) (pe_glob (v := .int 60) (by rfl) T.m_ROW_SIGNS ⟨_, rfl⟩)))))))))), ?_⟩
    have hlm : (bs.map V.int).length = bs.length := List.length_map ..
    refine ⟨.ref a, rfl, a, bs, rfl, hS, hb, Nat.le_of_lt (small1000 hlen), fun H1 s1 => ⟨true, rfl, iteF ?_⟩⟩
    refine ⟨⟨_, rfl⟩, .ref a, rfl, a, _, rfl, .inl (.inl (.inl (s1 _ _ hS))), 0, _, 3, (bs.length + 2) / 3, rfl, by rw [hlm]; exact rgC bs.length 3 (by decide) (by decide) (by omega), fun D hD => ?_⟩
    refine lc_pure (fun i => .int (0 + ((i : Nat) : Int) * 3)) (fun i => .str ⟨(fourL ((bs.drop (i * 3)).take 3)).toArray⟩) walk_rangeC (fun _ _ => trivial) hD (Nat.le_of_lt (small1000 (by omega))) (fun i H2 Q2 hi s2 q2 => ?_) (fun H2 s2 e => ?_)
    · refine ⟨.ref a, rfl, .int (0 + ((i : Nat) : Int) * 3), rfl, _, rfl, .int (0 + ((i : Nat) : Int) * 3), rfl, _, 3, rfl, rfl, 0 + ((i : Nat) : Int) * 3 + 3, rfl, a, _, rfl, .inl (.inl (s2 _ _ (s1 _ _ hS))), fun p np => ?_⟩
      have hl2 : ((bs.drop (i * 3)).take 3).length = min 3 (bs.length - i * 3) := by rw [List.length_take, List.length_drop]
      refine ⟨p, (bs.drop (i * 3)).take 3, rfl, ?_, fun x hx => hb x (List.mem_of_mem_drop (List.mem_of_mem_take hx)), by omega, by omega, fun H3 s3 => q2 _ ((same_upd np).trans s3)⟩
      rw [upd_same, show (0 : Int) + ((i : Nat) : Int) * 3 = ((i * 3 : Nat) : Int) by omega, show ((i * 3 : Nat) : Int) + 3 = ((i * 3 + 3 : Nat) : Int) by omega, cutV_at, Nat.add_sub_cancel_left, List.map_take, List.map_drop]
    · have e2 : (List.range ((bs.length + 2) / 3)).map (fun i => V.str ⟨(fourL ((bs.drop (i * 3)).take 3)).toArray⟩) = (((chunks 3 bs).map fun c => (⟨(fourL c).toArray⟩ : Str))).map V.str := by
        unfold chunks
        rw [List.map_map, List.map_map]
        rfl
      rw [e2] at e
      have e3 : ((((chunks 3 bs).map fun c => (⟨(fourL c).toArray⟩ : Str))).map TL.tl).flatten = ptext bs := by
        unfold ptext
        rw [List.map_map]
        rfl
      have hp := ptext_le bs
      refine ⟨Str.ofString "", D, _, rfl, rfl, .inl (.inl (.inl e)), ?_, ?_⟩
      · rw [sum_len, e3]
        show (ptext bs).length + _ * 0 ≤ 16777216
        omega
      have eJ := tl_join0 ((chunks 3 bs).map fun c => (⟨(fourL c).toArray⟩ : Str))
      rw [e3] at eJ
      generalize Txt.join (Str.ofString "") ((chunks 3 bs).map fun c => (⟨(fourL c).toArray⟩ : Str)) = J at eJ
      have hJ : J.length = (ptext bs).length := by rw [TL.len_tl, eJ]
      refine ⟨.str J, rfl, J, rfl, by rw [hJ]; exact Nat.le_of_lt (by rw [sizeLine_eq]; omega), 0, _, 60, (J.length + 59) / 60, rfl, rgC J.length 60 (by decide) (by decide) (by omega), fun D2 hD2 => ?_⟩
      refine lc_pure (fun i => .int (0 + ((i : Nat) : Int) * 60)) (fun i => .str ⟨(((ptext bs).drop (i * 60)).take 60).toArray⟩) walk_rangeC (fun _ _ => trivial) hD2 (by rw [sizeLine_eq]; omega) (fun i H3 Q3 hi s3 q3 => ?_) (fun H3 s3 e => ?_)
      · refine ⟨.str J, rfl, .int (0 + ((i : Nat) : Int) * 60), rfl, _, rfl, .int (0 + ((i : Nat) : Int) * 60), rfl, _, 60, rfl, rfl, 0 + ((i : Nat) : Int) * 60 + 60, rfl, J, rfl, by rw [hJ, sizeLine_eq]; omega, ?_⟩
        rw [show (0 : Int) + ((i : Nat) : Int) * 60 = ((i * 60 : Nat) : Int) by omega, show ((i * 60 : Nat) : Int) + 60 = ((i * 60 + 60 : Nat) : Int) by omega, cutS_at, Nat.add_sub_cancel_left, eJ]
        exact q3 _ (Same.refl _)
      · refine q H3 D2 (s1.trans (s2.trans s3)) ((s1.trans s2).free hD2) ?_
        rw [e, hJ]
        unfold rowsV chunks
        rw [List.map_map]
        rfl
/-! ### _law_are_rows -/
/-! ### _law_are_rows -/
abbrev s__law_are_rows : Stmt := topS 20
abbrev N__law_are_rows : List Str := ["_law_found", "_law_due", "_law_row"]
theorem sc__law_are_rows : FnScope N__law_are_rows ["_law_found", "_law_due"] (defScope s__law_are_rows) := ⟨rfl, rfl, rfl, by decide +kernel, rfl, by decide +kernel, by decide +kernel⟩
def sp_are_rows : Sp := fun vs H Q _ => ∃ (a b : Addr) (ls : List Str), vs = [.ref a, .ref b] ∧ H a = some (.lst (ls.map V.str)) ∧ H b = some (.lst (ls.map V.str)) ∧ ls.length ≤ 1000 ∧ (∀ x ∈ ls, OkS x) ∧ Tell H (.bl true) Q
theorem ok_are_rows {f : Addr} {fd : FuncData} {k : Nat} (F : Fun K "_law_are_rows" "_law_are_rows" s__law_are_rows f fd) (T : Tx mg t1 t2) : FnOk P w K mg base CX0 (k + 1) f fd ["_law_found", "_law_due"] sp_are_rows := by
  refine F.ok sc__law_are_rows (fun vs H Q E h => ?_) (fun cdv A outer s H vs Q E hr h => ?_)
  · obtain ⟨a, b, ls, rfl, _⟩ := h
    rfl
  · have nd := sc__law_are_rows.nd
    obtain ⟨a, b, ls, rfl, hA, hB, hl, hok, q⟩ := h
    refine ⟨_, (pss_one (ps_ret (pe_and (pe_callB (cIsi K) (by rfl) T.n_isinstance (by decide +kernel) (pa_cons (pv 0) (pa_cons (pe_bltn (v := .ty "list") (by rfl) T.n_list (by decide +kernel) rfl) pa_nil))) (pe_and (pe_cmpR (oEqD K hr.units) (pv 0) (pv 1) (nomark _)) (pe_one (pe_callB (cAll K) (by rfl) T.n_all (by decide +kernel) (pa_cons (pe_lc (own := [("_law_row", 2)]) (g := gName 2) (by rfl) nd (pi_list (pv 0)) (blkOk_by (N := N__law_are_rows) (sc := defScope s__law_are_rows) (by decide +kernel)) (fun _ _ _ _ _ => (pg_name (i := 2) nd rfl (Or.inl rfl))) (fun _ _ _ _ _ => pts_nil) (fun _ _ _ _ _ => (pe_callB (cIsi K) (by rfl) T.n_isinstance (by decide +kernel) (pa_cons (pv 2) (pa_cons (pe_bltn (v := .ty "str") (by rfl) T.n_str (by decide +kernel) rfl) pa_nil))))) pa_nil))))))), ?_⟩
    refine ⟨.ref a, rfl, .ref a, .ty "list", _, _, true, rfl, .ty _, .base (.lst hA), kit_ty (by decide +kernel), true, rfl, iteT ?_⟩
    refine ⟨.ref a, rfl, .ref b, rfl, _, _, dp_strs (.inl (.inl hA)), dp_strs (.inl (.inl hB)), shaped_strs ls hok, shaped_strs ls hok, true, ?_, iteT ?_⟩
    · rw [eqv_strsL, decide_eq_true rfl]
    refine ⟨.ref a, rfl, a, rfl, ⟨_, .inl (.inl hA)⟩, fun D hD => lc_pure (n := (ls.map V.str).length) (fun i => (ls.map V.str).getD i .non) (fun i => .bl true) walk_listF (fun H1 sm => sm.seq (.inl (.inl hA))) hD (by rw [List.length_map]; exact Nat.le_of_lt (small1000 hl)) (fun i H1 Q1 hi sm q1 => ?_) (fun H1 sm e => ?_)⟩
    · rw [List.length_map] at hi
      have e : (ls.map V.str).getD i .non = .str ls[i] := by
        rw [List.getD_eq_getElem?_getD, List.getElem?_map, List.getElem?_eq_getElem hi]
        rfl
      rw [e]
      exact ⟨.str ls[i], rfl, .str ls[i], .ty "str", _, _, true, rfl, .ty _, .base (.str _), kit_ty (by decide +kernel), q1 _ (Same.refl _)⟩
    · refine ⟨D, (List.range (ls.map V.str).length).map fun _ => true, rfl, .inl (.inl (by rw [e, List.map_map]; rfl)), ?_⟩
      rw [map_true]
      exact q _ sm
end
end K05

namespace K05
open PySem PySem.Spec PyProof.Rows L2 LH
/-! ### the law's own text -/
def lbits (bs : List Int) : List Int := (bs.map fun b => bitsOf b 8).flatten
def padded (bs : List Int) : List Int := lbits bs ++ List.replicate ((-((lbits bs).length : Int)) % 6).toNat 0
def lt0 (bs : List Int) : List Nat := (chunks 6 (padded bs)).map fun c => sgn (numB c)
def ltext (bs : List Int) : List Nat := lt0 bs ++ List.replicate ((-((lt0 bs).length : Int)) % 4).toNat 61
theorem bits8_len (b : Int) : (bitsOf b 8).length = 8 := by
  unfold bitsOf
  rw [List.length_map, List.length_range]
theorem lbits_cons (b : Int) (bs : List Int) : lbits (b :: bs) = bitsOf b 8 ++ lbits bs := by
  unfold lbits
  rw [List.map_cons, List.flatten_cons]
theorem lbits_len : ∀ bs : List Int, (lbits bs).length = 8 * bs.length
  | [] => rfl
  | b :: r => by rw [lbits_cons, List.length_append, bits8_len, lbits_len r, List.length_cons]; omega
theorem padded_len (bs : List Int) : (padded bs).length ≤ 8 * bs.length + 5 := by
  unfold padded
  rw [List.length_append, List.length_replicate, lbits_len]
  omega
theorem lt0_len (bs : List Int) : (lt0 bs).length ≤ 8 * bs.length + 5 := by
  have := padded_len bs
  unfold lt0
  rw [List.length_map, chunks_len]
  omega
theorem ltext_len (bs : List Int) : (ltext bs).length ≤ 8 * bs.length + 8 := by
  have := lt0_len bs
  unfold ltext
  rw [List.length_append, List.length_replicate]
  omega
/-- bits are 0 or 1 -/
def Bits01 (l : List Int) : Prop := ∀ b ∈ l, 0 ≤ b ∧ b < 2
theorem bitsOf_01 (n : Int) (m : Nat) : Bits01 (bitsOf n m) := fun b hb => by
  obtain ⟨k, _, rfl⟩ := List.mem_map.mp hb
  exact ⟨Int.emod_nonneg _ (by decide), Int.emod_lt_of_pos _ (by decide)⟩
theorem padded_01 (bs : List Int) : Bits01 (padded bs) := fun b hb => by
  rcases List.mem_append.mp hb with h | h
  · obtain ⟨l, hl, hb⟩ := List.mem_flatten.mp h
    obtain ⟨x, _, rfl⟩ := List.mem_map.mp hl
    exact bitsOf_01 _ _ b hb
  · rw [(List.mem_replicate.mp h).2]
    decide
theorem numB_snoc (l : List Int) (b : Int) : numB (l ++ [b]) = 2 * numB l + b := by
  unfold numB
  rw [List.foldl_append]
  rfl
theorem numB_le (l : List Int) (h : Bits01 l) : 0 ≤ numB l ∧ numB l < 2 ^ l.length := by
  have key : ∀ r : List Int, Bits01 r → 0 ≤ numB r.reverse ∧ numB r.reverse < 2 ^ r.length := by
    intro r
    induction r with
    | nil => intro _; exact ⟨by decide, by decide⟩
    | cons b r ih =>
      intro h
      have hb := h b (by simp)
      have ih' := ih fun x hx => h x (by simp [hx])
      rw [List.reverse_cons, numB_snoc, List.length_cons, Int.pow_succ]
      omega
  have := key l.reverse fun x hx => h x (by simpa using hx)
  simpa using this
theorem numB_lt64 (l : List Int) (h : Bits01 l) (hl : l.length ≤ 6) : 0 ≤ numB l ∧ numB l < 64 := by
  have := numB_le l h
  refine ⟨this.1, Int.lt_of_lt_of_le this.2 ?_⟩
  have : ∀ n : Fin 7, (2 : Int) ^ n.val ≤ 64 := by decide
  exact this ⟨l.length, by omega⟩
/-! ### it is the program's -/
theorem chunks6 {α : Type} (a b c d e f : α) (r : List α) : chunks 6 (a :: b :: c :: d :: e :: f :: r) = [a, b, c, d, e, f] :: chunks 6 r := chunks_cons (by decide) (by simp)
theorem chunks3 {α : Type} (a b c : α) (r : List α) : chunks 3 (a :: b :: c :: r) = [a, b, c] :: chunks 3 r := chunks_cons (by decide) (by simp)
theorem bits8 (b : Int) : bitsOf b 8 = [b / 128 % 2, b / 64 % 2, b / 32 % 2, b / 16 % 2, b / 8 % 2, b / 4 % 2, b / 2 % 2, b / 1 % 2] := rfl
theorem num6 (x y z u v w : Int) : numB [x, y, z, u, v, w] = 32 * x + 16 * y + 8 * z + 4 * u + 2 * v + w := by
  show 2 * (2 * (2 * (2 * (2 * (2 * 0 + x) + y) + z) + u) + v) + w = _
  omega
theorem two (a : Int) : 32 * (a / 2 % 2) + 16 * (a / 1 % 2) = 16 * (a % 4) := by omega
theorem hi4 (b : Int) (h : 0 ≤ b ∧ b < 256) : 8 * (b / 128 % 2) + 4 * (b / 64 % 2) + 2 * (b / 32 % 2) + b / 16 % 2 = b / 16 := by omega
theorem lo4 (b : Int) : 32 * (b / 8 % 2) + 16 * (b / 4 % 2) + 8 * (b / 2 % 2) + 4 * (b / 1 % 2) = 4 * (b % 16) := by omega
theorem hi2 (c : Int) (h : 0 ≤ c ∧ c < 256) : 2 * (c / 128 % 2) + c / 64 % 2 = c / 64 := by omega
theorem hi6 (a : Int) (h : 0 ≤ a ∧ a < 256) : numB [a / 128 % 2, a / 64 % 2, a / 32 % 2, a / 16 % 2, a / 8 % 2, a / 4 % 2] = a / 4 := by
  rw [num6]
  have h1 := hi4 a h
  have h2 : 2 * (a / 8 % 2) + a / 4 % 2 = a / 4 % 4 := by omega
  generalize a / 128 % 2 = x1 at *
  generalize a / 64 % 2 = x2 at *
  generalize a / 32 % 2 = x3 at *
  generalize a / 16 % 2 = x4 at *
  generalize a / 8 % 2 = x5 at *
  generalize a / 4 % 2 = x6 at *
  omega
theorem mid2 (a b : Int) (h : 0 ≤ b ∧ b < 256) : numB [a / 2 % 2, a / 1 % 2, b / 128 % 2, b / 64 % 2, b / 32 % 2, b / 16 % 2] = 16 * (a % 4) + b / 16 := by
  rw [num6, two, ← hi4 b h]
  omega
theorem mid3 (b c : Int) (h : 0 ≤ c ∧ c < 256) : numB [b / 8 % 2, b / 4 % 2, b / 2 % 2, b / 1 % 2, c / 128 % 2, c / 64 % 2] = 4 * (b % 16) + c / 64 := by
  rw [num6, lo4, ← hi2 c h]
  omega
theorem lo6 (c : Int) : numB [c / 32 % 2, c / 16 % 2, c / 8 % 2, c / 4 % 2, c / 2 % 2, c / 1 % 2] = c % 64 := by
  rw [num6]
  have h1 : 2 * (c / 32 % 2) + c / 16 % 2 = c / 16 % 4 := by omega
  have h2 := lo4 c
  generalize c / 32 % 2 = x1 at *
  generalize c / 16 % 2 = x2 at *
  generalize c / 8 % 2 = x3 at *
  generalize c / 4 % 2 = x4 at *
  generalize c / 2 % 2 = x5 at *
  generalize c / 1 % 2 = x6 at *
  omega
theorem text_step (a b c : Int) (r : List Int) (ha : 0 ≤ a ∧ a < 256) (hb : 0 ≤ b ∧ b < 256) (hc : 0 ≤ c ∧ c < 256) (ih : ltext r = ptext r) : ltext (a :: b :: c :: r) = ptext (a :: b :: c :: r) := by
  have e1 : padded (a :: b :: c :: r) = bitsOf a 8 ++ (bitsOf b 8 ++ (bitsOf c 8 ++ padded r)) := by
    unfold padded
    rw [lbits_cons, lbits_cons, lbits_cons]
    simp only [List.append_assoc, List.length_append, bits8_len]
    rw [show (-(((8 + (8 + (8 + (lbits r).length)) : Nat)) : Int)) % 6 = (-((lbits r).length : Int)) % 6 by omega]
  have e2 : lt0 (a :: b :: c :: r) = fourL [a, b, c] ++ lt0 r := by
    unfold lt0
    rw [e1, bits8, bits8, bits8]
    simp only [List.cons_append, List.nil_append]
    rw [chunks6, chunks6, chunks6, chunks6]
    simp only [List.map_cons]
    show _ :: _ :: _ :: _ :: _ = [_, _, _, _] ++ _
    have v : val256 ([a, b, c] ++ List.replicate 0 0) = a * 65536 + b * 256 + c := by
      show ((0 * 256 + a) * 256 + b) * 256 + c = _
      omega
    have n1 : numB [a / 128 % 2, a / 64 % 2, a / 32 % 2, a / 16 % 2, a / 8 % 2, a / 4 % 2] = (a * 65536 + b * 256 + c) / 262144 % 64 := by
      rw [hi6 a ha]
      omega
    have n2 : numB [a / 2 % 2, a / 1 % 2, b / 128 % 2, b / 64 % 2, b / 32 % 2, b / 16 % 2] = (a * 65536 + b * 256 + c) / 4096 % 64 := by
      rw [mid2 a b hb]
      omega
    have n3 : numB [b / 8 % 2, b / 4 % 2, b / 2 % 2, b / 1 % 2, c / 128 % 2, c / 64 % 2] = (a * 65536 + b * 256 + c) / 64 % 64 := by
      rw [mid3 b c hc]
      omega
    have n4 : numB [c / 32 % 2, c / 16 % 2, c / 8 % 2, c / 4 % 2, c / 2 % 2, c / 1 % 2] = (a * 65536 + b * 256 + c) / 1 % 64 := by
      rw [lo6 c]
      omega
    rw [n1, n2, n3, n4]
    show _ = [sgn (val256 ([a, b, c] ++ List.replicate 0 0) / 262144 % 64), sgn (val256 ([a, b, c] ++ List.replicate 0 0) / 4096 % 64), sgn (val256 ([a, b, c] ++ List.replicate 0 0) / 64 % 64), sgn (val256 ([a, b, c] ++ List.replicate 0 0) / 1 % 64)] ++ _
    rw [v]
    rfl
  have e3 : ptext (a :: b :: c :: r) = fourL [a, b, c] ++ ptext r := by
    unfold ptext
    rw [chunks3, List.map_cons, List.flatten_cons]
  rw [e3, ← ih]
  unfold ltext
  rw [e2, List.append_assoc, List.length_append]
  have : (fourL [a, b, c]).length = 4 := rfl
  rw [this, show (-(((4 + (lt0 r).length : Nat)) : Int)) % 4 = (-((lt0 r).length : Int)) % 4 by omega]
theorem text_1 (a : Int) (ha : 0 ≤ a ∧ a < 256) : ltext [a] = ptext [a] := by
  have e : padded [a] = [a / 128 % 2, a / 64 % 2, a / 32 % 2, a / 16 % 2, a / 8 % 2, a / 4 % 2, a / 2 % 2, a / 1 % 2, 0, 0, 0, 0] := by
    unfold padded
    rw [show (-(((lbits [a]).length : Nat) : Int)) % 6 = 4 by rw [lbits_len]; show (-((8 : Nat) : Int)) % 6 = 4; decide]
    rfl
  have n1 : numB [a / 128 % 2, a / 64 % 2, a / 32 % 2, a / 16 % 2, a / 8 % 2, a / 4 % 2] = (a * 65536) / 262144 % 64 := by
      rw [hi6 a ha]
      omega
  have n2 : numB [a / 2 % 2, a / 1 % 2, 0, 0, 0, 0] = (a * 65536) / 4096 % 64 := by
    rw [num6, two]
    omega
  have e0 : lt0 [a] = [sgn ((a * 65536) / 262144 % 64), sgn ((a * 65536) / 4096 % 64)] := by
    unfold lt0
    rw [e, chunks6, chunks6, chunks_nil (by decide), List.map_cons, List.map_cons, n1, n2]
    rfl
  have v : val256 ([a] ++ List.replicate 2 0) = a * 65536 := by
    show ((0 * 256 + a) * 256 + 0) * 256 + 0 = _
    omega
  have e3 : ptext [a] = fourL [a] := by
    unfold ptext
    rw [chunks_cons (by decide) (by simp), show ([a] : List Int).drop 3 = [] from rfl, chunks_nil (by decide)]
    simp
  unfold ltext
  rw [e0, e3]
  show _ = [sgn (val256 ([a] ++ List.replicate 2 0) / 262144 % 64), sgn (val256 ([a] ++ List.replicate 2 0) / 4096 % 64), 61, 61]
  rw [v]
  rfl
theorem text_2 (a b : Int) (ha : 0 ≤ a ∧ a < 256) (hb : 0 ≤ b ∧ b < 256) : ltext [a, b] = ptext [a, b] := by
  have e : padded [a, b] = [a / 128 % 2, a / 64 % 2, a / 32 % 2, a / 16 % 2, a / 8 % 2, a / 4 % 2, a / 2 % 2, a / 1 % 2, b / 128 % 2, b / 64 % 2, b / 32 % 2, b / 16 % 2, b / 8 % 2, b / 4 % 2, b / 2 % 2, b / 1 % 2, 0, 0] := by
    unfold padded
    rw [show (-(((lbits [a, b]).length : Nat) : Int)) % 6 = 2 by rw [lbits_len]; show (-((16 : Nat) : Int)) % 6 = 2; decide]
    rfl
  have n1 : numB [a / 128 % 2, a / 64 % 2, a / 32 % 2, a / 16 % 2, a / 8 % 2, a / 4 % 2] = (a * 65536 + b * 256) / 262144 % 64 := by
      rw [hi6 a ha]
      omega
  have n2 : numB [a / 2 % 2, a / 1 % 2, b / 128 % 2, b / 64 % 2, b / 32 % 2, b / 16 % 2] = (a * 65536 + b * 256) / 4096 % 64 := by
      rw [mid2 a b hb]
      omega
  have n3 : numB [b / 8 % 2, b / 4 % 2, b / 2 % 2, b / 1 % 2, 0, 0] = (a * 65536 + b * 256) / 64 % 64 := by
    rw [num6, lo4]
    omega
  have e0 : lt0 [a, b] = [sgn ((a * 65536 + b * 256) / 262144 % 64), sgn ((a * 65536 + b * 256) / 4096 % 64), sgn ((a * 65536 + b * 256) / 64 % 64)] := by
    unfold lt0
    rw [e, chunks6, chunks6, chunks6, chunks_nil (by decide), List.map_cons, List.map_cons, List.map_cons, n1, n2, n3]
    rfl
  have v : val256 ([a, b] ++ List.replicate 1 0) = a * 65536 + b * 256 := by
    show ((0 * 256 + a) * 256 + b) * 256 + 0 = _
    omega
  have e3 : ptext [a, b] = fourL [a, b] := by
    unfold ptext
    rw [chunks_cons (by decide) (by simp), show ([a, b] : List Int).drop 3 = [] from rfl, chunks_nil (by decide)]
    simp
  unfold ltext
  rw [e0, e3]
  show _ = [sgn (val256 ([a, b] ++ List.replicate 1 0) / 262144 % 64), sgn (val256 ([a, b] ++ List.replicate 1 0) / 4096 % 64), sgn (val256 ([a, b] ++ List.replicate 1 0) / 64 % 64), 61]
  rw [v]
  rfl
theorem text_eq : ∀ bs : List Int, Bytes bs → ltext bs = ptext bs
  | [], _ => rfl
  | [a], h => text_1 a (h a (by simp))
  | [a, b], h => text_2 a b (h a (by simp)) (h b (by simp))
  | a :: b :: c :: r, h => text_step a b c r (h a (by simp)) (h b (by simp)) (h c (by simp)) (text_eq r fun x hx => h x (by simp [hx]))
end K05

namespace K05
open PySem PySem.Spec PyProof.Rows L2 LH
section
variable {P : Program} {w : World} {K : PySem.W.Frag} {mg : Str → Option Value} {base : Heap} {t1 t2 : Tok}
theorem rowsV_nil : rowsV [] = [] := by
  unfold rowsV
  rw [chunks_nil (by decide)]
  rfl
theorem rowsV_cons {t : List Nat} (h : t ≠ []) : rowsV t = .str ⟨(t.take 60).toArray⟩ :: rowsV (t.drop 60) := by
  unfold rowsV
  rw [chunks_cons (by decide) h]
  rfl
theorem rowsV_len (t : List Nat) : (rowsV t).length ≤ t.length := by
  unfold rowsV
  rw [List.length_map, chunks_len]
  omega
theorem lbits_snoc (l : List Int) (b : Int) : lbits (l ++ [b]) = lbits l ++ bitsOf b 8 := by
  unfold lbits
  simp
/-- the length of the text in slot i -/
def lenAt (i : Nat) (σ : L2.St) : Nat := match σ[i]? with
  | some (some (.str z)) => z.length
  | _ => 0
/-! ### _law_in_sixty -/
abbrev s__law_in_sixty : Stmt := topS 19
abbrev N__law_in_sixty : List Str := ["_law_row", "_law_bits_here", "_law_byte", "_law_text", "_law_rows", "_law_at"]
theorem sc__law_in_sixty : FnScope N__law_in_sixty ["_law_row"] (defScope s__law_in_sixty) := ⟨rfl, rfl, rfl, by decide +kernel, rfl, by decide +kernel, by decide +kernel⟩
def sp_in_sixty (K : PySem.W.Frag) : Sp := fun vs H Q _ => ∃ (a : Addr) (bs : List Int), vs = [.ref a] ∧ H a = some (.lst (bs.map V.int)) ∧ Bytes bs ∧ bs.length ≤ 1000 ∧ New H (rowsV (ltext bs)) Q
theorem ok_in_sixty {f fB fN fS : Addr} {fd fdB fdN fdS : FuncData} (F : Fun K "_law_in_sixty" "_law_in_sixty" s__law_in_sixty f fd) (T : Tx mg t1 t2) (D__law_bits : Def P w K mg base "_law_bits" 1 fB fdB ["_law_number_here", "_law_many"] sp_bits) (D__law_number : Def P w K mg base "_law_number" 1 fN fdN ["_law_bits_here"] (sp_number K)) (D__law_sixty : Def P w K mg base "_law_sixty" 1 fS fdS [] sp_sixty) :
    FnOk P w K mg base CX0 2 f fd ["_law_row"] (sp_in_sixty K) := by
  refine F.ok sc__law_in_sixty (fun vs H Q E h => ?_) (fun cdv A outer s H vs Q E hr h => ?_)
  · obtain ⟨a, bs, rfl, _⟩ := h
    rfl
  · have nd := sc__law_in_sixty.nd
    obtain ⟨a, bs, rfl, hS, hb, hlen, q⟩ := h
    refine ⟨_, (pss_cons (ps_set (i := 1) nd rfl (.inr rfl) (pe_lst pa_nil))
      (pss_cons (ps_for PassesOwn.never rfl (pi_list (pv 0)) (pg_name (i := 2) nd rfl (Or.inl rfl))
        (pss_one (ps_expr (pe_bm PySem.F.plainAttrs_list PySem.F.slot_list_extend PySem.F.type_list_extend mt_extend (pv 1) (pa_cons (pe_def D__law_bits (hr.mono (by decide)) (pa_cons (pv 2) (pa_cons pe_int pa_nil))) pa_nil)))))
      (pss_cons (ps_set (i := 1) nd rfl (.inr rfl) (pe_op op_cat (pv 1) (pe_op op_rep (pe_lst (pa_cons pe_int pa_nil)) (pe_op op_mod (pe_un un_neg (pe_callB (cLen K) (by rfl) T.n_len (by decide +kernel) (pa_cons (pv 1) pa_nil))) pe_int))))
      (pss_cons (ps_set (i := 3) nd rfl (.inl rfl) (pe_join pe_str (pe_lc (own := [("_law_at", 5)]) (g := gName 5) (by rfl) nd (pi_range3 (by rfl) T.n_range (pa_cons pe_int (pa_cons (pe_callB (cLen K) (by rfl) T.n_len (by decide +kernel) (pa_cons (pv 1) pa_nil)) (pa_cons pe_int pa_nil)))) (blkOk_by (N := N__law_in_sixty) (sc := defScope s__law_in_sixty) (by decide +kernel)) (fun _ _ _ _ _ => (pg_name (i := 5) nd rfl (Or.inl rfl))) (fun _ _ _ _ _ => pts_nil) (fun _ _ _ _ _ => (pe_ix ix_str (pe_def0 D__law_sixty (hr.mono (by decide))) (pe_def D__law_number (hr.mono (by decide)) (pa_cons (pe_slice (slL K) (pv 1) (po_some (pv 5)) (po_some (pe_op op_add (pv 5) pe_int))) pa_nil)) (fun _ _ => rfl))))))
      (pss_cons (ps_set (i := 3) nd rfl (.inl rfl) (pe_op op_add_str (pv 3) (pe_op op_mul_str pe_str (pe_op op_mod (pe_un un_neg (pe_callB call_len_str (by rfl) T.n_len (by decide +kernel) (pa_cons (pv 3) pa_nil))) pe_int))))
      (pss_cons (ps_set (i := 4) nd rfl (.inl rfl) (pe_lst pa_nil))
      (pss_cons (ps_while PassesOwn.never (pt_cmpR op_ne (pv 3) pe_str (nomark _))
        (pss_cons (ps_expr (pe_bm PySem.F.plainAttrs_list PySem.F.slot_list_append PySem.F.type_list_append mt_append (pv 4) (pa_cons (pe_slice sl_str (pv 3) po_none (po_some pe_int)) pa_nil)))
        (pss_one (ps_set (i := 3) nd rfl (.inl rfl) (pe_slice sl_str (pv 3) (po_some pe_int) po_none)))))
      (pss_one (ps_ret (pv 4)))))))))), ?_⟩
    refine ⟨Nat.zero_le _, fun o no => ?_⟩
    have s1 := same_upd (o := .lst []) no
    refine ⟨.ref a, rfl, a, rfl, ⟨_, .inl (.inl (s1 _ _ hS))⟩, for_it walk_list (fun i σ H' => ∃ y2, σ = [some (.ref a), some (.ref o), y2, none, none, none] ∧ Same H H' ∧ H' o = some (.lst ((lbits (bs.take i)).map V.int))) ⟨none, rfl, s1, upd_same⟩
      (fun i σ H' _ h => by obtain ⟨y, rfl, sm, _⟩ := h; exact .inl (.inl (sm _ _ hS))) (fun i x σ H' H'' hi hP hy => ?_) (fun σ H' hP => ?_)⟩
    · obtain ⟨y2, rfl, sm, eo⟩ := hP
      obtain ⟨rfl, hx⟩ := hy
      rw [List.length_map] at hi
      rw [List.getElem?_map, List.getElem?_eq_getElem hi] at hx
      obtain rfl := Option.some.inj hx
      refine ⟨.ref o, rfl, .inl ⟨rfl, _, .inl (.inl eo)⟩, .int bs[i], rfl, bs[i], 8, rfl, by decide, fun H2 p sm2 np ep => ?_⟩
      have npo : o ≠ p := ne_of_none eo np
      have hl := lbits_len (bs.take i)
      rw [List.length_take] at hl
      refine ⟨o, p, _, _, rfl, rfl, sm2 _ _ eo, ep, ?_, some (.int bs[i]), rfl, fun b z e => ?_, ?_⟩
      · rw [List.length_map, List.length_map, bits8_len, hl, sizeLine_eq]
        omega
      · rw [upd_ne (ne_of_none e no)]
        exact sm2 _ _ (sm _ _ e)
      · rw [upd_same, List.take_add_one, List.getElem?_eq_getElem hi]
        show _ = some (HO.lst ((lbits (bs.take i ++ [bs[i]])).map V.int))
        rw [lbits_snoc, List.map_append]
    · obtain ⟨y2, rfl, sm, eo⟩ := hP
      rw [List.length_map, List.take_length] at eo
      have hlb := lbits_len bs
      have hlm : ((lbits bs).map V.int).length = (lbits bs).length := List.length_map ..
      have hm0 : 0 ≤ (-((lbits bs).length : Int)) % 6 ∧ (-((lbits bs).length : Int)) % 6 < 6 := ⟨Int.emod_nonneg _ (by decide), Int.emod_lt_of_pos _ (by decide)⟩
      refine ⟨.ref o, rfl, Nat.le_of_lt (small1000 (show 1 ≤ 1000 by decide)), fun p np => ?_⟩
      have s2 := same_upd (o := .lst [V.int 0]) np
      refine ⟨.ref o, rfl, o, _, rfl, .inl (.inl (.inl (s2 _ _ eo))), _, rfl, _, 6, rfl, rfl, (show (0 : Int) < 6 by decide), p, _, _, rfl, rfl, upd_same, ?_, ?_, ?_, fun p2 np2 => ?_⟩
      · rw [hlm]; omega
      · rw [hlm]; omega
      · rw [hlm, List.length_singleton, sizeLine_eq]; omega
      rw [hlm]
      have e2 : (List.replicate ((-((lbits bs).length : Int)) % 6).toNat [V.int 0]).flatten = (List.replicate ((-((lbits bs).length : Int)) % 6).toNat (0 : Int)).map V.int := rep_flat _
      rw [e2]
      have s3 := same_upd (o := .lst ((List.replicate ((-((lbits bs).length : Int)) % 6).toNat (0 : Int)).map V.int)) np2
      refine ⟨o, p2, _, _, rfl, rfl, s3 _ _ (s2 _ _ eo), upd_same, ?_, fun p3 np3 => ?_⟩
      · rw [hlm, List.length_map, List.length_replicate, sizeLine_eq]; omega
      rw [← List.map_append]
      have s4 := same_upd (o := .lst ((lbits bs ++ List.replicate ((-((lbits bs).length : Int)) % 6).toNat (0 : Int)).map V.int)) np3
      have hpad : lbits bs ++ List.replicate ((-((lbits bs).length : Int)) % 6).toNat (0 : Int) = padded bs := rfl
      rw [hpad] at s4 ⊢
      have hpl := padded_len bs
      have hplm : ((padded bs).map V.int).length = (padded bs).length := List.length_map ..
      generalize hH3 : upd _ p3 (.lst ((padded bs).map V.int)) = H3 at *
      have e3 : H3 p3 = some (.lst ((padded bs).map V.int)) := by rw [← hH3, upd_same]
      have s14 : Same H H3 := sm.trans (s2.trans (s3.trans s4))
      refine ⟨⟨_, rfl⟩, .ref p3, rfl, p3, _, rfl, .inl (.inl (.inl e3)), 0, _, 6, ((padded bs).length + 5) / 6, rfl, by rw [hplm]; exact rgC _ 6 (by decide) (by decide) (by omega), fun D hD => ?_⟩
      refine lc_pure (fun i => .int (0 + ((i : Nat) : Int) * 6)) (fun i => .str ⟨#[sgn (numB (((padded bs).drop (i * 6)).take 6))]⟩) walk_rangeC (fun _ _ => trivial) hD (by rw [sizeLine_eq]; omega) (fun i H2 Q2 hi sm2 q2 => ?_) (fun H2 sm2 e => ?_)
      · refine ⟨rfl, .ref p3, rfl, .int (0 + ((i : Nat) : Int) * 6), rfl, _, rfl, .int (0 + ((i : Nat) : Int) * 6), rfl, _, 6, rfl, rfl, 0 + ((i : Nat) : Int) * 6 + 6, rfl, p3, _, rfl, .inl (.inl (sm2 _ _ e3)), fun p np => ?_⟩
        refine ⟨p, ((padded bs).drop (i * 6)).take 6, rfl, .inl (.inl ?_), fun H4 sm4 => ?_⟩
        · rw [upd_same, show (0 : Int) + ((i : Nat) : Int) * 6 = ((i * 6 : Nat) : Int) by omega, show ((i * 6 : Nat) : Int) + 6 = ((i * 6 + 6 : Nat) : Int) by omega, cutV_at, Nat.add_sub_cancel_left, List.map_take, List.map_drop]
        · have hn := numB_lt64 (((padded bs).drop (i * 6)).take 6) (fun x hx => padded_01 bs x (List.mem_of_mem_drop (List.mem_of_mem_take hx))) (by rw [List.length_take]; omega)
          exact ⟨S64, _, _, rfl, rfl, Nat.le_of_lt (small1000 (by decide +kernel)), sgn_at hn.1 hn.2, q2 _ ((same_upd np).trans sm4)⟩
      · have ey : (List.range (((padded bs).length + 5) / 6)).map (fun i => V.str ⟨#[sgn (numB (((padded bs).drop (i * 6)).take 6))]⟩) = ((chunks 6 (padded bs)).map fun c => (⟨#[sgn (numB c)]⟩ : Str)).map V.str := by
          unfold chunks
          rw [List.map_map, List.map_map]
          rfl
        rw [ey] at e
        have e5 : (((chunks 6 (padded bs)).map fun c => (⟨#[sgn (numB c)]⟩ : Str)).map TL.tl).flatten = lt0 bs := by
          unfold lt0
          rw [List.map_map]
          generalize chunks 6 (padded bs) = l
          induction l with
          | nil => rfl
          | cons x r ih => rw [List.map_cons, List.flatten_cons, ih]; rfl
        have hl0 := lt0_len bs
        refine ⟨Str.ofString "", D, _, rfl, rfl, .inl (.inl (.inl e)), ?_, ?_⟩
        · rw [sum_len, e5]
          show (lt0 bs).length + _ * 0 ≤ 16777216
          omega
        have eJ := tl_join0 ((chunks 6 (padded bs)).map fun c => (⟨#[sgn (numB c)]⟩ : Str))
        rw [e5] at eJ
        generalize Txt.join (Str.ofString "") ((chunks 6 (padded bs)).map fun c => (⟨#[sgn (numB c)]⟩ : Str)) = J at eJ
        have hJ : J.length = (lt0 bs).length := by rw [TL.len_tl, eJ]
        have hm4 : 0 ≤ (-((J.length : Nat) : Int)) % 4 ∧ (-((J.length : Nat) : Int)) % 4 < 4 := ⟨Int.emod_nonneg _ (by decide), Int.emod_lt_of_pos _ (by decide)⟩
        have hrl : (repS (Str.ofString "=") ((-((J.length : Nat) : Int)) % 4)).length = ((-((J.length : Nat) : Int)) % 4).toNat := by rw [TL.len_tl, tl_rep_eq, List.length_replicate]
        refine ⟨.str J, rfl, .str J, rfl, J, rfl, by rw [hJ, sizeLine_eq]; omega, _, rfl, _, 4, rfl, rfl, (show (0 : Int) < 4 by decide), Str.ofString "=", _, rfl, rfl, by omega, by omega, by decide +kernel, _, _, rfl, rfl, ?_, ?_⟩
        · rw [hrl, hJ, sizeLine_eq]; omega
        have eT : TL.tl (J ++ repS (Str.ofString "=") ((-((J.length : Nat) : Int)) % 4)) = ltext bs := by
          rw [TL.tl_append, tl_rep_eq, eJ, hJ]
          rfl
        generalize J ++ repS (Str.ofString "=") ((-((J.length : Nat) : Int)) % 4) = Z at eT
        have hlt := ltext_len bs
        refine ⟨Nat.zero_le _, fun r nr => ?_⟩
        have s5 := same_upd (o := .lst []) nr
        have hfr : H r = none := (s14.trans sm2).free nr
        refine while_by (fun σ H' => ∃ (z : Str) (rs : List V) (y2 : Option V), σ = [some (.ref a), some (.ref p3), y2, some (.str z), some (.ref r), none] ∧ Same H H' ∧ H' r = some (.lst rs) ∧ rs ++ rowsV (TL.tl z) = rowsV (ltext bs) ∧ z.length ≤ 9000) (fun σ _ => lenAt 3 σ)
          ⟨Z, [], y2, rfl, s14.trans (sm2.trans s5), upd_same, by rw [eT, List.nil_append], by rw [TL.len_tl, eT]; omega⟩ (fun σ H' hP => ?_) (fun σ H' Q1 Q2 hQ h => ?_)
        · obtain ⟨z, rs, y2, rfl, sm5, er, hrs, hz⟩ := hP
          have hrl2 : rs.length ≤ 9000 := by
            have h1 := congrArg List.length hrs
            rw [List.length_append] at h1
            have h2 := rowsV_len (ltext bs)
            omega
          refine ⟨.str z, rfl, rfl, _, rfl, ite2 (fun e => ?_) (fun e => ?_)⟩
          · have hz0 : TL.tl z ≠ [] := fun h => by
              have : z = Str.ofString "" := TL.ext_tl (by rw [h, tl_empty])
              rw [this] at e
              exact absurd e (by decide)
            have hzl : 0 < z.length := by
              rw [TL.len_tl]
              exact List.length_pos_iff.mpr hz0
            refine ⟨.ref r, rfl, .inl ⟨rfl, _, .inl (.inl er)⟩, .str z, rfl, 60, rfl, z, rfl, by rw [sizeLine_eq]; omega, r, _, _, rfl, rfl, er, by rw [sizeLine_eq]; omega, ?_⟩
            refine ⟨.str z, rfl, 60, rfl, z, rfl, by rw [sizeLine_eq]; omega, ?_⟩
            have ez : TL.tl (cutS z (some 60) none) = (TL.tl z).drop 60 := by
              rw [show (60 : Int) = ((60 : Nat) : Int) from rfl, cutS_from]
            have ezl : (cutS z (some 60) none).length = z.length - 60 := by rw [TL.len_tl, ez, List.length_drop, ← TL.len_tl]
            refine ⟨⟨cutS z (some 60) none, rs ++ [.str (cutS z none (some 60))], y2, rfl, fun b x eb => ?_, upd_same, ?_, by omega⟩, ?_⟩
            · rw [upd_ne (ne_of_none eb hfr)]
              exact sm5 _ _ eb
            · rw [ez, List.append_assoc, ← hrs, rowsV_cons hz0, show (60 : Int) = ((60 : Nat) : Int) from rfl, cutS_to]
              rfl
            · show (cutS z (some 60) none).length < z.length
              omega
          · have hz0 : TL.tl z = [] := by
              have : z = Str.ofString "" := by
                have h1 : decide (V.str z = V.str (Str.ofString "")) = true := by
                  cases h : decide (V.str z = V.str (Str.ofString "")) with
                  | true => rfl
                  | false => exact absurd (by rw [h]; rfl) e
                exact V.str.inj (of_decide_eq_true h1)
              rw [this, tl_empty]
            rw [hz0, rowsV_nil, List.append_nil] at hrs
            exact ⟨.ref r, rfl, q H' r sm5 hfr (by rw [er, hrs])⟩
        · obtain ⟨v, e1, e2, k, e3, h⟩ := h
          exact ⟨v, e1, e2, k, e3, hQ _ _ h⟩
end
end K05

namespace K05
open PySem PySem.Spec PyProof.Rows L2 LH
section
variable {P : Program} {w : World} {K : PySem.W.Frag} {mg : Str → Option Value} {base : Heap} {t1 t2 : Tok}
def rowsS (t : List Nat) : List Str := (chunks 60 t).map fun l => ⟨l.toArray⟩
theorem rowsV_eq (t : List Nat) : rowsV t = (rowsS t).map V.str := by
  unfold rowsV rowsS
  rw [List.map_map]
  rfl
theorem sgn_lt (n : Int) : sgn n < 1114112 := by
  unfold sgn
  rw [List.getD_eq_getElem?_getD]
  cases h : (TL.tl S64)[n.toNat]? with
  | none => decide
  | some c =>
    have hm : c ∈ TL.tl S64 := List.mem_of_getElem? h
    have all : (TL.tl S64).all (fun c => decide (c < 1114112)) = true := by decide +kernel
    exact of_decide_eq_true (List.all_eq_true.mp all c hm)
theorem ltext_ok (bs : List Int) : ∀ c ∈ ltext bs, c < 1114112 := fun c hc => by
  rcases List.mem_append.mp hc with h | h
  · obtain ⟨x, _, rfl⟩ := List.mem_map.mp h
    exact sgn_lt _
  · rw [(List.mem_replicate.mp h).2]
    decide
theorem rowsS_ok (t : List Nat) (h : ∀ c ∈ t, c < 1114112) : ∀ x ∈ rowsS t, OkS x := fun x hx => by
  obtain ⟨l, hl, rfl⟩ := List.mem_map.mp hx
  obtain ⟨i, _, rfl⟩ := List.mem_map.mp hl
  intro c hc
  exact h c (List.mem_of_mem_drop (List.mem_of_mem_take hc))
theorem pick4 (a b c d : Int) : ∀ m : Int, 0 ≤ m → m < 4 → ∃ z : Int, atI [V.int a, .int b, .int c, .int d] m = some (.int z) := by
  intro m h0 h1
  have : m = 0 ∨ m = 1 ∨ m = 2 ∨ m = 3 := by omega
  rcases this with rfl | rfl | rfl | rfl
  · exact ⟨_, rfl⟩
  · exact ⟨_, rfl⟩
  · exact ⟨_, rfl⟩
  · exact ⟨_, rfl⟩
/-! ### law -/
abbrev s_law : Stmt := topS 21
abbrev N_law : List Str := ["_law_script", "_law_row", "_law_sizes", "_law_k", "_law_size", "_law_number_here", "_law_more", "_law_some", "_law_due", "_law_handed", "_law_turn", "_law_found"]
theorem sc_law : FnScope N_law ["_law_script"] (defScope s_law) := ⟨rfl, rfl, rfl, by decide +kernel, rfl, by decide +kernel, by decide +kernel⟩
def spLaw (K : PySem.W.Frag) : Sp := fun vs H Q _ => ∃ (a : Addr) (ns : List Int), vs = [.ref a] ∧ SqL K H a (ns.map V.int) ∧ ns.length ≤ 63 ∧ ∀ H', Q (.bl true) H'
theorem ok_law {f fB fM fC fI fS fR : Addr} {fd fdB fdM fdC fdI fdS fdR : FuncData} (F : Fun K "law" "law" s_law f fd) (T : Tx mg t1 t2)
    (D__law_bytes : Def P w K mg base "_law_bytes" 2 fB fdB ["_law_script"] (sp_bytes K)) (D__law_mixed : Def P w K mg base "_law_mixed" 1 fM fdM ["_law_cell_here", "_law_k"] sp_mixed) (D__law_cell : Def P w K mg base "_law_cell" 1 fC fdC ["_law_script", "_law_k"] (sp_cell K))
    (D__law_in_sixty : Def P w K mg base "_law_in_sixty" 2 fI fdI ["_law_row"] (sp_in_sixty K)) (D_sixty_of : Def P w K mg base "sixty_of" 3 fS fdS ["row"] (sp_sixty_of ptext)) (D__law_are_rows : Def P w K mg base "_law_are_rows" 1 fR fdR ["_law_found", "_law_due"] sp_are_rows) :
    FnOk P w K mg base CX0 4 f fd ["_law_script"] (spLaw K) := by
  refine F.ok sc_law (fun vs H Q E h => ?_) (fun cdv A outer s H vs Q E hr h => ?_)
  · obtain ⟨a, ns, rfl, _⟩ := h
    rfl
  · have nd := sc_law.nd
    obtain ⟨a, ns, rfl, hS, hlen, q⟩ := h
    refine ⟨_, (pss_cons (ps_set (i := 1) nd rfl (.inl rfl) (pe_def D__law_bytes (hr.mono (by decide)) (pa_cons (pv 0) pa_nil)))
      (pss_cons (ps_set (i := 2) nd rfl (.inl rfl) (pe_lst (pa_cons (pe_callB (cLen K) (by rfl) T.n_len (by decide +kernel) (pa_cons (pv 1) pa_nil)) (pa_cons pe_int pa_nil))))
      (pss_cons (ps_for PassesOwn.never rfl (pi_range1 (by rfl) T.n_range (pa_cons pe_int pa_nil)) (pg_name (i := 3) nd rfl (Or.inl rfl))
        (pss_cons (ps_set (i := 5) nd rfl (.inl rfl) (pe_def D__law_mixed (hr.mono (by decide)) (pa_cons (pe_def D__law_cell (hr.mono (by decide)) (pa_cons (pv 0) (pa_cons (pv 3) pa_nil))) (pa_cons (pe_op op_add pe_int (pv 3)) pa_nil))))
        (pss_cons (ps_set (i := 6) nd rfl (.inl rfl) (pe_op op_fdiv (pv 5) pe_int))
        (pss_one (ps_expr (pe_bm PySem.F.plainAttrs_list PySem.F.slot_list_append PySem.F.type_list_append mt_append (pv 2) (pa_cons (pe_ix (ixL K) (pe_lst (pa_cons (pv 6) (pa_cons (pe_op op_mul pe_int (pe_op op_mod (pv 6) pe_int)) (pa_cons (pe_op op_add (pe_op op_mul pe_int (pe_op op_mod (pv 6) pe_int)) pe_int) (pa_cons (pe_op op_add pe_int (pe_op op_mul pe_int (pe_op op_mod (pv 6) pe_int))) pa_nil))))) (pe_op op_mod (pv 5) pe_int) (fun _ _ => rfl)) pa_nil)))))))
      (pss_cons (ps_for PassesOwn.never rfl (pi_list (pv 2)) (pg_name (i := 4) nd rfl (Or.inl rfl))
        (pss_cons (ps_set (i := 7) nd rfl (.inl rfl) (pe_slice (slL K) (pv 1) po_none (po_some (pe_op op_mod (pv 4) (pe_op op_add (pe_callB (cLen K) (by rfl) T.n_len (by decide +kernel) (pa_cons (pv 1) pa_nil)) pe_int)))))
        (pss_cons (ps_set (i := 8) nd rfl (.inl rfl) (pe_def D__law_in_sixty (hr.mono (by decide)) (pa_cons (pv 7) pa_nil)))
        (pss_cons (ps_set (i := 9) nd rfl (.inl rfl) (pe_callTy call_list_of (by rfl) T.n_list (by decide +kernel) (pa_cons (pv 7) pa_nil)))
        (pss_one (ps_for PassesOwn.never rfl (pi_range1 (by rfl) T.n_range (pa_cons pe_int pa_nil)) (pg_name (i := 10) nd rfl (Or.inl rfl))
          (pss_cons (ps_set (i := 11) nd rfl (.inl rfl) (pe_def D_sixty_of (hr.mono (by decide)) (pa_cons (pv 9) pa_nil)))
          (pss_cons (ps_if (PW.pt (pw_or (pt_not (pt_val (pe_def D__law_are_rows (hr.mono (by decide)) (pa_cons (pv 11) (pa_cons (pv 8) pa_nil))))) (pw_or1 (pt_cmpR (oNeD K hr.units) (pv 9) (pv 7) (nomark _)))))
            (pss_one (ps_ret pe_bl))
            pss_nil)
          (pss_one (ps_expr (pe_bm PySem.F.plainAttrs_list PySem.F.slot_list_append PySem.F.type_list_append mt_append (pv 11) (pa_cons pe_str pa_nil))))))))))))
      (pss_one (ps_ret pe_bl)))))), ?_⟩
    refine ⟨.ref a, rfl, a, ns, rfl, hS, hlen, fun bs hb hl H1 r s1 nr e1 => ?_⟩
    refine ⟨.ref r, rfl, r, _, rfl, .inl (.inl (.inl e1)), Nat.le_of_lt (small1000 (show 2 ≤ 1000 by decide)), fun o no => ?_⟩
    have s2 := same_upd (o := .lst [V.int ((bs.map V.int).length : Nat), .int 0]) no
    have hlm : (bs.map V.int).length = bs.length := List.length_map ..
    refine ⟨6, rfl, by decide, by decide, for_it walk_range (fun i σ H' => ∃ (y3 y5 y6 : Option V) (zs : List Int), σ = [some (.ref a), some (.ref r), some (.ref o), y3, none, y5, y6, none, none, none, none, none] ∧ Same H1 H' ∧ H' o = some (.lst (zs.map V.int)) ∧ zs.length ≤ 2 + i)
      ⟨none, none, none, [((bs.map V.int).length : Nat), 0], rfl, s2, upd_same, Nat.le_refl _⟩ (fun _ _ _ _ _ => trivial) (fun i x σ H' H'' hi hP hy => ?_) (fun σ H' hP => ?_)⟩
    · obtain ⟨y3, y5, y6, zs, rfl, sm, eo, hz⟩ := hP
      obtain ⟨rfl, rfl⟩ := hy
      refine ⟨.ref a, rfl, _, rfl, a, ns, i, by show [V.ref a, V.int (0 + (i : Int))] = _; rw [Int.zero_add], (s1.trans sm).seq hS, fun H2 sm2 => ⟨_, rfl, 70, _, rfl, rfl, _, 70 + (0 + (i : Int)), rfl, by omega, by omega, fun H3 sm3 => ?_⟩⟩
      generalize mixed _ _ = M
      refine ⟨.int M, rfl, M, 4, rfl, rfl, ⟨by decide, by decide⟩, ?_⟩
      have eo3 := sm3 _ _ (sm2 _ _ eo)
      obtain ⟨z, ez⟩ := pick4 (M / 4) (45 * (M / 4 % 6)) (45 * (M / 4 % 6) + 1) (44 + 45 * (M / 4 % 5)) (M % 4) (Int.emod_nonneg _ (by decide)) (Int.emod_lt_of_pos _ (by decide))
      refine ⟨.ref o, rfl, .inl ⟨rfl, _, .inl (.inl eo3)⟩, ?_⟩
      refine ⟨.int (M / 4), rfl, .int (M / 4), rfl, _, 6, rfl, rfl, (show (0 : Int) < 6 by decide), 45, _, rfl, rfl, .inl (by decide), .int (M / 4), rfl, _, 6, rfl, rfl, (show (0 : Int) < 6 by decide), 45, _, rfl, rfl, .inl (by decide), _, 1, rfl, rfl,
        .int (M / 4), rfl, _, 5, rfl, rfl, (show (0 : Int) < 5 by decide), 45, _, rfl, rfl, .inl (by decide), 44, _, rfl, rfl, Nat.le_of_lt (small1000 (show 4 ≤ 1000 by decide)), fun p np => ?_⟩
      have npo : o ≠ p := ne_of_none eo3 np
      have sp := same_upd (o := .lst [V.int (M / 4), .int (45 * (M / 4 % 6)), .int (45 * (M / 4 % 6) + 1), .int (44 + 45 * (M / 4 % 5))]) np
      refine ⟨.int M, rfl, M, 4, rfl, rfl, (show (0 : Int) < 4 by decide), p, _, _, .int z, rfl, rfl, .inl (.inl upd_same), ez, o, _, _, rfl, rfl, sp _ _ eo3, ?_, ?_⟩
      · rw [List.length_map]
        exact small1000 (by omega)
      · refine ⟨_, _, _, zs ++ [z], rfl, fun b x e => ?_, ?_, ?_⟩
        · rw [upd_ne (ne_of_none e no)]
          exact sp _ _ (sm3 _ _ (sm2 _ _ (sm _ _ e)))
        · rw [upd_same, List.map_append]
          rfl
        · rw [List.length_append, List.length_singleton]
          omega
    · obtain ⟨y3, y5, y6, zs, rfl, sm, eo, hz⟩ := hP
      refine ⟨.ref o, rfl, o, rfl, ⟨_, .inl (.inl eo)⟩, for_it walk_list (fun i σ H2 => ∃ y4 y7 y8 y9 y10 y11, σ = [some (.ref a), some (.ref r), some (.ref o), y3, y4, y5, y6, y7, y8, y9, y10, y11] ∧ Same H' H2) ⟨_, _, _, _, _, _, rfl, Same.refl _⟩
        (fun i σ H2 _ h => by obtain ⟨_, _, _, _, _, _, rfl, sm2⟩ := h; exact .inl (.inl (sm2 _ _ eo))) (fun i x σ H2 H3 hi hP hy => ?_) (fun σ H2 hP => ?_)⟩
      · obtain ⟨y4, y7, y8, y9, y10, y11, rfl, sm2⟩ := hP
        obtain ⟨rfl, hx⟩ := hy
        rw [List.length_map] at hi
        rw [List.getElem?_map, List.getElem?_eq_getElem hi] at hx
        obtain rfl := Option.some.inj hx
        have er := sm2 _ _ (sm _ _ e1)
        generalize zs[i] = z
        refine ⟨.ref r, rfl, .int z, rfl, .ref r, rfl, r, _, rfl, .inl (.inl (.inl er)), _, 1, rfl, rfl, z, _, rfl, rfl, (show (0 : Int) < ((bs.map V.int).length : Nat) + 1 by omega), _, rfl, r, _, rfl, .inl (.inl er), fun c nc => ?_⟩
        have hz0 : 0 ≤ z % (((bs.map V.int).length : Nat) + 1) := Int.emod_nonneg _ (by omega)
        obtain ⟨n, en⟩ : ∃ n : Nat, z % (((bs.map V.int).length : Nat) + 1) = (n : Int) := ⟨(z % (((bs.map V.int).length : Nat) + 1)).toNat, by omega⟩
        rw [en, cutV_to, ← List.map_take] at *
        have hsb : Bytes (bs.take n) := fun x hx => hb x (List.mem_of_mem_take hx)
        have hsl : (bs.take n).length ≤ 252 := by rw [List.length_take]; omega
        generalize bs.take n = sb at *
        have s3 := same_upd (o := .lst (sb.map V.int)) nc
        generalize hH4 : upd _ c (.lst (sb.map V.int)) = H4 at *
        have e4 : H4 c = some (.lst (sb.map V.int)) := by rw [← hH4, upd_same]
        refine ⟨.ref c, rfl, c, sb, rfl, e4, hsb, by omega, fun H5 du s5 ndu e5 => ?_⟩
        refine ⟨.ref c, rfl, c, _, rfl, .inl (.inl (.inl (s5 _ _ e4))), fun hd nhd => ?_⟩
        have s6 := same_upd (o := .lst (sb.map V.int)) nhd
        generalize hH6 : upd _ hd (.lst (sb.map V.int)) = H6 at *
        have e6 : H6 hd = some (.lst (sb.map V.int)) := by rw [← hH6, upd_same]
        have e6c := s6 _ _ (s5 _ _ e4)
        have e6d := s6 _ _ e5
        refine ⟨2, rfl, by decide, by decide, for_it walk_range (fun j σ H7 => ∃ y10 y11, σ = [some (.ref a), some (.ref r), some (.ref o), y3, some (.int z), y5, y6, some (.ref c), some (.ref du), some (.ref hd), y10, y11] ∧ Same H6 H7) ⟨_, _, rfl, Same.refl _⟩
          (fun _ _ _ _ _ => trivial) (fun j x σ H7 H8 hj hP hy => ?_) (fun σ H7 hP => ?_)⟩
        · obtain ⟨y10, y11, rfl, sm7⟩ := hP
          obtain ⟨rfl, rfl⟩ := hy
          refine ⟨.ref hd, rfl, hd, sb, rfl, sm7 _ _ e6, hsb, by omega, fun H9 fo s9 nfo e9 => ?_⟩
          rw [text_eq sb hsb] at e5 e6d
          rw [rowsV_eq] at e9 e6d
          have e9d := s9 _ _ (sm7 _ _ e6d)
          have hrl : (rowsS (ptext sb)).length ≤ 1000 := by
            have h2 := ptext_le sb
            unfold rowsS
            rw [List.length_map, chunks_len]
            omega
          refine ⟨.ref fo, rfl, .ref du, rfl, fo, du, rowsS (ptext sb), rfl, e9, e9d, hrl, rowsS_ok _ (by rw [← text_eq sb hsb]; exact ltext_ok sb), fun H10 s10 => ?_⟩
          refine ⟨true, rfl, iteF ?_⟩
          refine ⟨.ref hd, rfl, .ref c, rfl, _, _, dp_ints (.inl (.inl (s10 _ _ (s9 _ _ (sm7 _ _ e6))))), dp_ints (.inl (.inl (s10 _ _ (s9 _ _ (sm7 _ _ e6c))))), shaped_intsL _, shaped_intsL _, false, ?_, iteF ?_⟩
          · rw [eqv_intsL, decide_eq_true rfl]
            rfl
          refine ⟨.ref fo, rfl, .inl ⟨rfl, _, .inl (.inl (s10 _ _ e9))⟩, fo, _, _, rfl, rfl, s10 _ _ e9, ?_, ?_⟩
          · rw [List.length_map, sizeLine_eq]
            omega
          · refine ⟨_, _, rfl, fun b x e => ?_⟩
            have hbf : b ≠ fo := ne_of_none (sm7 _ _ e) nfo
            rw [upd_ne hbf]
            exact s10 _ _ (s9 _ _ (sm7 _ _ e))
        · obtain ⟨y10, y11, rfl, sm7⟩ := hP
          exact ⟨_, _, _, _, _, _, rfl, sm2.trans (s3.trans (s5.trans (s6.trans sm7)))⟩
      · obtain ⟨y4, y7, y8, y9, y10, y11, rfl, sm2⟩ := hP
        exact q _
end
end K05

namespace K05
open PySem PySem.Spec PyProof.Rows L2 LH
theorem all_mk {l : PySem.W.OpenLaw} {w : World} {K : PySem.W.Frag} {h : Heap} {mg : Str → Option Value} {fa : Addr} {f0 f1 f2 f3 f4 f5 f6 f7 f8 f9 f10 f11 f12 f13 : Addr} {t1 t2 : Tok} (X : K.In h) (G : h.Ns mainGlobals mg) (hfa : mg "law" = some (.ref fa))
    {od0 an0 : Option Addr} {sl0 : Array (Option Value)} {oc0 kV0 dc0 pm0 cd0 ct0 : Value}
    (a0 : PySem.W.nsIn K mainGlobals "is_number" = some (some (.ref f0))) (l0 : K.lookup f0 = some ⟨oc0, od0, .func (PySem.W.fnOf "is_number" "is_number" (defArgs s_is_number) (defBody s_is_number) (defScope s_is_number) .none kV0 dc0 pm0 an0 cd0 ct0), sl0⟩) (c0 : PySem.W.codeIn K cd0 "is_number" = true) (k0 : PySem.W.keepIn K (.ref f0) = true)
    {od1 an1 : Option Addr} {sl1 : Array (Option Value)} {oc1 kV1 dc1 pm1 cd1 ct1 : Value}
    (a1 : PySem.W.nsIn K mainGlobals "is_bytes" = some (some (.ref f1))) (l1 : K.lookup f1 = some ⟨oc1, od1, .func (PySem.W.fnOf "is_bytes" "is_bytes" (defArgs s_is_bytes) (defBody s_is_bytes) (defScope s_is_bytes) .none kV1 dc1 pm1 an1 cd1 ct1), sl1⟩) (c1 : PySem.W.codeIn K cd1 "is_bytes" = true) (k1 : PySem.W.keepIn K (.ref f1) = true)
    {od2 an2 : Option Addr} {sl2 : Array (Option Value)} {oc2 kV2 dc2 pm2 cd2 ct2 : Value}
    (a2 : PySem.W.nsIn K mainGlobals "four_of" = some (some (.ref f2))) (l2 : K.lookup f2 = some ⟨oc2, od2, .func (PySem.W.fnOf "four_of" "four_of" (defArgs s_four_of) (defBody s_four_of) (defScope s_four_of) .none kV2 dc2 pm2 an2 cd2 ct2), sl2⟩) (c2 : PySem.W.codeIn K cd2 "four_of" = true) (k2 : PySem.W.keepIn K (.ref f2) = true)
    {od3 an3 : Option Addr} {sl3 : Array (Option Value)} {oc3 kV3 dc3 pm3 cd3 ct3 : Value}
    (a3 : PySem.W.nsIn K mainGlobals "sixty_of" = some (some (.ref f3))) (l3 : K.lookup f3 = some ⟨oc3, od3, .func (PySem.W.fnOf "sixty_of" "sixty_of" (defArgs s_sixty_of) (defBody s_sixty_of) (defScope s_sixty_of) .none kV3 dc3 pm3 an3 cd3 ct3), sl3⟩) (c3 : PySem.W.codeIn K cd3 "sixty_of" = true) (k3 : PySem.W.keepIn K (.ref f3) = true)
    {od4 an4 : Option Addr} {sl4 : Array (Option Value)} {oc4 kV4 dc4 pm4 cd4 ct4 : Value}
    (a4 : PySem.W.nsIn K mainGlobals "_law_cell" = some (some (.ref f4))) (l4 : K.lookup f4 = some ⟨oc4, od4, .func (PySem.W.fnOf "_law_cell" "_law_cell" (defArgs s__law_cell) (defBody s__law_cell) (defScope s__law_cell) .none kV4 dc4 pm4 an4 cd4 ct4), sl4⟩) (c4 : PySem.W.codeIn K cd4 "_law_cell" = true) (k4 : PySem.W.keepIn K (.ref f4) = true)
    {od5 an5 : Option Addr} {sl5 : Array (Option Value)} {oc5 kV5 dc5 pm5 cd5 ct5 : Value}
    (a5 : PySem.W.nsIn K mainGlobals "_law_mixed" = some (some (.ref f5))) (l5 : K.lookup f5 = some ⟨oc5, od5, .func (PySem.W.fnOf "_law_mixed" "_law_mixed" (defArgs s__law_mixed) (defBody s__law_mixed) (defScope s__law_mixed) .none kV5 dc5 pm5 an5 cd5 ct5), sl5⟩) (c5 : PySem.W.codeIn K cd5 "_law_mixed" = true) (k5 : PySem.W.keepIn K (.ref f5) = true)
    {od6 an6 : Option Addr} {sl6 : Array (Option Value)} {oc6 kV6 dc6 pm6 cd6 ct6 : Value}
    (a6 : PySem.W.nsIn K mainGlobals "_law_next" = some (some (.ref f6))) (l6 : K.lookup f6 = some ⟨oc6, od6, .func (PySem.W.fnOf "_law_next" "_law_next" (defArgs s__law_next) (defBody s__law_next) (defScope s__law_next) .none kV6 dc6 pm6 an6 cd6 ct6), sl6⟩) (c6 : PySem.W.codeIn K cd6 "_law_next" = true) (k6 : PySem.W.keepIn K (.ref f6) = true)
    {od7 an7 : Option Addr} {sl7 : Array (Option Value)} {oc7 kV7 dc7 pm7 cd7 ct7 : Value}
    (a7 : PySem.W.nsIn K mainGlobals "_law_bytes" = some (some (.ref f7))) (l7 : K.lookup f7 = some ⟨oc7, od7, .func (PySem.W.fnOf "_law_bytes" "_law_bytes" (defArgs s__law_bytes) (defBody s__law_bytes) (defScope s__law_bytes) .none kV7 dc7 pm7 an7 cd7 ct7), sl7⟩) (c7 : PySem.W.codeIn K cd7 "_law_bytes" = true) (k7 : PySem.W.keepIn K (.ref f7) = true)
    {od8 an8 : Option Addr} {sl8 : Array (Option Value)} {oc8 kV8 dc8 pm8 cd8 ct8 : Value}
    (a8 : PySem.W.nsIn K mainGlobals "_law_sixty" = some (some (.ref f8))) (l8 : K.lookup f8 = some ⟨oc8, od8, .func (PySem.W.fnOf "_law_sixty" "_law_sixty" (defArgs s__law_sixty) (defBody s__law_sixty) (defScope s__law_sixty) .none kV8 dc8 pm8 an8 cd8 ct8), sl8⟩) (c8 : PySem.W.codeIn K cd8 "_law_sixty" = true) (k8 : PySem.W.keepIn K (.ref f8) = true)
    {od9 an9 : Option Addr} {sl9 : Array (Option Value)} {oc9 kV9 dc9 pm9 cd9 ct9 : Value}
    (a9 : PySem.W.nsIn K mainGlobals "_law_bits" = some (some (.ref f9))) (l9 : K.lookup f9 = some ⟨oc9, od9, .func (PySem.W.fnOf "_law_bits" "_law_bits" (defArgs s__law_bits) (defBody s__law_bits) (defScope s__law_bits) .none kV9 dc9 pm9 an9 cd9 ct9), sl9⟩) (c9 : PySem.W.codeIn K cd9 "_law_bits" = true) (k9 : PySem.W.keepIn K (.ref f9) = true)
    {od10 an10 : Option Addr} {sl10 : Array (Option Value)} {oc10 kV10 dc10 pm10 cd10 ct10 : Value}
    (a10 : PySem.W.nsIn K mainGlobals "_law_number" = some (some (.ref f10))) (l10 : K.lookup f10 = some ⟨oc10, od10, .func (PySem.W.fnOf "_law_number" "_law_number" (defArgs s__law_number) (defBody s__law_number) (defScope s__law_number) .none kV10 dc10 pm10 an10 cd10 ct10), sl10⟩) (c10 : PySem.W.codeIn K cd10 "_law_number" = true) (k10 : PySem.W.keepIn K (.ref f10) = true)
    {od11 an11 : Option Addr} {sl11 : Array (Option Value)} {oc11 kV11 dc11 pm11 cd11 ct11 : Value}
    (a11 : PySem.W.nsIn K mainGlobals "_law_in_sixty" = some (some (.ref f11))) (l11 : K.lookup f11 = some ⟨oc11, od11, .func (PySem.W.fnOf "_law_in_sixty" "_law_in_sixty" (defArgs s__law_in_sixty) (defBody s__law_in_sixty) (defScope s__law_in_sixty) .none kV11 dc11 pm11 an11 cd11 ct11), sl11⟩) (c11 : PySem.W.codeIn K cd11 "_law_in_sixty" = true) (k11 : PySem.W.keepIn K (.ref f11) = true)
    {od12 an12 : Option Addr} {sl12 : Array (Option Value)} {oc12 kV12 dc12 pm12 cd12 ct12 : Value}
    (a12 : PySem.W.nsIn K mainGlobals "_law_are_rows" = some (some (.ref f12))) (l12 : K.lookup f12 = some ⟨oc12, od12, .func (PySem.W.fnOf "_law_are_rows" "_law_are_rows" (defArgs s__law_are_rows) (defBody s__law_are_rows) (defScope s__law_are_rows) .none kV12 dc12 pm12 an12 cd12 ct12), sl12⟩) (c12 : PySem.W.codeIn K cd12 "_law_are_rows" = true) (k12 : PySem.W.keepIn K (.ref f12) = true)
    {od13 an13 : Option Addr} {sl13 : Array (Option Value)} {oc13 kV13 dc13 pm13 cd13 ct13 : Value}
    (a13 : PySem.W.nsIn K mainGlobals "law" = some (some (.ref f13))) (l13 : K.lookup f13 = some ⟨oc13, od13, .func (PySem.W.fnOf "law" "law" (defArgs s_law) (defBody s_law) (defScope s_law) .none kV13 dc13 pm13 an13 cd13 ct13), sl13⟩) (c13 : PySem.W.codeIn K cd13 "law" = true) (k13 : PySem.W.keepIn K (.ref f13) = true)
    (z0 : PySem.W.nsIn K mainGlobals "all" = some none)
    (z1 : PySem.W.nsIn K mainGlobals "bool" = some none)
    (z2 : PySem.W.nsIn K mainGlobals "enumerate" = some none)
    (z3 : PySem.W.nsIn K mainGlobals "int" = some none)
    (z4 : PySem.W.nsIn K mainGlobals "isinstance" = some none)
    (z5 : PySem.W.nsIn K mainGlobals "len" = some none)
    (z6 : PySem.W.nsIn K mainGlobals "list" = some none)
    (z7 : PySem.W.nsIn K mainGlobals "range" = some none)
    (z8 : PySem.W.nsIn K mainGlobals "str" = some none)
    (v0 : PySem.W.nsIn K mainGlobals "ROW_SIGNS" = some (some (.int 60 t1)))
    (v1 : PySem.W.nsIn K mainGlobals "SIXTY_FOUR" = some (some (.str S64 t2))) :
    ∃ fd : FuncData, (∀ (s : Shared) (v : Value), BindsTo s fd ⟨[v], []⟩ [("_law_script", v)]) ∧ ∀ base : Heap, K.In base → base.Ns mainGlobals mg → FnOk l.prog w K mg base CX0 4 fa fd ["_law_script"] (spLaw K) := by
  have e := hfa.symm.trans (PySem.W.mg_of X G a13)
  cases e
  have F0 := fun_mk (st := s_is_number) l0 c0 k0
  have b0 := F0.binds (ps := ["thing"]) fun _ _ _ _ _ _ us hl => match us, hl with | [_], _ => rfl
  have F1 := fun_mk (st := s_is_bytes) l1 c1 k1
  have b1 := F1.binds (ps := ["thing"]) fun _ _ _ _ _ _ us hl => match us, hl with | [_], _ => rfl
  have F2 := fun_mk (st := s_four_of) l2 c2 k2
  have b2 := F2.binds (ps := ["row"]) fun _ _ _ _ _ _ us hl => match us, hl with | [_], _ => rfl
  have F3 := fun_mk (st := s_sixty_of) l3 c3 k3
  have b3 := F3.binds (ps := ["row"]) fun _ _ _ _ _ _ us hl => match us, hl with | [_], _ => rfl
  have F4 := fun_mk (st := s__law_cell) l4 c4 k4
  have b4 := F4.binds (ps := ["_law_script", "_law_k"]) fun _ _ _ _ _ _ us hl => match us, hl with | [_, _], _ => rfl
  have F5 := fun_mk (st := s__law_mixed) l5 c5 k5
  have b5 := F5.binds (ps := ["_law_cell_here", "_law_k"]) fun _ _ _ _ _ _ us hl => match us, hl with | [_, _], _ => rfl
  have F6 := fun_mk (st := s__law_next) l6 c6 k6
  have b6 := F6.binds (ps := ["_law_number_here", "_law_k"]) fun _ _ _ _ _ _ us hl => match us, hl with | [_, _], _ => rfl
  have F7 := fun_mk (st := s__law_bytes) l7 c7 k7
  have b7 := F7.binds (ps := ["_law_script"]) fun _ _ _ _ _ _ us hl => match us, hl with | [_], _ => rfl
  have F8 := fun_mk (st := s__law_sixty) l8 c8 k8
  have b8 := F8.binds (ps := []) fun _ _ _ _ _ _ us hl => match us, hl with | [], _ => rfl
  have F9 := fun_mk (st := s__law_bits) l9 c9 k9
  have b9 := F9.binds (ps := ["_law_number_here", "_law_many"]) fun _ _ _ _ _ _ us hl => match us, hl with | [_, _], _ => rfl
  have F10 := fun_mk (st := s__law_number) l10 c10 k10
  have b10 := F10.binds (ps := ["_law_bits_here"]) fun _ _ _ _ _ _ us hl => match us, hl with | [_], _ => rfl
  have F11 := fun_mk (st := s__law_in_sixty) l11 c11 k11
  have b11 := F11.binds (ps := ["_law_row"]) fun _ _ _ _ _ _ us hl => match us, hl with | [_], _ => rfl
  have F12 := fun_mk (st := s__law_are_rows) l12 c12 k12
  have b12 := F12.binds (ps := ["_law_found", "_law_due"]) fun _ _ _ _ _ _ us hl => match us, hl with | [_, _], _ => rfl
  have F13 := fun_mk (st := s_law) l13 c13 k13
  have T : Tx mg t1 t2 := ⟨PySem.W.mg_none_of X G z0, PySem.W.mg_none_of X G z1, PySem.W.mg_none_of X G z2, PySem.W.mg_none_of X G z3, PySem.W.mg_none_of X G z4, PySem.W.mg_none_of X G z5, PySem.W.mg_none_of X G z6, PySem.W.mg_none_of X G z7, PySem.W.mg_none_of X G z8, PySem.W.mg_of X G v0, PySem.W.mg_of X G v1⟩
  refine ⟨PySem.W.fnOf "law" "law" (defArgs s_law) (defBody s_law) (defScope s_law) .none kV13 dc13 pm13 an13 cd13 ct13, fun s v => .of_eq rfl, fun base _ _ => ?_⟩
  have D0 : Def l.prog w K mg base "is_number" 1 f0 _ ["thing"] sp_is_number := ⟨ok_is_number F0 T, PySem.W.mg_of X G a0, F0.kp, b0⟩
  have D1 : Def l.prog w K mg base "is_bytes" 2 f1 _ ["thing"] sp_is_bytes := ⟨ok_is_bytes F1 T D0, PySem.W.mg_of X G a1, F1.kp, b1⟩
  have D2 : Def l.prog w K mg base "four_of" 1 f2 _ ["row"] sp_four_of := ⟨ok_four_of F2 T, PySem.W.mg_of X G a2, F2.kp, b2⟩
  have D3 : Def l.prog w K mg base "sixty_of" 3 f3 _ ["row"] (sp_sixty_of ptext) := ⟨ok_sixty_of F3 T D1 D2, PySem.W.mg_of X G a3, F3.kp, b3⟩
  have D4 : Def l.prog w K mg base "_law_cell" 1 f4 _ ["_law_script", "_law_k"] (sp_cell K) := ⟨ok_cell F4 T, PySem.W.mg_of X G a4, F4.kp, b4⟩
  have D5 : Def l.prog w K mg base "_law_mixed" 1 f5 _ ["_law_cell_here", "_law_k"] sp_mixed := ⟨ok_mixed F5, PySem.W.mg_of X G a5, F5.kp, b5⟩
  have D6 : Def l.prog w K mg base "_law_next" 1 f6 _ ["_law_number_here", "_law_k"] sp_next := ⟨ok_next F6, PySem.W.mg_of X G a6, F6.kp, b6⟩
  have D7 : Def l.prog w K mg base "_law_bytes" 2 f7 _ ["_law_script"] (sp_bytes K) := ⟨ok_bytes F7 T D5 D6, PySem.W.mg_of X G a7, F7.kp, b7⟩
  have D8 : Def l.prog w K mg base "_law_sixty" 1 f8 _ [] sp_sixty := ⟨ok_sixty F8, PySem.W.mg_of X G a8, F8.kp, b8⟩
  have D9 : Def l.prog w K mg base "_law_bits" 1 f9 _ ["_law_number_here", "_law_many"] sp_bits := ⟨ok_bits F9 T, PySem.W.mg_of X G a9, F9.kp, b9⟩
  have D10 : Def l.prog w K mg base "_law_number" 1 f10 _ ["_law_bits_here"] (sp_number K) := ⟨ok_number F10, PySem.W.mg_of X G a10, F10.kp, b10⟩
  have D11 : Def l.prog w K mg base "_law_in_sixty" 2 f11 _ ["_law_row"] (sp_in_sixty K) := ⟨ok_in_sixty F11 T D9 D10 D8, PySem.W.mg_of X G a11, F11.kp, b11⟩
  have D12 : Def l.prog w K mg base "_law_are_rows" 1 f12 _ ["_law_found", "_law_due"] sp_are_rows := ⟨ok_are_rows F12 T, PySem.W.mg_of X G a12, F12.kp, b12⟩
  exact ok_law F13 T D7 D5 D4 D11 D3 D12
end K05
open PySem PySem.W PyProof.Rows
set_option maxHeartbeats 0 in
theorem PySem.Challenge.cw_letterhouse_k05_sixty_told_holds : PySem.Challenge.rw_letterhouse_k05_sixty_told.Holds := by
  w_on; o_law; k_head; (case hw => w_witness2)
  k_fill
  refine L2.walk_of (l := PySem.Challenge.rw_letterhouse_k05_sixty_told) (n := 63) (k := 4) (x := "_law_script") (CX := fun _ => L2.CX0) (sp := fun w => K05.spLaw _) rfl (by decide) rfl ⟨rfl, by decide, by decide⟩ (fun w h Y => PySem.W.kIn_of Y) ?F (fun _ _ a ns hl _ hS => ⟨a, ns, rfl, hS, hl, fun _ => rfl⟩) (fun _ _ _ _ _ h => h)
  case F =>
    intro w mg fa h KX G hmg
    refine' K05.all_mk KX G hmg ?a0 ?l0 ?c0 ?k0 ?a1 ?l1 ?c1 ?k1 ?a2 ?l2 ?c2 ?k2 ?a3 ?l3 ?c3 ?k3 ?a4 ?l4 ?c4 ?k4 ?a5 ?l5 ?c5 ?k5 ?a6 ?l6 ?c6 ?k6 ?a7 ?l7 ?c7 ?k7 ?a8 ?l8 ?c8 ?k8 ?a9 ?l9 ?c9 ?k9 ?a10 ?l10 ?c10 ?k10 ?a11 ?l11 ?c11 ?k11 ?a12 ?l12 ?c12 ?k12 ?a13 ?l13 ?c13 ?k13 ?z0 ?z1 ?z2 ?z3 ?z4 ?z5 ?z6 ?z7 ?z8 ?v0 ?v1
    (case a0 => k_is); (case l0 => k_is); (case c0 => k_is); (case k0 => k_is); (case a1 => k_is); (case l1 => k_is); (case c1 => k_is); (case k1 => k_is); (case a2 => k_is); (case l2 => k_is); (case c2 => k_is); (case k2 => k_is); (case a3 => k_is); (case l3 => k_is); (case c3 => k_is); (case k3 => k_is); (case a4 => k_is); (case l4 => k_is); (case c4 => k_is); (case k4 => k_is); (case a5 => k_is); (case l5 => k_is); (case c5 => k_is); (case k5 => k_is); (case a6 => k_is); (case l6 => k_is); (case c6 => k_is); (case k6 => k_is); (case a7 => k_is); (case l7 => k_is); (case c7 => k_is); (case k7 => k_is); (case a8 => k_is); (case l8 => k_is); (case c8 => k_is); (case k8 => k_is); (case a9 => k_is); (case l9 => k_is); (case c9 => k_is); (case k9 => k_is); (case a10 => k_is); (case l10 => k_is); (case c10 => k_is); (case k10 => k_is); (case a11 => k_is); (case l11 => k_is); (case c11 => k_is); (case k11 => k_is); (case a12 => k_is); (case l12 => k_is); (case c12 => k_is); (case k12 => k_is); (case a13 => k_is); (case l13 => k_is); (case c13 => k_is); (case k13 => k_is); (case z0 => k_is); (case z1 => k_is); (case z2 => k_is); (case z3 => k_is); (case z4 => k_is); (case z5 => k_is); (case z6 => k_is); (case z7 => k_is); (case z8 => k_is); (case v0 => k_is); (case v1 => k_is)

