import PyProof.Rows.All
import Wide.All
import OpenK.AllK
import Wide.FinOn
import HandS.ForMost
import HandS.Walk
import HandS.IsInst
import HandS.Style
import HandS.StrMore
import PySem.Challenge.RW_letterhouse_k02_names_and_values
set_option Elab.async false
set_option linter.all false
set_option maxRecDepth 100000
namespace LH
open PySem PySem.Spec PyProof.Rows L2
/-! ### heaps -/
theorem same_upd {H : Hp} {p : Addr} {o : HO} (h : H p = none) : Same H (upd H p o) := fun b x e => by
  rw [upd_ne (ne_of_none e h)]
  exact e
theorem seqT {K : PySem.W.Frag} {H H' : Hp} {a : Addr} {xs : List V} (e : Same H H') (h : SqT K H a xs) : SqT K H' a xs := by
  rcases h with (h | ⟨o, h⟩) | h
  · exact .inl (.inl (e _ _ h))
  · exact .inl (.inr ⟨o, e _ _ h⟩)
  · exact .inr h
/-- a list that is told new, in a heap that keeps all that stood -/
def New (H : Hp) (xs : List V) (Q : VK) : Prop := ∀ H' p, Same H H' → H p = none → H' p = some (.lst xs) → Q (.ref p) H'
/-- a value that is told in a heap that keeps all that stood -/
def Tell (H : Hp) (v : V) (Q : VK) : Prop := ∀ H', Same H H' → Q v H'
/-! ### a comprehension over anything that yields xs 0 .. xs (n - 1), its element f i -/
theorem lc_pure {J : It} {n : Nat} {G : Hp → Prop} {te : TE} {c : Nat} {σ : L2.St} {H1 : Hp} {D : Addr} {Qd : Hp → Prop} (xs f : Nat → V) (w : Walk J n G (YFn xs)) (hG : ∀ H, Same H1 H → G H) (hD : H1 D = none) (hn : n ≤ sizeLine)
    (he : ∀ i H Q, i < n → Same H1 H → Tell H (f i) Q → te ((σ.set c none).set c (some (xs i))) H Q)
    (hd : ∀ H, Same H1 H → H D = some (.lst ((List.range n).map f)) → Qd H) :
    ∃ W : Nat → Nat → Hp → Prop, (∃ m, W 0 m (upd H1 D (.lst []))) ∧ ∀ i m H, W i m H →
      (J.stop i H ∧ Qd H) ∨ (J.go i H ∧ ∃ Nx : Hp → Prop, (∀ H', Nx H' → ∃ m', m' < m ∧ W (i + 1) m' H') ∧ ∀ x H', J.yld i H x H' → gName c x (wipe σ [c]) H' fun σ2 H2 => wipe σ2 [c] = wipe σ [c] ∧ tYes σ2 H2 fun b H3 =>
        if b = true then te σ2 H3 fun y H4 => ∃ acc, H4 D = some (.lst acc) ∧ acc.length < sizeLine ∧ Nx (upd H4 D (.lst (acc ++ [y]))) else Nx H3) := by
  refine lc_it w (fun i H => Same H1 H ∧ H D = some (.lst ((List.range i).map f))) ⟨same_upd hD, upd_same⟩ (fun i H _ h => hG H h.1) (fun i x H H' hi hP hy => ?_) (fun H h => hd H h.1 h.2)
  obtain ⟨sm, eD⟩ := hP
  obtain ⟨rfl, rfl⟩ := hy
  refine ⟨?_, ?_⟩
  rotate_left
  · show (if true = true then te ((σ.set c none).set c (some (xs i))) H' fun y H4 => ∃ acc, H4 D = some (.lst acc) ∧ acc.length < sizeLine ∧ Same H1 (upd H4 D (.lst (acc ++ [y]))) ∧ upd H4 D (.lst (acc ++ [y])) D = some (.lst ((List.range (i + 1)).map f)) else (Same H1 H' ∧ H' D = some (.lst ((List.range (i + 1)).map f))))
    rw [if_pos rfl]
    refine he i H' _ hi sm fun H2 s2 => ⟨_, s2 _ _ eD, ?_, ?_, ?_⟩
    · rw [List.length_map, List.length_range]
      omega
    · intro b o hb
      rw [upd_ne (ne_of_none hb hD)]
      exact s2 _ _ (sm _ _ hb)
    · rw [upd_same, List.range_succ, List.map_append]
      rfl
  · show (((σ.set c none).set c (some (xs i))).set c none) = σ.set c none
    rw [List.set_set, List.set_set]
/-! ### a def as its callers see it -/
structure Def (P : Program) (w : World) (K : PySem.W.Frag) (mg : Str → Option Value) (base : Heap) (x : Str) (k : Nat) (f : Addr) (fd : FuncData) (ps : List Str) (sp : Sp) : Prop where
  ok : FnOk P w K mg base CX0 k f fd ps sp
  mg : mg x = some (.ref f)
  kp : PySem.W.keepIn K (.ref f) = true
  bd : Binds K fd ps []
section
variable {X : Cx} {x : Str} {k j : Nat} {f : Addr} {fd : FuncData} {ps : List Str} {sp : Sp} {e : Expr} {es : List Expr} {t : TA} {p pos : Pos}
theorem pe_def (D : Def X.prog X.w X.K X.mg X.base x k f fd ps sp) (hr : Room k X.A) (ha : PA X (e :: es) t) (hg : Gl X x := by rfl) (hdb : (x == ("__debug__" : Str)) = false := by decide)
    (he : starEach (e :: es) X.env = (false, eval e X.env) :: starEach es X.env := by rfl) (hpl : (backTo pos (starEach es X.env)).any (·.1) = false := by rfl) : PE X (.Call (.Name x p) (e :: es) [] pos) (tCall sp [] E0 t) :=
  pe_call D.ok hr hg D.mg D.kp D.bd .nil pass0 ha hdb he hpl
theorem pe_def0 (D : Def X.prog X.w X.K X.mg X.base x k f fd ps sp) (hr : Room k X.A) (hg : Gl X x := by rfl) (hdb : (x == ("__debug__" : Str)) = false := by decide) : PE X (.Call (.Name x p) [] [] pos) (tCall sp [] E0 tNil) :=
  pe_call0 D.ok hr hg D.mg D.kp D.bd .nil pass0 hdb
end
/-! ### a text times a number -/
section
variable {X : Cx}
def repS (x : Str) (n : Int) : Str := ⟨(List.replicate n.toNat x.cps.toList).flatten.toArray⟩
theorem foldl_app (l : List (Array Nat)) : ∀ a : Array Nat, (l.foldl (· ++ ·) a).toList = a.toList ++ (l.map (·.toList)).flatten := by
  induction l with
  | nil => intro a; simp
  | cons x r ih => intro a; simp [ih]
theorem mul_rep (x : Str) (n : Int) : Txt.mul x n = repS x n := by
  unfold Txt.mul repS
  by_cases h : n < 1
  · rw [if_pos h, show n.toNat = 0 by omega]
    rfl
  · rw [if_neg h]
    by_cases h2 : (n == 1 || x.length == 0) = true
    · rw [if_pos h2]
      refine TL.ext_tl ?_
      show x.cps.toList = (List.replicate n.toNat x.cps.toList).flatten
      rcases (Bool.or_eq_true _ _).mp h2 with e | e
      · have : n = 1 := eq_of_beq e
        subst this
        simp
      · have : x.cps.toList = [] := by
          have e' : x.length = 0 := eq_of_beq e
          have e3 : x.cps.toList.length = 0 := by simpa [Str.length] using e'
          exact List.length_eq_zero_iff.mp e3
        rw [this]
        simp
    · rw [if_neg h2]
      refine TL.ext_tl ?_
      show ((List.replicate n.toNat x.cps).foldl (· ++ ·) #[]).toList = (List.replicate n.toNat x.cps.toList).flatten
      rw [foldl_app]
      simp
theorem op_mul_str : OpR X (binaryOp .Mult) (fun x y H Q => ∃ z n, x = .str z ∧ y = .int n ∧ -(2 ^ 63) ≤ n ∧ n ≤ 4096 ∧ z.length ≤ 4096 ∧ Q (.str (repS z n)) H) := by
  intro pins s σ H x y v u Q I rx ry h
  obtain ⟨z, n, rfl, rfl, h0, h1, h2, q⟩ := h
  obtain ⟨t, rfl⟩ := rx
  obtain ⟨t', rfl⟩ := ry
  refine SB.mul (mulOk_of 4096 4096 h2 (by exact_mod_cast h1) h0 (by decide) (by decide)) fun t2 k => ?_
  rw [mul_rep]
  exact ⟨.str (repS z n), H, I.tok _, ⟨_, rfl⟩, q⟩
end
/-! ### chunks -/
def chunks {α : Type} (k : Nat) (t : List α) : List (List α) := (List.range ((t.length + (k - 1)) / k)).map fun i => (t.drop (i * k)).take k
theorem chunks_nil {α : Type} {k : Nat} (hk : 0 < k) : chunks k ([] : List α) = [] := by
  unfold chunks
  rw [show (([] : List α).length + (k - 1)) / k = 0 from Nat.div_eq_of_lt (by simp; omega)]
  rfl
theorem chunks_cons {α : Type} {k : Nat} (hk : 0 < k) {t : List α} (ht : t ≠ []) : chunks k t = t.take k :: chunks k (t.drop k) := by
  unfold chunks
  have hl : 0 < t.length := List.length_pos_iff.mpr ht
  have e : (t.length + (k - 1)) / k = ((t.drop k).length + (k - 1)) / k + 1 := by
    rw [List.length_drop]
    by_cases h : t.length ≤ k
    · rw [show t.length - k = 0 by omega, show (0 + (k - 1)) / k = 0 from Nat.div_eq_of_lt (by omega)]
      exact Nat.div_eq_of_lt_le (by omega) (by omega)
    · rw [show t.length + (k - 1) = (t.length - k + (k - 1)) + k by omega, Nat.add_div_right _ hk]
  rw [e, List.range_succ_eq_map, List.map_cons, List.map_map]
  congr 1
  · simp
  · refine List.map_congr_left fun i _ => ?_
    show (t.drop ((i + 1) * k)).take k = ((t.drop k).drop (i * k)).take k
    rw [List.drop_drop, Nat.succ_mul, Nat.add_comm]
/-! ### slices and ranges -/
theorem cutS_at (z : Str) (a b : Nat) : cutS z (some (a : Int)) (some (b : Int)) = ⟨((TL.tl z).drop a |>.take (b - a)).toArray⟩ := by
  unfold cutS
  rw [HT.sIx_nat, HT.sIx_nat]
  refine TL.ext_tl ?_
  show ((TL.tl z).drop (min a z.length)).take (min b z.length - min a z.length) = ((TL.tl z).drop a).take (b - a)
  have hz : z.length = (TL.tl z).length := TL.len_tl z
  rw [hz]
  generalize TL.tl z = l
  by_cases h : a ≤ l.length
  · rw [Nat.min_eq_left h]
    by_cases h2 : b ≤ l.length
    · rw [Nat.min_eq_left h2]
    · rw [Nat.min_eq_right (by omega), List.take_of_length_le (by rw [List.length_drop]; omega), List.take_of_length_le (by rw [List.length_drop]; omega)]
  · have h' : l.length ≤ a := by omega
    rw [Nat.min_eq_right h', List.drop_of_length_le (Nat.le_refl _), List.drop_of_length_le h']
    simp
theorem cutV_at (z : List V) (a b : Nat) : cutV z (some (a : Int)) (some (b : Int)) = (z.drop a).take (b - a) := by
  unfold cutV
  rw [HT.sIx_nat, HT.sIx_nat]
  by_cases h : a ≤ z.length
  · rw [Nat.min_eq_left h]
    by_cases h2 : b ≤ z.length
    · rw [Nat.min_eq_left h2]
    · rw [Nat.min_eq_right (by omega), List.take_of_length_le (by rw [List.length_drop]; omega), List.take_of_length_le (by rw [List.length_drop]; omega)]
  · have h' : z.length ≤ a := by omega
    rw [Nat.min_eq_right h', List.drop_of_length_le (Nat.le_refl _), List.drop_of_length_le h']
    simp
theorem cutV_to (z : List V) (b : Nat) : cutV z none (some (b : Int)) = z.take b := by
  unfold cutV
  rw [HT.sIx_nat, HT.sIx_none]
  by_cases h2 : b ≤ z.length
  · rw [Nat.min_eq_left h2]; simp
  · rw [Nat.min_eq_right (by omega), List.take_of_length_le (by simp), List.take_of_length_le (by omega)]; simp
theorem cutS_to (z : Str) (b : Nat) : cutS z none (some (b : Int)) = ⟨((TL.tl z).take b).toArray⟩ := by
  have := cutS_at z 0 b
  have e : cutS z none (some (b : Int)) = cutS z (some ((0 : Nat) : Int)) (some (b : Int)) := by
    unfold cutS
    rw [HT.sIx_none, HT.sIx_nat, HT.sIx_nat, Nat.zero_min]
  rw [e, this]
  simp
theorem cutS_from (z : Str) (a : Nat) : cutS z (some (a : Int)) none = ⟨((TL.tl z).drop a).toArray⟩ := by
  have e : cutS z (some (a : Int)) none = cutS z (some (a : Int)) (some ((z.length : Nat) : Int)) := by
    unfold cutS
    rw [HT.sIx_none, HT.sIx_nat, HT.sIx_nat]
    simp
  rw [e, cutS_at, TL.len_tl, List.take_of_length_le (by simp)]
theorem rgC (n k : Nat) (hk : 0 < k) (hk2 : k < 1000) (hn : n < 2 ^ 40) : RgC 0 (n : Int) (k : Int) ((n + (k - 1)) / k) := by
  refine ⟨by omega, by omega, ?_, ?_⟩
  · have e := rangeSize_pos (len := (n : Int)) (c := (k : Int)) (by omega) (by omega)
    have q : ((n : Int) + (k : Int) - 1) / (k : Int) ≤ (n : Int) + (k : Int) - 1 := Int.ediv_le_self _ (by omega)
    have q0 : 0 ≤ ((n : Int) + (k : Int) - 1) / (k : Int) := Int.ediv_nonneg (by omega) (by omega)
    unfold Builtin.Range.small
    rw [e]
    simp only [Builtin.Range.rangeFitsLong, Bool.and_eq_true, Bool.or_eq_true, decide_eq_true_eq, beq_iff_eq, show ((k : Int) > 0) by omega, if_true]
    have p1 : (0:Int) < 2 ^ 63 := by decide
    omega
  · rw [rangeSize_pos (by omega) (by omega)]
    rw [show (n : Int) + (k : Int) - 1 = ((n + (k - 1) : Nat) : Int) by omega]
    exact (Int.natCast_ediv _ _).symm
end LH
namespace LH
open PySem PySem.Spec PyProof.Rows L2
theorem walk_listF {K : PySem.W.Frag} {a : Addr} {xs : List V} : Walk (Itl K a) xs.length (fun H => SqL K H a xs) (YFn fun i => xs.getD i .non) :=
  walk_list.mono (fun _ h => h) fun i H x H' hi _ y => ⟨y.1, by show x = xs.getD i .non; rw [List.getD_eq_getElem?_getD, y.2]; rfl⟩
theorem walk_tupF {K : PySem.W.Frag} {a : Addr} {xs : List V} : Walk (Itt K a) xs.length (fun H => SqT K H a xs) (YFn fun i => xs.getD i .non) :=
  walk_tup.mono (fun _ h => h) fun i H x H' hi _ y => ⟨y.1, by show x = xs.getD i .non; rw [List.getD_eq_getElem?_getD, y.2]; rfl⟩
theorem getD_map_int (bs : List Int) (i : Nat) (h : i < bs.length) : (bs.map V.int).getD i .non = .int (bs.getD i 0) := by
  rw [List.getD_eq_getElem?_getD, List.getElem?_map, List.getElem?_eq_getElem h, List.getD_eq_getElem?_getD, List.getElem?_eq_getElem h]
  rfl
theorem range_getD {α : Type} (xs : List α) (d : α) : (List.range xs.length).map (fun i => xs.getD i d) = xs := by
  apply List.ext_getElem?
  intro i
  rw [List.getElem?_map]
  by_cases h : i < xs.length
  · rw [List.getElem?_range h]
    show some (xs.getD i d) = _
    rw [List.getD_eq_getElem?_getD, List.getElem?_eq_getElem h]
    rfl
  · rw [List.getElem?_eq_none (by rw [List.length_range]; omega), List.getElem?_eq_none (by omega)]
    rfl
section
variable {X : Cx}
theorem ixL (K : PySem.W.Frag) (h : X.K = K := by rfl) : IxR X (rIxL K) := h ▸ ix_list
theorem ixT (K : PySem.W.Frag) (h : X.K = K := by rfl) : IxR X (rIxT K) := h ▸ ix_tup
theorem slL (K : PySem.W.Frag) (h : X.K = K := by rfl) : SlR X (rSlL K) := h ▸ sl_list
theorem slT (K : PySem.W.Frag) (h : X.K = K := by rfl) : SlR X (rSlT K) := h ▸ sl_tup
theorem cIsi (K : PySem.W.Frag) (h : X.K = K := by rfl) : CallR X (.builtin "isinstance") (rIsi K) := h ▸ call_isi
def rLenS (K : PySem.W.Frag) : List V → Hp → VK → Prop := fun xs H Q => ∃ p ys, xs = [.ref p] ∧ (SqL K H p ys ∨ SqT K H p ys) ∧ Q (.int ys.length) H
theorem cLen (K : PySem.W.Frag) (h : X.K = K := by rfl) : CallR X (.builtin "len") (rLenS K) := h ▸ call_len_seq
theorem cAll (K : PySem.W.Frag) (h : X.K = K := by rfl) (hc : X.calm = true := by rfl) : CallR X (.builtin "all") (rAll K) := h ▸ cr_all hc
theorem cAny (K : PySem.W.Frag) (h : X.K = K := by rfl) (hc : X.calm = true := by rfl) : CallR X (.builtin "any") (rAny K) := h ▸ cr_any hc
theorem oIn (K : PySem.W.Frag) (h : X.K = K := by rfl) : OpR X (compareOp .In) (rIn K false) := h ▸ op_in_seq
theorem oNotIn (K : PySem.W.Frag) (h : X.K = K := by rfl) : OpR X (compareOp .NotIn) (rIn K true) := h ▸ op_notIn_seq
theorem oEqD (K : PySem.W.Frag) (hu : X.A.units + 64 < cLine) (h : X.K = K := by rfl) : OpR X (compareOp .Eq) (rEqD K) := h ▸ op_eqD hu
theorem oNeD (K : PySem.W.Frag) (hu : X.A.units + 64 < cLine) (h : X.K = K := by rfl) : OpR X (compareOp .NotEq) (rNeD K) := h ▸ op_neD hu
end
end LH
namespace LH
open PySem PySem.Spec PyProof.Rows L2
/-! ### data: flat lists compared -/
def OkS (x : Str) : Prop := ∀ c ∈ TL.tl x, c < 1114112
theorem strOk_of (x : Str) (h : OkS x) : PyData.strOk x = true := by
  unfold PyData.strOk
  rw [Array.all_eq_true']
  intro c hc
  exact decide_eq_true (h c (Array.mem_toList_iff.mpr hc))
theorem dpAll_ints {K : PySem.W.Frag} {H : Hp} : ∀ bs : List Int, DpAll K H (bs.map V.int) (bs.map PyData.int)
  | [] => .nil
  | b :: r => .cons (.int b) (dpAll_ints r)
theorem dpAll_strs {K : PySem.W.Frag} {H : Hp} : ∀ bs : List Str, DpAll K H (bs.map V.str) (bs.map PyData.str)
  | [] => .nil
  | b :: r => .cons (.str b) (dpAll_strs r)
theorem dp_ints {K : PySem.W.Frag} {H : Hp} {a : Addr} {bs : List Int} (h : SqL K H a (bs.map V.int)) : Dp K H (.ref a) (.list (bs.map PyData.int)) := .lst h (dpAll_ints bs)
theorem dp_strs {K : PySem.W.Frag} {H : Hp} {a : Addr} {bs : List Str} (h : SqL K H a (bs.map V.str)) : Dp K H (.ref a) (.list (bs.map PyData.str)) := .lst h (dpAll_strs bs)
theorem lay_strs : ∀ bs : List Str, (∀ x ∈ bs, OkS x) → PyData.canLayAll0 (bs.map PyData.str) = true
  | [], _ => by simp [PyData.canLayAll0]
  | b :: r, h => by simp [PyData.canLayAll0, PyData.canLay0, strOk_of b (h b (by simp)), lay_strs r fun x hx => h x (by simp [hx])]
theorem depth_strs : ∀ bs : List Str, PyData.depthAll (bs.map PyData.str) = 0
  | [] => rfl
  | _ :: r => by simp [PyData.depthAll, PyData.depth, depth_strs r]
theorem shaped_strs (bs : List Str) (h : ∀ x ∈ bs, OkS x) : SeqAt.shaped (.list (bs.map PyData.str)) = true := by
  simp [SeqAt.shaped, PyData.canLay0, PyData.depth, lay_strs bs h, depth_strs]
theorem shaped_intsL (bs : List Int) : SeqAt.shaped (.list (bs.map PyData.int)) = true := PySem.W.ke_shaped_ints bs
theorem eqv_ints : ∀ bs cs : List Int, PyData.eqvAll (bs.map PyData.int) (cs.map PyData.int) = decide (bs = cs)
  | [], [] => by simp [PyData.eqvAll]
  | [], _ :: _ => by simp [PyData.eqvAll]
  | _ :: _, [] => by simp [PyData.eqvAll]
  | b :: r, c :: q => by
    rw [List.map_cons, List.map_cons, PyData.eqvAll, PyData.eqv, eqv_ints r q]
    by_cases h : b = c <;> simp [h]
theorem eqv_strs : ∀ bs cs : List Str, PyData.eqvAll (bs.map PyData.str) (cs.map PyData.str) = decide (bs = cs)
  | [], [] => by simp [PyData.eqvAll]
  | [], _ :: _ => by simp [PyData.eqvAll]
  | _ :: _, [] => by simp [PyData.eqvAll]
  | b :: r, c :: q => by
    rw [List.map_cons, List.map_cons, PyData.eqvAll, PyData.eqv, eqv_strs r q]
    by_cases h : b = c <;> simp [h]
theorem eqv_intsL (bs cs : List Int) : PyData.eqv (.list (bs.map PyData.int)) (.list (cs.map PyData.int)) = decide (bs = cs) := by rw [PyData.eqv, eqv_ints]
theorem eqv_strsL (bs cs : List Str) : PyData.eqv (.list (bs.map PyData.str)) (.list (cs.map PyData.str)) = decide (bs = cs) := by rw [PyData.eqv, eqv_strs]
theorem map_true {α : Type} (l : List α) : (l.map fun _ => true).all id = true := by
  induction l with
  | nil => rfl
  | cons x r ih => simpa using ih
end LH

namespace LH
open PySem PySem.Spec PyProof.Rows L2
/-! ### a comprehension with a test -/
theorem lc_filt {J : It} {n : Nat} {G : Hp → Prop} {tt : TT} {te : TE} {c : Nat} {σ : L2.St} {H1 : Hp} {D : Addr} {Qd : Hp → Prop} (xs f : Nat → V) (b : Nat → Bool) (w : Walk J n G (YFn xs)) (hG : ∀ H, Same H1 H → G H) (hD : H1 D = none) (hn : n ≤ sizeLine)
    (ht : ∀ (i : Nat) (H : Hp) (Q : Bool → Hp → Prop), i < n → Same H1 H → (∀ H', Same H H' → Q (b i) H') → tt ((σ.set c none).set c (some (xs i))) H Q)
    (he : ∀ i H Q, i < n → Same H1 H → b i = true → Tell H (f i) Q → te ((σ.set c none).set c (some (xs i))) H Q)
    (hd : ∀ H, Same H1 H → H D = some (.lst (((List.range n).filter b).map f)) → Qd H) :
    ∃ W : Nat → Nat → Hp → Prop, (∃ m, W 0 m (upd H1 D (.lst []))) ∧ ∀ i m H, W i m H →
      (J.stop i H ∧ Qd H) ∨ (J.go i H ∧ ∃ Nx : Hp → Prop, (∀ H', Nx H' → ∃ m', m' < m ∧ W (i + 1) m' H') ∧ ∀ x H', J.yld i H x H' → gName c x (wipe σ [c]) H' fun σ2 H2 => wipe σ2 [c] = wipe σ [c] ∧ tt σ2 H2 fun b H3 =>
        if b = true then te σ2 H3 fun y H4 => ∃ acc, H4 D = some (.lst acc) ∧ acc.length < sizeLine ∧ Nx (upd H4 D (.lst (acc ++ [y]))) else Nx H3) := by
  refine lc_it w (fun i H => Same H1 H ∧ H D = some (.lst (((List.range i).filter b).map f))) ⟨same_upd hD, upd_same⟩ (fun i H _ h => hG H h.1) (fun i x H H' hi hP hy => ?_) (fun H h => hd H h.1 h.2)
  obtain ⟨sm, eD⟩ := hP
  obtain ⟨rfl, rfl⟩ := hy
  refine ⟨?_, ?_⟩
  rotate_left
  · refine ht i H' _ hi sm fun H2 s2 => ?_
    cases hb : b i with
    | true =>
      rw [if_pos rfl]
      refine he i H2 _ hi (sm.trans s2) hb fun H3 s3 => ⟨_, s3 _ _ (s2 _ _ eD), ?_, ?_, ?_⟩
      · rw [List.length_map]
        have := List.length_filter_le b (List.range i)
        rw [List.length_range] at this
        omega
      · intro b' o hb'
        rw [upd_ne (ne_of_none hb' hD)]
        exact s3 _ _ (s2 _ _ (sm _ _ hb'))
      · rw [upd_same, List.range_succ, List.filter_append, List.map_append]
        simp [hb]
    | false =>
      rw [if_neg Bool.false_ne_true]
      refine ⟨sm.trans s2, ?_⟩
      rw [s2 _ _ eD, List.range_succ, List.filter_append, List.map_append]
      simp [hb]
  · show (((σ.set c none).set c (some (xs i))).set c none) = σ.set c none
    rw [List.set_set, List.set_set]
/-! ### the signs of a text -/
theorem walk_strF {z : Str} : Walk (Its z) (TL.tl z).length (fun _ => True) (YFn fun i => .str ⟨#[(TL.tl z).getD i 0]⟩) := by
  have e : (TL.tl z).length = z.cps.size := Array.length_toList
  rw [e]
  refine walk_str.mono (fun _ h => h) fun i H x H' hi _ y => ⟨y.1, ?_⟩
  obtain ⟨_, c, hc, rfl⟩ := y
  show V.str ⟨#[c]⟩ = .str ⟨#[(TL.tl z).getD i 0]⟩
  have : (TL.tl z)[i]? = some c := by rw [← hc]; exact Array.getElem?_toList
  rw [List.getD_eq_getElem?_getD, this]
  rfl
theorem lall_range {α : Type} (l : List α) (d : α) (p : α → Bool) : ((List.range l.length).map fun i => p (l.getD i d)).all id = l.all p := by
  have e : ((List.range l.length).map fun i => p (l.getD i d)) = ((List.range l.length).map fun i => l.getD i d).map p := by rw [List.map_map]; rfl
  rw [e, range_getD, List.all_map]
  rfl
/-! ### one sign's split -/
def splitL (s : Nat) : List Nat → List (List Nat)
  | [] => [[]]
  | c :: r => if c = s then [] :: splitL s r else (c :: (splitL s r).headD []) :: (splitL s r).tail
theorem splitL_ne (s : Nat) (l : List Nat) : splitL s l ≠ [] := by
  cases l with
  | nil => simp [splitL]
  | cons c r => unfold splitL; split <;> simp
theorem splitL_eta (s : Nat) (l : List Nat) : splitL s l = (splitL s l).headD [] :: (splitL s l).tail := by
  cases h : splitL s l with
  | nil => exact absurd h (splitL_ne s l)
  | cons x r => rfl
theorem spl_one (s : Nat) : ∀ (l acc : List Nat), TL.spl [s] 0 acc l = (acc ++ (splitL s l).headD []) :: (splitL s l).tail
  | [], acc => by rw [TL.spl_nil]; simp [splitL]
  | c :: r, acc => by
    by_cases h : c = s
    · subst h
      rw [TL.spl_hit (show TL.pre [c] (c :: r) = true by simp [TL.pre])]
      show acc :: TL.spl [c] 0 [] r = _
      rw [spl_one c r []]
      have e : splitL c (c :: r) = [] :: splitL c r := by
        conv => lhs; unfold splitL
        rw [if_pos rfl]
      rw [e]
      simp only [List.headD_cons, List.tail_cons, List.append_nil, List.nil_append]
      rw [← splitL_eta]
    · rw [TL.spl_miss (show TL.pre [s] (c :: r) = false by simp [TL.pre]; exact h), spl_one s r]
      conv => rhs; unfold splitL
      rw [if_neg h]
      simp
theorem split_tl {x y : Str} {s : Nat} (hy : TL.tl y = [s]) (hs : s < 256) : (Txt.split x y).map TL.tl = splitL s (TL.tl x) := by
  rw [TL.split_spl x y (by rw [hy]; simp) (TL.kind_ok ?_), hy, spl_one, List.nil_append, ← splitL_eta]
  rw [Array.all_eq_true']
  intro c hc
  have : c ∈ TL.tl y := Array.mem_toList_iff.mpr hc
  rw [hy] at this
  exact decide_eq_true (by rw [List.mem_singleton.mp this]; exact hs)
theorem splitL_len (s : Nat) : ∀ l : List Nat, (splitL s l).length ≤ l.length + 1
  | [] => Nat.le_refl _
  | c :: r => by
    have ih := splitL_len s r
    unfold splitL
    split
    · simp only [List.length_cons]; omega
    · have := splitL_eta s r
      have h2 := congrArg List.length this
      simp only [List.length_cons] at h2 ⊢
      omega
theorem splitL_mem (s : Nat) : ∀ (l : List Nat) (w : List Nat), w ∈ splitL s l → ∀ c ∈ w, c ∈ l
  | [], w, h, c, hc => by
    simp [splitL] at h
    rw [h] at hc
    cases hc
  | d :: r, w, h, c, hc => by
    unfold splitL at h
    have e := splitL_eta s r
    split at h
    · rcases List.mem_cons.mp h with rfl | h
      · cases hc
      · exact List.mem_cons_of_mem _ (splitL_mem s r w h c hc)
    · rcases List.mem_cons.mp h with rfl | h
      · rcases List.mem_cons.mp hc with rfl | hc
        · exact List.mem_cons_self
        · exact List.mem_cons_of_mem _ (splitL_mem s r _ (by rw [e]; exact List.mem_cons_self) c hc)
      · exact List.mem_cons_of_mem _ (splitL_mem s r w (by rw [e]; exact List.mem_cons_of_mem _ h) c hc)
theorem splitL_le (s : Nat) : ∀ (l : List Nat) (w : List Nat), w ∈ splitL s l → w.length ≤ l.length
  | [], w, h => by
    simp [splitL] at h
    rw [h]
    exact Nat.le_refl _
  | d :: r, w, h => by
    unfold splitL at h
    have e := splitL_eta s r
    have mem1 : (splitL s r).headD [] ∈ splitL s r := by rw [e]; exact List.mem_cons_self
    have mem2 : ∀ x ∈ (splitL s r).tail, x ∈ splitL s r := fun x hx => by rw [e]; exact List.mem_cons_of_mem _ hx
    split at h
    · rcases List.mem_cons.mp h with rfl | h
      · exact Nat.zero_le _
      · exact Nat.le_succ_of_le (splitL_le s r w h)
    · rcases List.mem_cons.mp h with rfl | h
      · exact Nat.succ_le_succ (splitL_le s r _ mem1)
      · exact Nat.le_succ_of_le (splitL_le s r w (mem2 w h))
theorem mk_len (l : List Nat) : (⟨l.toArray⟩ : Str).length = l.length := by rw [TL.len_tl]
theorem str_eq_iff (x y : Str) : x = y ↔ TL.tl x = TL.tl y := ⟨fun h => by rw [h], TL.ext_tl⟩
end LH
namespace LH
open PySem PySem.Spec PyProof.Rows L2
/-! ### an empty part in a split: a sign at an end, or two side by side -/
def Gap (s : Nat) (l : List Nat) : Prop := ∃ i, l[i]? = some s ∧ (l[i + 1]? = none ∨ l[i + 1]? = some s)
theorem gap_nil (s : Nat) : ¬ Gap s [] := fun ⟨i, h, _⟩ => by simp at h
theorem gap_cons (s c : Nat) (r : List Nat) : Gap s (c :: r) ↔ (c = s ∧ (r = [] ∨ r[0]? = some s)) ∨ Gap s r := by
  constructor
  · rintro ⟨i, h1, h2⟩
    cases i with
    | zero =>
      left
      have : c = s := by simpa using h1
      refine ⟨this, ?_⟩
      rcases h2 with h2 | h2
      · left
        have : r[0]? = none := by simpa using h2
        cases r with
        | nil => rfl
        | cons x r => simp at this
      · right; simpa using h2
    | succ i => exact .inr ⟨i, by simpa using h1, by simpa using h2⟩
  · rintro (⟨rfl, h⟩ | ⟨i, h1, h2⟩)
    · refine ⟨0, by simp, ?_⟩
      rcases h with rfl | h
      · left; rfl
      · right; simpa using h
    · exact ⟨i + 1, by simpa using h1, by simpa using h2⟩
theorem split_head (s : Nat) (l : List Nat) : (splitL s l).headD [] = [] ↔ l = [] ∨ l[0]? = some s := by
  cases l with
  | nil => simp [splitL]
  | cons c r =>
    unfold splitL
    by_cases h : c = s
    · rw [if_pos h]; simp [h]
    · rw [if_neg h]; simp [h]
theorem split_tail (s : Nat) : ∀ l : List Nat, [] ∈ (splitL s l).tail ↔ Gap s l
  | [] => by simp [splitL, gap_nil]
  | c :: r => by
    rw [gap_cons, ← split_tail s r]
    by_cases h : c = s
    · have e : splitL s (c :: r) = [] :: splitL s r := by
        conv => lhs; unfold splitL
        rw [if_pos h]
      rw [e, List.tail_cons, splitL_eta s r, List.mem_cons, eq_comm, split_head]
      simp [h]
    · have e : splitL s (c :: r) = (c :: (splitL s r).headD []) :: (splitL s r).tail := by
        conv => lhs; unfold splitL
        rw [if_neg h]
      rw [e, List.tail_cons]
      simp [h]
theorem split_gap (s : Nat) (l : List Nat) : [] ∈ splitL s l ↔ l = [] ∨ l[0]? = some s ∨ Gap s l := by
  rw [splitL_eta s l, List.mem_cons, eq_comm, split_head, split_tail, or_assoc]
theorem joinL_nil (l : List (List Nat)) : TL.joinL [] l = l.flatten := by
  induction l with
  | nil => rfl
  | cons x r ih =>
    cases r with
    | nil => simp [TL.joinL]
    | cons y r => rw [TL.joinL, ih]; simp
theorem tl_empty : TL.tl (Str.ofString "") = [] := by decide +kernel
theorem tl_join0 (ys : List Str) : TL.tl (Txt.join (Str.ofString "") ys) = (ys.map TL.tl).flatten := by
  rw [TL.join_eq, TL.tl_join, tl_empty, joinL_nil]
theorem flatten_le {α : Type} {k : Nat} : ∀ l : List (List α), (∀ x ∈ l, x.length ≤ k) → l.flatten.length ≤ k * l.length
  | [], _ => Nat.le_refl _
  | x :: r, h => by
    have ih := flatten_le r fun y hy => h y (List.mem_cons_of_mem _ hy)
    have hx := h x (by simp)
    rw [List.flatten_cons, List.length_append, List.length_cons, Nat.mul_succ]
    omega
theorem chunks_len {α : Type} (k : Nat) (t : List α) : (chunks k t).length = (t.length + (k - 1)) / k := by
  unfold chunks
  rw [List.length_map, List.length_range]
theorem sum_len (ys : List Str) : (ys.map (·.length)).sum = ((ys.map TL.tl).flatten).length := by
  rw [List.length_flatten, List.map_map]
  rfl
/-! ### texts and their signs -/
theorem okS_app {x y : Str} (hx : OkS x) (hy : OkS y) : OkS (x ++ y) := fun c hc => by
  rw [TL.tl_append] at hc
  rcases List.mem_append.mp hc with h | h
  · exact hx c h
  · exact hy c h
theorem len_app (x y : Str) : (x ++ y).length = x.length + y.length := by
  rw [TL.len_tl, TL.tl_append, List.length_append, ← TL.len_tl, ← TL.len_tl]
theorem okS_cut {x : Str} (hx : OkS x) (lo hi : Option Int) : OkS (cutS x lo hi) := fun c hc => hx c (List.mem_of_mem_drop (List.mem_of_mem_take hc))
theorem okS_one {c : Nat} (h : c < 1114112) : OkS ⟨#[c]⟩ := fun d hd => by
  have : d = c := by simpa [TL.tl] using hd
  rw [this]; exact h
theorem joinL_mem (S : List Nat) : ∀ (ps : List (List Nat)) (c : Nat), c ∈ TL.joinL S ps → c ∈ S ∨ ∃ p ∈ ps, c ∈ p
  | [], c, h => by cases h
  | [p], c, h => .inr ⟨p, by simp, h⟩
  | p :: q :: r, c, h => by
    rw [TL.joinL] at h
    rcases List.mem_append.mp h with h | h
    · exact .inr ⟨p, by simp, h⟩
    · rcases List.mem_append.mp h with h | h
      · exact .inl h
      · rcases joinL_mem S (q :: r) c h with h | ⟨x, hx, hc⟩
        · exact .inl h
        · exact .inr ⟨x, List.mem_cons_of_mem _ hx, hc⟩
theorem joinL_len (S : List Nat) : ∀ (ps : List (List Nat)), (TL.joinL S ps).length ≤ (ps.map List.length).sum + ps.length * S.length
  | [] => by simp [TL.joinL]
  | [p] => by simp [TL.joinL]
  | p :: q :: r => by
    have ih := joinL_len S (q :: r)
    rw [TL.joinL, List.length_append, List.length_append, List.map_cons, List.sum_cons, List.length_cons, Nat.succ_mul]
    omega
theorem sum_le (k : Nat) : ∀ l : List Nat, (∀ x ∈ l, x ≤ k) → l.sum ≤ l.length * k
  | [], _ => by simp
  | x :: r, h => by
    have ih := sum_le k r fun y hy => h y (List.mem_cons_of_mem _ hy)
    have hx := h x (by simp)
    rw [List.sum_cons, List.length_cons, Nat.succ_mul]
    omega
theorem join_len_le {sep : Str} {ws : List Str} {k n : Nat} (hw : ∀ x ∈ ws, x.length ≤ k) (hn : ws.length ≤ n) : (ws.map (·.length)).sum + ws.length * sep.length ≤ n * (k + sep.length) := by
  have h1 := sum_le k (ws.map (·.length)) fun x hx => by
    obtain ⟨y, hy, rfl⟩ := List.mem_map.mp hx
    exact hw y hy
  rw [List.length_map] at h1
  calc (ws.map (·.length)).sum + ws.length * sep.length ≤ ws.length * k + ws.length * sep.length := Nat.add_le_add_right h1 _
    _ = ws.length * (k + sep.length) := (Nat.mul_add _ _ _).symm
    _ ≤ n * (k + sep.length) := Nat.mul_le_mul_right _ hn
theorem joined_len (sep : Str) (ws : List Str) : (Txt.join sep ws).length ≤ (ws.map (·.length)).sum + ws.length * sep.length := by
  rw [TL.len_tl, TL.join_eq, TL.tl_join]
  refine Nat.le_trans (joinL_len _ _) ?_
  rw [List.map_map, List.length_map, ← TL.len_tl]
  have : (ws.map (List.length ∘ TL.tl)) = ws.map (·.length) := List.map_congr_left fun x _ => (TL.len_tl x).symm
  rw [this]
  exact Nat.le_refl _
theorem okS_join {sep : Str} {ws : List Str} (hs : OkS sep) (hw : ∀ x ∈ ws, OkS x) : OkS (Txt.join sep ws) := fun c hc => by
  rw [TL.join_eq, TL.tl_join] at hc
  rcases joinL_mem _ _ c hc with h | ⟨p, hp, hc⟩
  · exact hs c h
  · obtain ⟨x, hx, rfl⟩ := List.mem_map.mp hp
    exact hw x hx c hc
/-- lists of truth values compared -/
theorem dpAll_bls {K : PySem.W.Frag} {H : Hp} : ∀ bs : List Bool, DpAll K H (bs.map V.bl) (bs.map PyData.bool)
  | [] => .nil
  | b :: r => .cons (.bl b) (dpAll_bls r)
theorem dp_bls {K : PySem.W.Frag} {H : Hp} {a : Addr} {bs : List Bool} (h : SqL K H a (bs.map V.bl)) : Dp K H (.ref a) (.list (bs.map PyData.bool)) := .lst h (dpAll_bls bs)
theorem lay_bls : ∀ bs : List Bool, PyData.canLayAll0 (bs.map PyData.bool) = true
  | [] => by simp [PyData.canLayAll0]
  | b :: r => by simp [PyData.canLayAll0, PyData.canLay0, lay_bls r]
theorem depth_bls : ∀ bs : List Bool, PyData.depthAll (bs.map PyData.bool) = 0
  | [] => rfl
  | _ :: r => by simp [PyData.depthAll, PyData.depth, depth_bls r]
theorem shaped_bls (bs : List Bool) : SeqAt.shaped (.list (bs.map PyData.bool)) = true := by
  simp [SeqAt.shaped, PyData.canLay0, PyData.depth, lay_bls bs, depth_bls]
theorem eqv_bls : ∀ bs cs : List Bool, PyData.eqvAll (bs.map PyData.bool) (cs.map PyData.bool) = decide (bs = cs)
  | [], [] => by simp [PyData.eqvAll]
  | [], _ :: _ => by simp [PyData.eqvAll]
  | _ :: _, [] => by simp [PyData.eqvAll]
  | b :: r, c :: q => by
    rw [List.map_cons, List.map_cons, PyData.eqvAll, PyData.eqv, eqv_bls r q]
    by_cases h : b = c <;> simp [h]
theorem eqv_blsL (bs cs : List Bool) : PyData.eqv (.list (bs.map PyData.bool)) (.list (cs.map PyData.bool)) = decide (bs = cs) := by rw [PyData.eqv, eqv_bls]
theorem lat_of {α : Type} {xs : List α} {z : Int} {j : Nat} {v : α} (e : z = (j : Int)) (h : xs[j]? = some v) : atI xs z = some v := by
  rw [e]
  exact atI_nat h
theorem getD_str (ws : List Str) (i : Nat) (hi : i < ws.length) : (ws.map V.str).getD i .non = .str (ws.getD i Str.empty) := by
  rw [List.getD_eq_getElem?_getD, List.getElem?_map, List.getElem?_eq_getElem hi, List.getD_eq_getElem?_getD, List.getElem?_eq_getElem hi]
  rfl
end LH
namespace LH
open PySem PySem.Spec PyProof.Rows L2
/-! ### and, or of values, each part told by its truth -/
theorem andV {ta tb : TE} {σ : L2.St} {H : Hp} {Q : VK} (c d : Bool) (ha : ∀ Q' : VK, Tell H (.bl c) Q' → ta σ H Q') (hb : c = true → ∀ (H1 : Hp) (Q' : VK), Same H H1 → Tell H1 (.bl d) Q' → tb σ H1 Q') (q : Tell H (.bl (c && d)) Q) : tAndV ta tb σ H Q := by
  refine ha _ fun H1 s1 => ⟨c, rfl, ?_⟩
  cases c with
  | true => exact iteT (hb rfl H1 Q s1 fun H2 s2 => q H2 (s1.trans s2))
  | false => exact iteF (q H1 s1)
theorem orV {ta tb : TE} {σ : L2.St} {H : Hp} {Q : VK} (c d : Bool) (ha : ∀ Q' : VK, Tell H (.bl c) Q' → ta σ H Q') (hb : c = false → ∀ (H1 : Hp) (Q' : VK), Same H H1 → Tell H1 (.bl d) Q' → tb σ H1 Q') (q : Tell H (.bl (c || d)) Q) : tOrV ta tb σ H Q := by
  refine ha _ fun H1 s1 => ⟨c, rfl, ?_⟩
  cases c with
  | true => exact iteT (q H1 s1)
  | false => exact iteF (hb rfl H1 Q s1 fun H2 s2 => q H2 (s1.trans s2))
/-- two blanks side by side -/
def dbl (s : Nat) (l : List Nat) : Bool := (List.range l.length).any fun i => decide (l[i]? = some s) && decide (l[i + 1]? = some s)
theorem dbl_iff (s : Nat) (l : List Nat) : dbl s l = true ↔ ∃ i, l[i]? = some s ∧ l[i + 1]? = some s := by
  unfold dbl
  rw [List.any_eq_true]
  constructor
  · rintro ⟨i, _, h⟩
    rw [Bool.and_eq_true, decide_eq_true_eq, decide_eq_true_eq] at h
    exact ⟨i, h⟩
  · rintro ⟨i, h1, h2⟩
    refine ⟨i, List.mem_range.mpr (List.getElem?_eq_some_iff.mp h1).1, ?_⟩
    rw [Bool.and_eq_true, decide_eq_true_eq, decide_eq_true_eq]
    exact ⟨h1, h2⟩
theorem take2 (s : Nat) : ∀ (l : List Nat) (i : Nat), (l.drop i).take 2 = [s, s] ↔ l[i]? = some s ∧ l[i + 1]? = some s
  | [], i => by simp
  | c :: r, 0 => by cases r <;> simp
  | c :: r, i + 1 => by simpa using take2 s r i
theorem in_two {x y : Str} {s : Nat} (hy : TL.tl y = [s, s]) : (!(Builtin.Str.occurrences x y 0 x.length 1).isEmpty) = dbl s (TL.tl x) := by
  rw [Bool.eq_iff_iff, PySem.StrLaws.found_iff, dbl_iff]
  have hyl : y.length = 2 := by rw [TL.len_tl, hy]; rfl
  constructor
  · rintro ⟨i, h1, h2⟩
    rw [PySem.StrLaws.subAt_eq, hyl] at h2
    exact ⟨i, (take2 s _ i).mp ((eq_of_beq h2).trans hy)⟩
  · rintro ⟨i, h⟩
    have hl := (List.getElem?_eq_some_iff.mp h.2).1
    refine ⟨i, by rw [hyl, TL.len_tl]; omega, ?_⟩
    rw [PySem.StrLaws.subAt_eq, hyl]
    refine beq_iff_eq.mpr ?_
    rw [show x.cps.toList = TL.tl x from rfl, (take2 s _ i).mpr h]
    exact hy.symm
theorem take1 (s : Nat) (l : List Nat) : l.take 1 = [s] ↔ l[0]? = some s := by cases l <;> simp
theorem dropL (s : Nat) (l : List Nat) : l.drop (l.length - 1) = [s] ↔ ∃ i, l[i]? = some s ∧ l[i + 1]? = none := by
  constructor
  · intro h
    refine ⟨l.length - 1, ?_, ?_⟩
    · have := congrArg (fun m : List Nat => m[0]?) h
      simpa using this
    · rw [List.getElem?_eq_none_iff]; omega
  · rintro ⟨i, h1, h2⟩
    obtain ⟨hl, e⟩ := List.getElem?_eq_some_iff.mp h1
    have hl2 := List.getElem?_eq_none_iff.mp h2
    have : i = l.length - 1 := by omega
    subst this
    rw [List.drop_eq_getElem_cons hl, e, List.drop_of_length_le (by omega)]
theorem blanks_iff (s : Nat) (l : List Nat) (h0 : l ≠ []) : (decide (l.take 1 = [s]) || (decide (l.drop (l.length - 1) = [s]) || dbl s l)) = decide ([] ∈ splitL s l) := by
  rw [Bool.eq_iff_iff, Bool.or_eq_true, Bool.or_eq_true, decide_eq_true_eq, decide_eq_true_eq, dbl_iff, decide_eq_true_eq, split_gap, take1, dropL]
  constructor
  · rintro (h | ⟨i, h1, h2⟩ | ⟨i, h1, h2⟩)
    · exact .inr (.inl h)
    · exact .inr (.inr ⟨i, h1, .inl h2⟩)
    · exact .inr (.inr ⟨i, h1, .inr h2⟩)
  · rintro (h | h | ⟨i, h1, h2 | h2⟩)
    · exact absurd h h0
    · exact .inl h
    · exact .inr (.inl ⟨i, h1, h2⟩)
    · exact .inr (.inr ⟨i, h1, h2⟩)
theorem cutS_last (z : Str) : TL.tl (cutS z (some (-1)) none) = (TL.tl z).drop ((TL.tl z).length - 1) := by
  unfold cutS
  rw [HT.sIx_none]
  have e : HT.sIx z.length 0 (some (-1)) = z.length - 1 := by
    show (if (-1 : Int) < 0 then (-1 + ((z.length : Nat) : Int)).toNat else min (-1 : Int).toNat z.length) = _
    rw [if_pos (by decide)]
    omega
  rw [e]
  show ((TL.tl z).drop (z.length - 1)).take (z.length - (z.length - 1)) = _
  rw [TL.len_tl]
  exact List.take_of_length_le (by rw [List.length_drop]; exact Nat.le_refl _)
end LH
namespace LH
open PySem PySem.Spec PyProof.Rows L2
theorem pickL {α : Type} (xs : List α) (m : Int) (h0 : 0 ≤ m) (h1 : m < xs.length) : ∃ x, x ∈ xs ∧ atI xs m = some x := by
  obtain ⟨j, rfl⟩ : ∃ j : Nat, m = (j : Int) := ⟨m.toNat, by omega⟩
  have hj : j < xs.length := by omega
  exact ⟨xs[j], List.getElem_mem hj, atI_nat (List.getElem?_eq_getElem hj)⟩
/-- a thing that is no text -/
def Odd (H : Hp) (x : V) : Prop := x = .non ∨ (∃ i, x = .int i) ∨ (∃ b, x = .bl b) ∨ ∃ a, x = .ref a ∧ ((∃ xs, H a = some (.lst xs)) ∨ (∃ xs, H a = some (.tup xs)) ∨ ∃ kvs, H a = some (.dK kvs))
theorem Odd.same {H H' : Hp} {x : V} (s : Same H H') (h : Odd H x) : Odd H' x := by
  rcases h with h | h | h | ⟨a, e, h⟩
  · exact .inl h
  · exact .inr (.inl h)
  · exact .inr (.inr (.inl h))
  · refine .inr (.inr (.inr ⟨a, e, ?_⟩))
    rcases h with ⟨xs, h⟩ | ⟨xs, h⟩ | ⟨xs, h⟩
    · exact .inl ⟨xs, s _ _ h⟩
    · exact .inr (.inl ⟨xs, s _ _ h⟩)
    · exact .inr (.inr ⟨xs, s _ _ h⟩)
theorem Odd.ty {K : PySem.W.Frag} {H : Hp} {x : V} (h : Odd H x) : ∃ t, TyX K H x t ∧ PySem.W.kitOne K t (.type "str") = some false := by
  rcases h with rfl | ⟨i, rfl⟩ | ⟨b, rfl⟩ | ⟨a, rfl, ⟨xs, h⟩ | ⟨xs, h⟩ | ⟨xs, h⟩⟩
  · exact ⟨_, .base .non, kit_ty (by decide +kernel)⟩
  · exact ⟨_, .base (.int i), kit_ty (by decide +kernel)⟩
  · exact ⟨_, .base (.bl b), kit_ty (by decide +kernel)⟩
  · exact ⟨_, .base (.lst h), kit_ty (by decide +kernel)⟩
  · exact ⟨_, .base (.tup h), kit_ty (by decide +kernel)⟩
  · exact ⟨_, .base (.dK h), kit_ty (by decide +kernel)⟩
end LH

namespace LH
open PySem PySem.Spec PyProof.Rows L2 Builtin Builtin.Str PySem.StrLaws
/-! ### a text of which nothing is left when some signs are taken from its ends -/
theorem has_mem (y : Str) (c : Nat) : y.cps.contains c = decide (c ∈ TL.tl y) := by
  show y.cps.contains c = decide (c ∈ y.cps.toList)
  simp
theorem strip_none (x y : Str) : (Txt.stripChars x y = ⟨#[]⟩) ↔ (TL.tl x).all (fun c => decide (c ∈ TL.tl y)) = true := by
  have hl : x.cps.toList.length = x.length := by simp [Str.length]
  unfold Txt.stripChars
  rw [stripBy_eq]
  obtain ⟨l1, l2, l3⟩ := lo_facts y.cps.contains x
  obtain ⟨h1, h2, h3, h4⟩ := hi_facts y.cps.contains x (stripLo y.cps.contains true x) l1
  generalize stripLo y.cps.contains true x = lo at *
  generalize stripHi y.cps.contains true x lo = hi at *
  have hs : (strSub x lo hi).cps.toList = (x.cps.toList.drop lo).take (hi - lo) := strSub_toList ..
  have hg : ∀ k, k < x.length → (x.cps.getD k 0) ∈ x.cps.toList := fun k hk => by
    rw [← getD_list, List.getD_eq_getElem?_getD, List.getElem?_eq_getElem (by rw [hl]; exact hk)]
    exact List.getElem_mem _
  rw [List.all_eq_true]
  constructor
  · intro e c hc
    have e0 : (x.cps.toList.drop lo).take (hi - lo) = [] := by rw [← hs, e]
    have e1 : hi = lo := by
      have := congrArg List.length e0
      rw [List.length_take, List.length_drop, hl, List.length_nil] at this
      omega
    have hc' : c ∈ x.cps.toList := hc
    obtain ⟨k, hk, e2⟩ := List.getElem_of_mem hc'
    have ek : c = x.cps.getD k 0 := by
      rw [← getD_list, List.getD_eq_getElem?_getD, List.getElem?_eq_getElem hk, ← e2]; rfl
    rw [hl] at hk
    rw [← has_mem, ek]
    by_cases hkl : k < lo
    · exact l2 k hkl
    · exact h3 k (by omega) hk
  · intro ha
    have hb : ∀ k, k < x.length → y.cps.contains (x.cps.getD k 0) = true := fun k hk => by rw [has_mem]; exact ha _ (hg k hk)
    have : lo = x.length := by
      rcases l3 with h | h
      · exact h
      · by_cases hlt : lo < x.length
        · rw [hb lo hlt] at h; cases h
        · omega
    have e : (x.cps.toList.drop lo).take (hi - lo) = [] := by
      apply List.eq_nil_of_length_eq_zero
      rw [List.length_take, List.length_drop, hl]; omega
    apply TL.ext_tl
    show (strSub x lo hi).cps.toList = []
    rw [hs, e]
theorem strip_eq (x y : Str) : decide (V.str (Txt.stripChars x y) = V.str (Str.ofString "")) = (TL.tl x).all (fun c => decide (c ∈ TL.tl y)) := by
  have e0 : (Str.ofString "") = ⟨#[]⟩ := by decide +kernel
  rw [e0]
  by_cases h : (TL.tl x).all (fun c => decide (c ∈ TL.tl y)) = true
  · rw [h, decide_eq_true (congrArg V.str ((strip_none x y).mpr h))]
  · rw [Bool.not_eq_true] at h
    rw [h, decide_eq_false (fun e => by rw [(strip_none x y).mp (V.str.inj e)] at h; cases h)]
end LH
namespace K02
open PySem PySem.Spec PyProof.Rows L2 LH
def topS (i : Nat) : Stmt := PySem.Challenge.pw_letterhouse_k02_names_and_values.main.body.getD i (.Pass ⟨0, 0, 0, 0⟩)
def SMALL : Str := Str.ofString "abcdefghijklmnopqrstuvwxyz"
structure Tx (mg : Str → Option Value) (tk : Nat → Tok) : Prop where
  n_all : mg "all" = none
  n_bool : mg "bool" = none
  n_enumerate : mg "enumerate" = none
  n_int : mg "int" = none
  n_isinstance : mg "isinstance" = none
  n_len : mg "len" = none
  n_ord : mg "ord" = none
  n_range : mg "range" = none
  n_str : mg "str" = none
  m_PERCENT : mg "PERCENT" = some (.int 37 (tk 0))
  m_SMALL : mg "SMALL" = some (.str SMALL (tk 1))
  m_NAME_LETTERS : mg "NAME_LETTERS" = some (.int 12 (tk 2))
  m_HEADER_WORDS : mg "HEADER_WORDS" = some (.int 3 (tk 3))
  m_HEADER_LETTERS : mg "HEADER_LETTERS" = some (.int 8 (tk 4))
end K02

namespace K02
open PySem PySem.Spec PyProof.Rows L2 LH
section
variable {P : Program} {w : World} {K : PySem.W.Frag} {mg : Str → Option Value} {base : Heap} {tk : Nat → Tok}
def isSign (c : Nat) : Bool := decide (32 ≤ c) && decide (c ≤ 126) && !decide (c = 37)
def isSmall (c : Nat) : Bool := decide (c ∈ TL.tl SMALL)
def smallW (l : List Nat) (m : Nat) : Bool := decide (1 ≤ l.length) && decide (l.length ≤ m) && l.all isSmall
def isHN (l : List Nat) : Bool := decide ((splitL 45 l).length ≤ 3) && (splitL 45 l).all fun x => smallW x 8
def isVal (l : List Nat) : Bool := l.all isSign && (decide (l = []) || !decide ([] ∈ splitL 32 l))
/-- a thing that is no text -/
def NoStr (K : PySem.W.Frag) (H : Hp) (x : V) : Prop := ∃ t, TyX K H x t ∧ PySem.W.kitOne K t (.type "str") = some false
/-! ### is_sign -/
abbrev s_is_sign : Stmt := topS 2
abbrev N_is_sign : List Str := ["sign"]
abbrev P_is_sign : List Str := ["sign"]
theorem sc_is_sign : FnScope N_is_sign ["sign"] (defScope s_is_sign) := ⟨rfl, rfl, rfl, by decide +kernel, rfl, by decide +kernel, by decide +kernel⟩
def sp_is_sign : Sp := fun vs H Q _ => ∃ c : Nat, vs = [.str ⟨#[c]⟩] ∧ Tell H (.bl (isSign c)) Q
theorem ok_is_sign {f : Addr} {fd : FuncData} {k : Nat} (F : Fun K "is_sign" "is_sign" s_is_sign f fd) (T : Tx mg tk) : FnOk P w K mg base CX0 (k + 1) f fd ["sign"] sp_is_sign := by
  refine F.ok sc_is_sign (fun vs H Q E h => ?_) (fun cdv A outer s H vs Q E hr h => ?_)
  · obtain ⟨i, rfl, _⟩ := h
    rfl
  · have nd := sc_is_sign.nd
    obtain ⟨c, rfl, q⟩ := h
    refine ⟨_, (pss_one (ps_ret (pe_and (pe_chain op_le_str op_le_str pe_str (pv 0) pe_str) (pe_one (pe_cmpR op_ne (pe_callB call_ord (by rfl) T.n_ord (by decide +kernel) (pa_cons (pv 0) pa_nil)) (pe_glob (v := .int 37) (by rfl) T.m_PERCENT ⟨_, rfl⟩) (nomark _)))))), ?_⟩
    refine ⟨.str ⟨#[c]⟩, rfl, Str.ofString " ", ⟨#[c]⟩, rfl, rfl, _, rfl, ?_⟩
    have e1 : (!decide ((⟨#[c]⟩ : Str).cps.toList < (Str.ofString " ").cps.toList)) = decide (32 ≤ c) := by
      rw [show (Str.ofString " ").cps.toList = [32] by decide +kernel]
      show (!decide ([c] < [32])) = _
      by_cases h : 32 ≤ c
      · rw [decide_eq_true h, decide_eq_false (by simp [List.cons_lt_cons_iff]; omega)]; rfl
      · rw [decide_eq_false h, decide_eq_true (by simp [List.cons_lt_cons_iff]; omega)]; rfl
    have e2 : (!decide ((Str.ofString "~").cps.toList < (⟨#[c]⟩ : Str).cps.toList)) = decide (c ≤ 126) := by
      rw [show (Str.ofString "~").cps.toList = [126] by decide +kernel]
      show (!decide ([126] < [c])) = _
      by_cases h : c ≤ 126
      · rw [decide_eq_true h, decide_eq_false (by simp [List.cons_lt_cons_iff]; omega)]; rfl
      · rw [decide_eq_false h, decide_eq_true (by simp [List.cons_lt_cons_iff]; omega)]; rfl
    have q0 := q H (Same.refl _)
    unfold isSign at q0
    rw [e1]
    by_cases h1 : 32 ≤ c
    · rw [decide_eq_true h1] at q0 ⊢
      refine iteT ⟨_, _, rfl, rfl, _, rfl, ?_⟩
      rw [e2]
      by_cases h2 : c ≤ 126
      · rw [decide_eq_true h2] at q0 ⊢
        refine iteT ⟨.str ⟨#[c]⟩, rfl, ⟨#[c]⟩, rfl, rfl, ?_⟩
        refine ⟨rfl, ?_⟩
        have e3 : (!decide (V.int (((⟨#[c]⟩ : Str).cps.getD 0 0 : Nat) : Int) = V.int 37)) = !decide (c = 37) := by
          show (!decide (V.int (c : Int) = V.int 37)) = _
          congr 1
          by_cases h : c = 37
          · subst h; rfl
          · rw [decide_eq_false h, decide_eq_false (fun z => h (by have := V.int.inj z; omega))]
        rw [e3]
        exact q0
      · rw [decide_eq_false h2] at q0 ⊢
        refine iteF q0
    · rw [decide_eq_false h1] at q0 ⊢
      refine iteF ⟨false, rfl, iteF q0⟩
/-! ### is_small_word -/
abbrev s_is_small_word : Stmt := topS 8
abbrev N_is_small_word : List Str := ["text", "most"]
abbrev P_is_small_word : List Str := ["text", "most"]
theorem sc_is_small_word : FnScope N_is_small_word ["text", "most"] (defScope s_is_small_word) := ⟨rfl, rfl, rfl, by decide +kernel, rfl, by decide +kernel, by decide +kernel⟩
def sp_small_word : Sp := fun vs H Q _ => ∃ (z : Str) (m : Nat), vs = [.str z, .int (m : Int)] ∧ z.length ≤ 100000 ∧ Tell H (.bl (smallW (TL.tl z) m)) Q
theorem ok_small_word {f : Addr} {fd : FuncData} {k : Nat} (F : Fun K "is_small_word" "is_small_word" s_is_small_word f fd) (T : Tx mg tk) : FnOk P w K mg base CX0 (k + 1) f fd ["text", "most"] sp_small_word := by
  refine F.ok sc_is_small_word (fun vs H Q E h => ?_) (fun cdv A outer s H vs Q E hr h => ?_)
  · obtain ⟨i, m, rfl, _⟩ := h
    rfl
  · have nd := sc_is_small_word.nd
    obtain ⟨z, m, rfl, hz, q⟩ := h
    refine ⟨_, (pss_one (ps_ret (pe_and (pe_chain op_le op_le pe_int (pe_callB call_len_str (by rfl) T.n_len (by decide +kernel) (pa_cons (pv 0) pa_nil)) (pv 1)) (pe_one (pe_cmpR op_eq (pe_m1 PySem.F.slot_str_strip PySem.F.type_str_strip mt_stripChars (pv 0) (pe_glob (v := .str SMALL) (by rfl) T.m_SMALL ⟨_, rfl⟩)) pe_str (nomark _)))))), ?_⟩
    have hzl : z.length = (TL.tl z).length := TL.len_tl z
    have hsl : z.length ≤ sizeLine := by rw [sizeLine_eq]; omega
    refine ⟨.str z, rfl, z, rfl, hsl, 1, _, rfl, rfl, _, rfl, ?_⟩
    have q0 := q H (Same.refl _)
    unfold smallW at q0 q
    by_cases h1 : 1 ≤ (TL.tl z).length
    · rw [decide_eq_true (show (1 : Int) ≤ ((z.length : Nat) : Int) by omega)]
      rw [decide_eq_true h1] at q0 q
      refine iteT ⟨.int m, rfl, _, _, rfl, rfl, _, rfl, ?_⟩
      by_cases h2 : (TL.tl z).length ≤ m
      · rw [decide_eq_true (show ((z.length : Nat) : Int) ≤ (m : Int) by omega)]
        rw [decide_eq_true h2] at q0 q
        refine iteT ⟨.str z, rfl, ⟨_, rfl⟩, z, SMALL, rfl, rfl, hsl, ?_⟩
        refine ⟨rfl, ?_⟩
        rw [strip_eq]
        exact q0
      · rw [decide_eq_false (show ¬ ((z.length : Nat) : Int) ≤ (m : Int) by omega)]
        rw [decide_eq_false h2] at q0
        exact iteF q0
    · rw [decide_eq_false (show ¬ (1 : Int) ≤ ((z.length : Nat) : Int) by omega)]
      rw [decide_eq_false h1] at q0
      exact iteF ⟨false, rfl, iteF q0⟩
/-! ### is_header_name -/
abbrev s_is_header_name : Stmt := topS 10
abbrev N_is_header_name : List Str := ["thing", "words", "word"]
abbrev P_is_header_name : List Str := ["thing"]
theorem sc_is_header_name : FnScope N_is_header_name ["thing"] (defScope s_is_header_name) := ⟨rfl, rfl, rfl, by decide +kernel, rfl, by decide +kernel, by decide +kernel⟩
def sp_header_name (K : PySem.W.Frag) : Sp := fun vs H Q _ => ∃ x : V, vs = [x] ∧ ((∃ z : Str, x = .str z ∧ z.length ≤ 100000 ∧ Tell H (.bl (isHN (TL.tl z))) Q) ∨ (NoStr K H x ∧ Tell H (.bl false) Q))
theorem ok_header_name {f fS : Addr} {fd fdS : FuncData} (F : Fun K "is_header_name" "is_header_name" s_is_header_name f fd) (T : Tx mg tk) (D_is_small_word : Def P w K mg base "is_small_word" 1 fS fdS ["text", "most"] sp_small_word) : FnOk P w K mg base CX0 2 f fd ["thing"] (sp_header_name K) := by
  refine F.ok sc_is_header_name (fun vs H Q E h => ?_) (fun cdv A outer s H vs Q E hr h => ?_)
  · obtain ⟨x, rfl, _⟩ := h
    rfl
  · have nd := sc_is_header_name.nd
    obtain ⟨x, rfl, h⟩ := h
    refine ⟨_, (pss_cons (ps_if (pt_not (pt_val (pe_callB (cIsi K) (by rfl) T.n_isinstance (by decide +kernel) (pa_cons (pv 0) (pa_cons (pe_bltn (v := .ty "str") (by rfl) T.n_str (by decide +kernel) rfl) pa_nil)))))
        (pss_one (ps_ret pe_bl))
        pss_nil)
      (pss_cons (ps_set (i := 1) nd rfl (.inl rfl) (pe_split (pv 0) pe_str))
      (pss_one (ps_ret (pe_and (pe_cmpR op_le (pe_callB (cLen K) (by rfl) T.n_len (by decide +kernel) (pa_cons (pv 1) pa_nil)) (pe_glob (v := .int 3) (by rfl) T.m_HEADER_WORDS ⟨_, rfl⟩) (nomark _)) (pe_one (pe_callB (cAll K) (by rfl) T.n_all (by decide +kernel) (pa_cons (pe_lc (own := [("word", 2)]) (g := gName 2) (by rfl) nd (pi_list (pv 1)) (blkOk_by (N := N_is_header_name) (sc := defScope s_is_header_name) (by decide +kernel)) (fun _ _ _ _ _ => (pg_name (i := 2) nd rfl (Or.inl rfl))) (fun _ _ _ _ _ => pts_nil) (fun _ _ _ _ _ => (pe_def D_is_small_word (hr.mono (by decide)) (pa_cons (pv 2) (pa_cons (pe_glob (v := .int 8) (by rfl) T.m_HEADER_LETTERS ⟨_, rfl⟩) pa_nil))))) pa_nil)))))))), ?_⟩
    rcases h with ⟨z, rfl, hz, q⟩ | ⟨⟨t, ty, hk⟩, q⟩
    · refine ⟨.str z, rfl, .str z, .ty "str", _, _, true, rfl, .ty _, .base (.str z), kit_ty (by decide +kernel), true, rfl, iteF ?_⟩
      have hzl : z.length = (TL.tl z).length := TL.len_tl z
      have hsp := split_tl (x := z) (y := Str.ofString "-") (s := 45) (by decide +kernel) (by decide)
      refine ⟨.str z, rfl, ⟨_, rfl⟩, z, Str.ofString "-", rfl, rfl, by decide +kernel, by rw [sizeLine_eq]; omega, fun p np => ?_⟩
      have s1 := same_upd (o := .lst ((Txt.split z (Str.ofString "-")).map V.str)) np
      generalize Txt.split z (Str.ofString "-") = ws at *
      have hwl : ws.length = (splitL 45 (TL.tl z)).length := by rw [← hsp, List.length_map]
      have hlw := splitL_len 45 (TL.tl z)
      refine ⟨.ref p, rfl, p, _, rfl, .inl (.inl (.inl upd_same)), _, _, rfl, rfl, _, rfl, ?_⟩
      have hm : (ws.map V.str).length = ws.length := List.length_map ..
      rw [hm]
      have q0 := q _ s1
      unfold isHN at q0 q
      by_cases h1 : (splitL 45 (TL.tl z)).length ≤ 3
      · rw [decide_eq_true (show ((ws.length : Nat) : Int) ≤ 3 by omega)]
        rw [decide_eq_true h1] at q
        refine iteT ⟨.ref p, rfl, p, rfl, ⟨_, .inl (.inl upd_same)⟩, fun D hD => lc_pure (fun i => (ws.map V.str).getD i .non) (fun i => .bl (smallW (TL.tl (ws.getD i Str.empty)) 8)) walk_listF (fun H1 sm => sm.seq (.inl (.inl upd_same))) hD (by rw [hm, sizeLine_eq]; omega) (fun i H1 Q1 hi sm q1 => ?_) (fun H1 sm e => ?_)⟩
        · rw [hm] at hi
          have ei : (ws.map V.str).getD i .non = .str (ws.getD i Str.empty) := by
            rw [List.getD_eq_getElem?_getD, List.getElem?_map, List.getElem?_eq_getElem hi, List.getD_eq_getElem?_getD, List.getElem?_eq_getElem hi]
            rfl
          rw [ei]
          refine ⟨.str (ws.getD i Str.empty), rfl, ws.getD i Str.empty, 8, rfl, ?_, q1⟩
          have hmem : TL.tl (ws.getD i Str.empty) ∈ splitL 45 (TL.tl z) := by
            rw [← hsp, List.getD_eq_getElem?_getD, List.getElem?_eq_getElem hi]
            exact List.mem_map.mpr ⟨ws[i], List.getElem_mem hi, rfl⟩
          have := splitL_le 45 (TL.tl z) _ hmem
          rw [TL.len_tl]
          omega
        · refine ⟨D, (List.range ws.length).map fun i => smallW (TL.tl (ws.getD i Str.empty)) 8, rfl, .inl (.inl (by rw [e, hm, List.map_map]; rfl)), ?_⟩
          rw [lall_range ws Str.empty fun x => smallW (TL.tl x) 8]
          have ea : (ws.all fun x => smallW (TL.tl x) 8) = (splitL 45 (TL.tl z)).all fun x => smallW x 8 := by
            rw [← hsp, List.all_map]
            rfl
          rw [ea]
          exact q _ (s1.trans sm)
      · rw [decide_eq_false (show ¬ ((ws.length : Nat) : Int) ≤ 3 by omega)]
        rw [decide_eq_false h1] at q0
        exact iteF q0
    · exact ⟨x, rfl, x, .ty "str", t, _, false, rfl, .ty _, ty, hk, false, rfl, iteT (q _ (Same.refl _))⟩
/-! ### is_value -/
abbrev s_is_value : Stmt := topS 11
abbrev N_is_value : List Str := ["thing", "sign"]
abbrev P_is_value : List Str := ["thing"]
theorem sc_is_value : FnScope N_is_value ["thing"] (defScope s_is_value) := ⟨rfl, rfl, rfl, by decide +kernel, rfl, by decide +kernel, by decide +kernel⟩
def sp_value (K : PySem.W.Frag) : Sp := fun vs H Q _ => ∃ x : V, vs = [x] ∧ ((∃ z : Str, x = .str z ∧ z.length ≤ 100000 ∧ Tell H (.bl (isVal (TL.tl z))) Q) ∨ (NoStr K H x ∧ Tell H (.bl false) Q))
theorem ok_value {f fS : Addr} {fd fdS : FuncData} (F : Fun K "is_value" "is_value" s_is_value f fd) (T : Tx mg tk) (D_is_sign : Def P w K mg base "is_sign" 1 fS fdS ["sign"] sp_is_sign) : FnOk P w K mg base CX0 2 f fd ["thing"] (sp_value K) := by
  refine F.ok sc_is_value (fun vs H Q E h => ?_) (fun cdv A outer s H vs Q E hr h => ?_)
  · obtain ⟨x, rfl, _⟩ := h
    rfl
  · have nd := sc_is_value.nd
    obtain ⟨x, rfl, h⟩ := h
    refine ⟨_, (pss_cons (ps_if (PW.pt (pw_or (pt_not (pt_val (pe_callB (cIsi K) (by rfl) T.n_isinstance (by decide +kernel) (pa_cons (pv 0) (pa_cons (pe_bltn (v := .ty "str") (by rfl) T.n_str (by decide +kernel) rfl) pa_nil))))) (pw_or1 (pt_not (pt_val (pe_callB (cAll K) (by rfl) T.n_all (by decide +kernel) (pa_cons (pe_lc (own := [("sign", 1)]) (g := gName 1) (by rfl) nd (pi_str (pv 0)) (blkOk_by (N := N_is_value) (sc := defScope s_is_value) (by decide +kernel)) (fun _ _ _ _ _ => (pg_name (i := 1) nd rfl (Or.inl rfl))) (fun _ _ _ _ _ => pts_nil) (fun _ _ _ _ _ => (pe_def D_is_sign (hr.mono (by decide)) (pa_cons (pv 1) pa_nil)))) pa_nil)))))))
        (pss_one (ps_ret pe_bl))
        pss_nil)
      (pss_one (ps_ret (pe_or (pe_cmpR op_eq (pv 0) pe_str (nomark _)) (pe_one (pe_cmpR (oNotIn K) pe_str (pe_split (pv 0) pe_str) (by rfl))))))), ?_⟩
    rcases h with ⟨z, rfl, hz, q⟩ | ⟨⟨t, ty, hk⟩, q⟩
    · refine ⟨.str z, rfl, .str z, .ty "str", _, _, true, rfl, .ty _, .base (.str z), kit_ty (by decide +kernel), true, rfl, iteF ?_⟩
      have hzl : z.length = (TL.tl z).length := TL.len_tl z
      have hsl : z.length ≤ sizeLine := by rw [sizeLine_eq]; omega
      unfold isVal at q
      refine ⟨.str z, rfl, z, rfl, fun D hD => lc_pure (fun i => .str ⟨#[(TL.tl z).getD i 0]⟩) (fun i => .bl (isSign ((TL.tl z).getD i 0))) walk_strF (fun _ _ => trivial) hD (by rw [← hzl]; exact hsl) (fun i H1 Q1 hi sm q1 => ?_) (fun H1 sm e => ?_)⟩
      · exact ⟨.str ⟨#[(TL.tl z).getD i 0]⟩, rfl, (TL.tl z).getD i 0, rfl, q1⟩
      · refine ⟨D, (List.range (TL.tl z).length).map fun i => isSign ((TL.tl z).getD i 0), rfl, .inl (.inl (by rw [e, List.map_map]; rfl)), _, rfl, ?_⟩
        rw [lall_range]
        cases hs : (TL.tl z).all isSign with
        | false =>
          rw [hs] at q
          exact iteT (q _ sm)
        | true =>
          rw [hs] at q
          refine iteF ⟨.str z, rfl, rfl, _, rfl, ?_⟩
          have hsp := split_tl (x := z) (y := Str.ofString " ") (s := 32) (by decide +kernel) (by decide)
          by_cases h0 : TL.tl z = []
          · have ez : z = Str.ofString "" := TL.ext_tl (by rw [h0]; decide +kernel)
            rw [decide_eq_true h0] at q
            rw [ez, decide_eq_true rfl]
            exact iteT (q _ sm)
          · have ez : ¬ z = Str.ofString "" := fun h => h0 (by rw [h]; decide +kernel)
            rw [decide_eq_false h0] at q
            rw [decide_eq_false (show ¬ V.str z = V.str (Str.ofString "") from fun h => ez (V.str.inj h))]
            refine iteF ⟨.str z, rfl, ⟨_, rfl⟩, z, Str.ofString " ", rfl, rfl, by decide +kernel, by rw [sizeLine_eq]; omega, fun p np => ?_⟩
            have s1 := same_upd (o := .lst ((Txt.split z (Str.ofString " ")).map V.str)) np
            generalize Txt.split z (Str.ofString " ") = ws at *
            refine ⟨p, _, rfl, .inl (.inl (.inl upd_same)), rfl, by simp [flatV], ?_⟩
            have ei : inV (.str (Str.ofString "")) (ws.map V.str) = decide ([] ∈ splitL 32 (TL.tl z)) := by
              rw [← hsp]
              unfold inV
              rw [List.any_map]
              have : ∀ ws : List Str, (ws.any ((fun y => eqV y (.str (Str.ofString ""))) ∘ V.str)) = decide ([] ∈ ws.map TL.tl) := by
                intro ws
                induction ws with
                | nil => rfl
                | cons x r ih =>
                  rw [List.any_cons, ih, List.map_cons]
                  show ((x == Str.ofString "") || _) = _
                  by_cases hx : x = Str.ofString ""
                  · have : TL.tl x = [] := by rw [hx]; decide +kernel
                    simp [hx, this]
                    left; decide +kernel
                  · have h2 : ¬ TL.tl x = [] := fun h => hx (TL.ext_tl (by rw [h]; decide +kernel))
                    have h3 : ¬ [] = TL.tl x := fun h => h2 h.symm
                    simp [hx, h3]
              exact this ws
            show Q (.bl (!inV (.str (Str.ofString "")) (ws.map V.str))) _
            rw [ei]
            exact q _ (sm.trans s1)
    · exact ⟨x, rfl, x, .ty "str", t, _, false, rfl, .ty _, ty, hk, false, rfl, iteT (q _ (Same.refl _))⟩
end
end K02
namespace K02
open PySem PySem.Spec PyProof.Rows L2 LH
section
variable {P : Program} {w : World} {K : PySem.W.Frag} {mg : Str → Option Value} {base : Heap} {tk : Nat → Tok}
/-! ### _law_cell, _law_mixed, _law_next, _law_sixty -/
/-! ### _law_cell -/
abbrev s__law_cell : Stmt := topS 13
abbrev N__law_cell : List Str := ["_law_script", "_law_k"]
abbrev P__law_cell : List Str := ["_law_script", "_law_k"]
theorem sc__law_cell : FnScope N__law_cell ["_law_script", "_law_k"] (defScope s__law_cell) := ⟨rfl, rfl, rfl, by decide +kernel, rfl, by decide +kernel, by decide +kernel⟩
def sp_cell (K : PySem.W.Frag) : Sp := fun vs H Q _ => ∃ (a : Addr) (ns : List Int) (k : Nat), vs = [.ref a, .int (k : Int)] ∧ SqL K H a (ns.map V.int) ∧ Tell H (.int (ns.getD k 0)) Q
theorem ok_cell {f : Addr} {fd : FuncData} {k : Nat} (F : Fun K "_law_cell" "_law_cell" s__law_cell f fd) (T : Tx mg tk) : FnOk P w K mg base CX0 (k + 1) f fd P__law_cell (sp_cell K) := by
  refine F.ok sc__law_cell (fun vs H Q E h => ?_) (fun cdv A outer s H vs Q E hr h => ?_)
  · obtain ⟨a, ns, j, rfl, _⟩ := h
    rfl
  · have nd := sc__law_cell.nd
    obtain ⟨a, ns, j, rfl, hS, q⟩ := h
    refine ⟨_, (pss_cons (ps_if (pt_cmpR op_lt (pv 1) (pe_callB (cLen K) (by rfl) T.n_len (by decide +kernel) (pa_cons (pv 0) pa_nil)) (nomark _))
        (pss_one (ps_ret (pe_ix (ixL K) (pv 0) (pv 1) (fun _ _ => rfl))))
        pss_nil)
      (pss_one (ps_ret pe_int))), ?_⟩
    refine ⟨.int j, rfl, .ref a, rfl, a, _, rfl, .inl hS, _, _, rfl, rfl, _, rfl, ite2 (fun e => ?_) (fun e => ?_)⟩
    · have h1 : j < ns.length := by
        have := of_decide_eq_true e
        rw [List.length_map] at this
        omega
      refine ⟨.ref a, rfl, .int j, rfl, a, _, j, .int (ns[j]), rfl, rfl, hS, atI_nat (by rw [List.getElem?_map, List.getElem?_eq_getElem h1]; rfl), ?_⟩
      have := q H (Same.refl _)
      rw [List.getD_eq_getElem?_getD, List.getElem?_eq_getElem h1] at this
      exact this
    · have h1 : ns.length ≤ j := by
        have : ¬ (j : Int) < ((ns.map V.int).length : Nat) := fun z => e (decide_eq_true z)
        rw [List.length_map] at this
        omega
      have := q H (Same.refl _)
      rw [List.getD_eq_getElem?_getD, List.getElem?_eq_none h1] at this
      exact this
/-! ### _law_mixed -/
abbrev s__law_mixed : Stmt := topS 14
abbrev N__law_mixed : List Str := ["_law_cell_here", "_law_k"]
abbrev P__law_mixed : List Str := ["_law_cell_here", "_law_k"]
theorem sc__law_mixed : FnScope N__law_mixed ["_law_cell_here", "_law_k"] (defScope s__law_mixed) := ⟨rfl, rfl, rfl, by decide +kernel, rfl, by decide +kernel, by decide +kernel⟩
def mixed (c k : Int) : Int := (c * 48271 + 7919 * k * k * k + 104729) % 2147483647 * 16807 % 2147483629
theorem mixed_lt (c k : Int) : 0 ≤ mixed c k ∧ mixed c k < 2147483629 := ⟨Int.emod_nonneg _ (by decide), Int.emod_lt_of_pos _ (by decide)⟩
def sp_mixed : Sp := fun vs H Q _ => ∃ (c k : Int), vs = [.int c, .int k] ∧ 0 ≤ k ∧ k < 1000 ∧ Tell H (.int (mixed c k)) Q
theorem ok_mixed {f : Addr} {fd : FuncData} {k : Nat} (F : Fun K "_law_mixed" "_law_mixed" s__law_mixed f fd) : FnOk P w K mg base CX0 (k + 1) f fd P__law_mixed sp_mixed := by
  refine F.ok sc__law_mixed (fun vs H Q E h => ?_) (fun cdv A outer s H vs Q E hr h => ?_)
  · obtain ⟨c, j, rfl, _⟩ := h
    rfl
  · have nd := sc__law_mixed.nd
    obtain ⟨c, j, rfl, h0, h1, q⟩ := h
    refine ⟨_, (pss_one (ps_ret (pe_op op_mod (pe_op op_mul (pe_op op_mod (pe_op op_add (pe_op op_add (pe_op op_mul (pv 0) pe_int) (pe_op op_mul (pe_op op_mul (pe_op op_mul pe_int (pv 1)) (pv 1)) (pv 1))) pe_int) pe_int) pe_int) pe_int))), ?_⟩
    refine ⟨.int c, rfl, c, 48271, rfl, rfl, .inr (by decide), .int j, rfl, 7919, j, rfl, rfl, .inl (by decide), .int j, rfl, _, j, rfl, rfl, .inr ⟨by omega, by omega⟩, .int j, rfl, _, j, rfl, rfl, .inr ⟨by omega, by omega⟩, _, _, rfl, rfl, _, _, rfl, rfl, _, _, rfl, rfl, (show (0 : Int) < 2147483647 by decide), _, _, rfl, rfl, .inr (by decide), _, _, rfl, rfl, (show (0 : Int) < 2147483629 by decide), q _ (Same.refl _)⟩
/-! ### _law_next -/
abbrev s__law_next : Stmt := topS 15
abbrev N__law_next : List Str := ["_law_number", "_law_k"]
abbrev P__law_next : List Str := ["_law_number", "_law_k"]
theorem sc__law_next : FnScope N__law_next ["_law_number", "_law_k"] (defScope s__law_next) := ⟨rfl, rfl, rfl, by decide +kernel, rfl, by decide +kernel, by decide +kernel⟩
def nextN (n k : Int) : Int := (n * (k * k + 1) + 1009 * k + 11) * 69621 % 2147483629
theorem nextN_lt (c k : Int) : 0 ≤ nextN c k ∧ nextN c k < 2147483629 := ⟨Int.emod_nonneg _ (by decide), Int.emod_lt_of_pos _ (by decide)⟩
def sp_next : Sp := fun vs H Q _ => ∃ (c k : Int), vs = [.int c, .int k] ∧ 0 ≤ c ∧ c < 2147483648 ∧ 0 ≤ k ∧ k < 1000 ∧ Tell H (.int (nextN c k)) Q
theorem ok_next {f : Addr} {fd : FuncData} {k : Nat} (F : Fun K "_law_next" "_law_next" s__law_next f fd) : FnOk P w K mg base CX0 (k + 1) f fd P__law_next sp_next := by
  refine F.ok sc__law_next (fun vs H Q E h => ?_) (fun cdv A outer s H vs Q E hr h => ?_)
  · obtain ⟨c, j, rfl, _⟩ := h
    rfl
  · have nd := sc__law_next.nd
    obtain ⟨c, j, rfl, hc, hc1, h0, h1, q⟩ := h
    refine ⟨_, (pss_one (ps_ret (pe_op op_mod (pe_op op_mul (pe_op op_add (pe_op op_add (pe_op op_mul (pv 0) (pe_op op_add (pe_op op_mul (pv 1) (pv 1)) pe_int)) (pe_op op_mul pe_int (pv 1))) pe_int) pe_int) pe_int))), ?_⟩
    refine ⟨.int c, rfl, .int j, rfl, .int j, rfl, j, j, rfl, rfl, .inr ⟨by omega, by omega⟩, _, 1, rfl, rfl, c, _, rfl, rfl, .inl ⟨by omega, by omega⟩, .int j, rfl, 1009, j, rfl, rfl, .inl (by decide), _, _, rfl, rfl, _, _, rfl, rfl, _, _, rfl, rfl, .inr (by decide), _, _, rfl, rfl, (show (0 : Int) < 2147483629 by decide), q _ (Same.refl _)⟩
end
end K02

namespace K02
open PySem PySem.Spec PyProof.Rows L2 LH
section
variable {P : Program} {w : World} {K : PySem.W.Frag} {mg : Str → Option Value} {base : Heap} {tk : Nat → Tok}
/-! ### the signs -/
def SG1 : Str := Str.ofString " !\"#$&'()*+,-./0123456789:;<=>?@ABCDEFGHIJKLMNOPQRSTUVWXYZ[\\]^_`"
def SG2 : Str := Str.ofString "abcdefghijklmnopqrstuvwxyz{|}~"
def SIGNS : Str := SG1 ++ SG2
theorem tl_SIGNS : TL.tl SIGNS = ((List.range 95).map fun x => x + 32).filter fun x => decide (x ≠ 37) := by
  unfold SIGNS
  rw [TL.tl_append]
  decide +kernel
theorem SIGNS_len : SIGNS.length = 94 := by rw [TL.len_tl, tl_SIGNS]; decide +kernel
theorem in_SIGNS (c : Nat) : decide (c ∈ TL.tl SIGNS) = isSign c := by
  rw [tl_SIGNS]
  unfold isSign
  rw [Bool.eq_iff_iff]
  simp only [List.mem_filter, List.mem_map, List.mem_range, decide_eq_true_eq, Bool.and_eq_true, Bool.not_eq_true', decide_eq_false_iff_not]
  constructor
  · rintro ⟨⟨a, ha, rfl⟩, h2⟩
    exact ⟨⟨by omega, by omega⟩, h2⟩
  · rintro ⟨⟨h1, h2⟩, h3⟩
    exact ⟨⟨c - 32, by omega, by omega⟩, h3⟩
theorem sign_ok {c : Nat} (h : isSign c = true) : c < 1114112 := by
  unfold isSign at h
  simp only [Bool.and_eq_true, decide_eq_true_eq] at h
  omega
theorem tl_SMALL : TL.tl SMALL = (List.range 26).map (· + 97) := by decide +kernel
theorem isSmall_iff (c : Nat) : isSmall c = true ↔ 97 ≤ c ∧ c ≤ 122 := by
  unfold isSmall
  rw [decide_eq_true_eq, tl_SMALL]
  simp only [List.mem_map, List.mem_range]
  constructor
  · rintro ⟨a, ha, rfl⟩; omega
  · rintro ⟨h1, h2⟩; exact ⟨c - 97, by omega, by omega⟩
theorem small_ok {c : Nat} (h : isSmall c = true) : c < 1114112 := by
  have := (isSmall_iff c).mp h
  omega
def smallAt (n : Int) : Nat := (TL.tl SMALL).getD n.toNat 0
theorem smallAt_at {n : Int} (h0 : 0 ≤ n) (h1 : n < 26) : atI (TL.tl SMALL) n = some (smallAt n) ∧ isSmall (smallAt n) = true := by
  have hl : n.toNat < (TL.tl SMALL).length := by rw [tl_SMALL]; simp; omega
  obtain ⟨m, rfl⟩ : ∃ m : Nat, n = (m : Int) := ⟨n.toNat, by omega⟩
  unfold smallAt
  rw [Int.toNat_natCast] at hl ⊢
  rw [List.getD_eq_getElem?_getD, List.getElem?_eq_getElem hl]
  refine ⟨atI_nat (List.getElem?_eq_getElem hl), ?_⟩
  unfold isSmall
  exact decide_eq_true (List.getElem_mem hl)
/-! ### _law_signs -/
abbrev s__law_signs : Stmt := topS 16
abbrev N__law_signs : List Str := ["_law_some"]
abbrev P__law_signs : List Str := []
theorem sc__law_signs : FnScope N__law_signs [] (defScope s__law_signs) := ⟨rfl, rfl, rfl, by decide +kernel, rfl, by decide +kernel, by decide +kernel⟩
def sp_signs : Sp := fun vs H Q _ => vs = [] ∧ Q (.str SIGNS) H
theorem ok_signs {f : Addr} {fd : FuncData} {k : Nat} (F : Fun K "_law_signs" "_law_signs" s__law_signs f fd) : FnOk P w K mg base CX0 (k + 1) f fd P__law_signs sp_signs := by
  refine F.ok sc__law_signs (fun vs H Q E h => ?_) (fun cdv A outer s H vs Q E hr h => ?_)
  · obtain ⟨rfl, _⟩ := h
    rfl
  · have nd := sc__law_signs.nd
    obtain ⟨rfl, q⟩ := h
    refine ⟨_, (pss_cons (ps_set (i := 0) nd rfl (.inl rfl) pe_str)
      (pss_one (ps_ret (pe_op op_add_str (pv 0) pe_str)))), ?_⟩
    exact ⟨.str SG1, rfl, SG1, SG2, rfl, rfl, Nat.le_of_lt (small1000 (by decide +kernel)), q⟩
/-! ### _law_letters -/
abbrev s__law_letters : Stmt := topS 17
abbrev N__law_letters : List Str := ["_law_number", "_law_size", "_law_j"]
abbrev P__law_letters : List Str := ["_law_number", "_law_size"]
theorem sc__law_letters : FnScope N__law_letters ["_law_number", "_law_size"] (defScope s__law_letters) := ⟨rfl, rfl, rfl, by decide +kernel, rfl, by decide +kernel, by decide +kernel⟩
def sp_letters : Sp := fun vs H Q _ => ∃ (n : Int) (m : Nat), vs = [.int n, .int (m : Int)] ∧ 0 ≤ n ∧ n < 2147483648 ∧ m ≤ 500 ∧ ∀ z : Str, z.length = m → (∀ c ∈ TL.tl z, isSmall c = true) → Tell H (.str z) Q
theorem ok_letters {f fN : Addr} {fd fdN : FuncData} (F : Fun K "_law_letters" "_law_letters" s__law_letters f fd) (T : Tx mg tk) (D__law_next : Def P w K mg base "_law_next" 1 fN fdN P__law_next sp_next) : FnOk P w K mg base CX0 2 f fd P__law_letters sp_letters := by
  refine F.ok sc__law_letters (fun vs H Q E h => ?_) (fun cdv A outer s H vs Q E hr h => ?_)
  · obtain ⟨n, m, rfl, _⟩ := h
    rfl
  · have nd := sc__law_letters.nd
    obtain ⟨n, m, rfl, h0, h1, hm, q⟩ := h
    refine ⟨_, (pss_one (ps_ret (pe_join pe_str (pe_lc (own := [("_law_j", 2)]) (g := gName 2) (by rfl) nd (pi_range1 (by rfl) T.n_range (pa_cons (pv 1) pa_nil)) (blkOk_by (N := N__law_letters) (sc := defScope s__law_letters) (by decide +kernel)) (fun _ _ _ _ _ => (pg_name (i := 2) nd rfl (Or.inl rfl))) (fun _ _ _ _ _ => pts_nil) (fun _ _ _ _ _ => (pe_ix ix_str pe_str (pe_op op_mod (pe_op op_fdiv (pe_def D__law_next (hr.mono (by decide)) (pa_cons (pv 0) (pa_cons (pv 2) pa_nil))) pe_int) pe_int) (fun _ _ => rfl))))))), ?_⟩
    refine ⟨⟨_, rfl⟩, .int m, rfl, m, rfl, by omega, by omega, fun D hD => lc_pure (n := m) (fun i => .int (0 + (i : Int))) (fun i => .str ⟨#[smallAt (nextN n (0 + (i : Int)) / 3 % 26)]⟩) walk_range (fun _ _ => trivial) hD (by rw [sizeLine_eq]; omega) (fun i H1 Q1 hi sm q1 => ?_) (fun H1 sm e => ?_)⟩
    · refine ⟨.int n, rfl, .int (0 + (i : Int)), rfl, n, 0 + (i : Int), rfl, h0, h1, by omega, by omega, fun H2 s2 => ?_⟩
      have hk := smallAt_at (n := nextN n (0 + (i : Int)) / 3 % 26) (Int.emod_nonneg _ (by decide)) (Int.emod_lt_of_pos _ (by decide))
      exact ⟨_, 3, rfl, rfl, ⟨by decide, by decide⟩, _, 26, rfl, rfl, (show (0 : Int) < 26 by decide), SMALL, _, _, rfl, rfl, Nat.le_of_lt (small1000 (by decide +kernel)), hk.1, q1 _ s2⟩
    · have e2 : (List.range m).map (fun i : Nat => V.str ⟨#[smallAt (nextN n (0 + (i : Int)) / 3 % 26)]⟩) = ((List.range m).map fun i : Nat => (⟨#[smallAt (nextN n (0 + (i : Int)) / 3 % 26)]⟩ : Str)).map V.str := by
        rw [List.map_map]; rfl
      rw [e2] at e
      have e3 : (((List.range m).map fun i : Nat => (⟨#[smallAt (nextN n (0 + (i : Int)) / 3 % 26)]⟩ : Str)).map TL.tl).flatten = (List.range m).map fun i : Nat => smallAt (nextN n (0 + (i : Int)) / 3 % 26) := by
        rw [List.map_map]
        generalize List.range m = l
        induction l with
        | nil => rfl
        | cons x r ih => rw [List.map_cons, List.flatten_cons, ih]; rfl
      have ej : TL.tl (Txt.join (Str.ofString "") ((List.range m).map fun i : Nat => (⟨#[smallAt (nextN n (0 + (i : Int)) / 3 % 26)]⟩ : Str))) = (List.range m).map fun i : Nat => smallAt (nextN n (0 + (i : Int)) / 3 % 26) := by
        rw [tl_join0, e3]
      refine ⟨Str.ofString "", D, _, rfl, rfl, .inl (.inl (.inl e)), ?_, ?_⟩
      · rw [sum_len, e3, List.length_map, List.length_range]
        show m + _ * 0 ≤ 16777216
        omega
      · refine q _ ?_ (fun c hc => ?_) _ sm
        · rw [TL.len_tl, ej, List.length_map, List.length_range]
        · rw [ej] at hc
          obtain ⟨i, _, rfl⟩ := List.mem_map.mp hc
          exact (smallAt_at (Int.emod_nonneg _ (by decide)) (Int.emod_lt_of_pos _ (by decide))).2
/-! ### _law_near_name -/
abbrev s__law_near_name : Stmt := topS 18
abbrev N__law_near_name : List Str := ["_law_number"]
abbrev P__law_near_name : List Str := ["_law_number"]
theorem sc__law_near_name : FnScope N__law_near_name ["_law_number"] (defScope s__law_near_name) := ⟨rfl, rfl, rfl, by decide +kernel, rfl, by decide +kernel, by decide +kernel⟩
/-- a text of at most L signs -/
def sp_text (L : Nat) : Sp := fun vs H Q _ => ∃ (n : Int), vs = [.int n] ∧ 0 ≤ n ∧ n < 2147483648 ∧ ∀ z : Str, z.length ≤ L → OkS z → Tell H (.str z) Q
theorem ok_near_name {f fN : Addr} {fd fdN : FuncData} (F : Fun K "_law_near_name" "_law_near_name" s__law_near_name f fd) (D__law_letters : Def P w K mg base "_law_letters" 2 fN fdN P__law_letters sp_letters) : FnOk P w K mg base CX0 3 f fd P__law_near_name (sp_text 100) := by
  refine F.ok sc__law_near_name (fun vs H Q E h => ?_) (fun cdv A outer s H vs Q E hr h => ?_)
  · obtain ⟨n, rfl, _⟩ := h
    rfl
  · have nd := sc__law_near_name.nd
    obtain ⟨n, rfl, h0, h1, q⟩ := h
    refine ⟨_, (pss_one (ps_ret (pe_def D__law_letters (hr.mono (by decide)) (pa_cons (pe_op op_fdiv (pv 0) pe_int) (pa_cons (pe_op op_mod (pv 0) pe_int) pa_nil))))), ?_⟩
    have hm : 0 ≤ n % 14 ∧ n % 14 < 14 := ⟨Int.emod_nonneg _ (by decide), Int.emod_lt_of_pos _ (by decide)⟩
    refine ⟨.int n, rfl, n, 14, rfl, rfl, ⟨by decide, by decide⟩, .int n, rfl, n, 14, rfl, rfl, (show (0 : Int) < 14 by decide), n / 14, (n % 14).toNat, ?_, by omega, by omega, by omega, fun z hz hs => q z (by omega) fun c hc => small_ok (hs c hc)⟩
    rw [Int.toNat_of_nonneg hm.1]
    rfl
/-! ### _law_near_header -/
abbrev s__law_near_header : Stmt := topS 19
abbrev N__law_near_header : List Str := ["_law_number", "_law_words", "_law_k", "_law_more"]
abbrev P__law_near_header : List Str := ["_law_number"]
theorem sc__law_near_header : FnScope N__law_near_header ["_law_number"] (defScope s__law_near_header) := ⟨rfl, rfl, rfl, by decide +kernel, rfl, by decide +kernel, by decide +kernel⟩
theorem pick9 (a : Int) (h : 1 ≤ a ∧ a ≤ 8) : ∀ m : Int, 0 ≤ m → m < 9 → ∃ z : Nat, atI [V.int a, .int 8, .int 0, .int 9, .int 8, .int 1, .int 3, .int 5, .int 7] m = some (.int z) ∧ z ≤ 9 := by
  intro m h0 h1
  have : m = 0 ∨ m = 1 ∨ m = 2 ∨ m = 3 ∨ m = 4 ∨ m = 5 ∨ m = 6 ∨ m = 7 ∨ m = 8 := by omega
  rcases this with rfl | rfl | rfl | rfl | rfl | rfl | rfl | rfl | rfl
  · refine ⟨a.toNat, ?_, by omega⟩
    rw [Int.toNat_of_nonneg (by omega)]
    rfl
  · exact ⟨8, rfl, by decide⟩
  · exact ⟨0, rfl, by decide⟩
  · exact ⟨9, rfl, by decide⟩
  · exact ⟨8, rfl, by decide⟩
  · exact ⟨1, rfl, by decide⟩
  · exact ⟨3, rfl, by decide⟩
  · exact ⟨5, rfl, by decide⟩
  · exact ⟨7, rfl, by decide⟩
theorem ok_near_header {f fN fL : Addr} {fd fdN fdL : FuncData} (F : Fun K "_law_near_header" "_law_near_header" s__law_near_header f fd) (T : Tx mg tk) (D__law_next : Def P w K mg base "_law_next" 1 fN fdN P__law_next sp_next) (D__law_letters : Def P w K mg base "_law_letters" 2 fL fdL P__law_letters sp_letters) : FnOk P w K mg base CX0 3 f fd P__law_near_header (sp_text 100) := by
  refine F.ok sc__law_near_header (fun vs H Q E h => ?_) (fun cdv A outer s H vs Q E hr h => ?_)
  · obtain ⟨n, rfl, _⟩ := h
    rfl
  · have nd := sc__law_near_header.nd
    obtain ⟨n, rfl, h0, h1, q⟩ := h
    refine ⟨_, (pss_cons (ps_set (i := 1) nd rfl (.inl rfl) (pe_lst pa_nil))
      (pss_cons (ps_for PassesOwn.never rfl (pi_range1 (by rfl) T.n_range (pa_cons (pe_op op_add pe_int (pe_op op_mod (pv 0) pe_int)) pa_nil)) (pg_name (i := 2) nd rfl (Or.inl rfl))
        (pss_cons (ps_set (i := 3) nd rfl (.inl rfl) (pe_def D__law_next (hr.mono (by decide)) (pa_cons (pv 0) (pa_cons (pv 2) pa_nil))))
        (pss_one (ps_expr (pe_bm PySem.F.plainAttrs_list PySem.F.slot_list_append PySem.F.type_list_append mt_append (pv 1) (pa_cons (pe_def D__law_letters (hr.mono (by decide)) (pa_cons (pv 3) (pa_cons (pe_ix (ixL K) (pe_lst (pa_cons (pe_op op_add pe_int (pe_op op_mod (pe_op op_fdiv (pv 3) pe_int) pe_int)) (pa_cons pe_int (pa_cons pe_int (pa_cons pe_int (pa_cons pe_int (pa_cons pe_int (pa_cons pe_int (pa_cons pe_int (pa_cons pe_int pa_nil)))))))))) (pe_op op_mod (pv 3) pe_int) (fun _ _ => rfl)) pa_nil))) pa_nil))))))
      (pss_one (ps_ret (pe_join pe_str (pv 1)))))), ?_⟩
    have hm : 0 ≤ n % 4 ∧ n % 4 < 4 := ⟨Int.emod_nonneg _ (by decide), Int.emod_lt_of_pos _ (by decide)⟩
    refine ⟨Nat.zero_le _, fun o no => ?_⟩
    refine ⟨.int n, rfl, n, 4, rfl, rfl, (show (0 : Int) < 4 by decide), 1, _, rfl, rfl, 1 + n % 4, rfl, by omega, by omega, for_it walk_range (fun i σ H' => ∃ (y2 y3 : Option V) (ws : List Str), σ = [some (.int n), some (.ref o), y2, y3] ∧ Same H H' ∧ H' o = some (.lst (ws.map V.str)) ∧ ws.length ≤ i ∧ ∀ x ∈ ws, x.length ≤ 9 ∧ OkS x)
      ⟨none, none, [], rfl, same_upd no, upd_same, Nat.le_refl _, (fun _ h => by cases h)⟩ (fun _ _ _ _ _ => trivial) (fun i x σ H' H'' hi hP hy => ?_) (fun σ H' hP => ?_)⟩
    · obtain ⟨y2, y3, ws, rfl, sm, eo, hl, hw⟩ := hP
      obtain ⟨rfl, rfl⟩ := hy
      refine ⟨.int n, rfl, _, rfl, n, 0 + (i : Int), rfl, h0, h1, by omega, by omega, fun H2 s2 => ?_⟩
      have hN := nextN_lt n (0 + (i : Int))
      generalize nextN n (0 + (i : Int)) = R at hN
      have hr9 : 0 ≤ R % 9 ∧ R % 9 < 9 := ⟨Int.emod_nonneg _ (by decide), Int.emod_lt_of_pos _ (by decide)⟩
      have hr8 : 0 ≤ R / 9 % 8 ∧ R / 9 % 8 < 8 := ⟨Int.emod_nonneg _ (by decide), Int.emod_lt_of_pos _ (by decide)⟩
      obtain ⟨z, ez, hz⟩ := pick9 (1 + R / 9 % 8) (by omega) (R % 9) hr9.1 hr9.2
      have eo2 := s2 _ _ eo
      refine ⟨.ref o, rfl, .inl ⟨rfl, _, .inl (.inl eo2)⟩, .int R, rfl, .int R, rfl, R, 9, rfl, rfl, ⟨by decide, by decide⟩, _, 8, rfl, rfl, (show (0 : Int) < 8 by decide), 1, _, rfl, rfl, Nat.le_of_lt (small1000 (show 9 ≤ 1000 by decide)), fun p np => ?_⟩
      have sp := same_upd (o := .lst [V.int (1 + R / 9 % 8), .int 8, .int 0, .int 9, .int 8, .int 1, .int 3, .int 5, .int 7]) np
      refine ⟨.int R, rfl, R, 9, rfl, rfl, (show (0 : Int) < 9 by decide), p, _, _, .int z, rfl, rfl, .inl (.inl upd_same), ez, R, z, rfl, by omega, by omega, by omega, fun t ht hs H3 s3 => ?_⟩
      have eo3 := s3 _ _ (sp _ _ eo2)
      refine ⟨o, _, _, rfl, rfl, eo3, ?_, ?_⟩
      · rw [List.length_map]; exact small1000 (by omega)
      · refine ⟨_, _, ws ++ [t], rfl, fun b x e => ?_, ?_, by rw [List.length_append, List.length_singleton]; omega, fun x hx => ?_⟩
        · rw [upd_ne (ne_of_none e no)]
          exact s3 _ _ (sp _ _ (s2 _ _ (sm _ _ e)))
        · rw [upd_same, List.map_append]
          rfl
        · rcases List.mem_append.mp hx with h | h
          · exact hw x h
          · rw [List.mem_singleton.mp h]
            exact ⟨by omega, fun c hc => small_ok (hs c hc)⟩
    · obtain ⟨y2, y3, ws, rfl, sm, eo, hl, hw⟩ := hP
      have hb := join_len_le (sep := Str.ofString "-") (n := 4) (fun x hx => (hw x hx).1) (by omega)
      have hb2 : 4 * (9 + (Str.ofString "-").length) = 40 := by decide +kernel
      refine ⟨⟨_, rfl⟩, .ref o, rfl, Str.ofString "-", o, ws, rfl, rfl, .inl (.inl (.inl eo)), by omega, q _ ?_ ?_ _ sm⟩
      · have := joined_len (Str.ofString "-") ws
        omega
      · exact okS_join (fun c hc => by rw [show TL.tl (Str.ofString "-") = [45] by decide +kernel] at hc; rw [List.mem_singleton.mp hc]; decide) fun x hx => (hw x hx).2
/-! ### _law_near_value -/
abbrev s__law_near_value : Stmt := topS 20
abbrev N__law_near_value : List Str := ["_law_number", "_law_signs_here", "_law_text", "_law_k", "_law_more"]
abbrev P__law_near_value : List Str := ["_law_number"]
theorem sc__law_near_value : FnScope N__law_near_value ["_law_number"] (defScope s__law_near_value) := ⟨rfl, rfl, rfl, by decide +kernel, rfl, by decide +kernel, by decide +kernel⟩
theorem ok_near_value {f fN fS : Addr} {fd fdN fdS : FuncData} (F : Fun K "_law_near_value" "_law_near_value" s__law_near_value f fd) (T : Tx mg tk) (D__law_next : Def P w K mg base "_law_next" 1 fN fdN P__law_next sp_next) (D__law_signs : Def P w K mg base "_law_signs" 1 fS fdS P__law_signs sp_signs) : FnOk P w K mg base CX0 2 f fd P__law_near_value (sp_text 100) := by
  refine F.ok sc__law_near_value (fun vs H Q E h => ?_) (fun cdv A outer s H vs Q E hr h => ?_)
  · obtain ⟨n, rfl, _⟩ := h
    rfl
  · have nd := sc__law_near_value.nd
    obtain ⟨n, rfl, h0, h1, q⟩ := h
    refine ⟨_, (pss_cons (ps_set (i := 1) nd rfl (.inl rfl) (pe_def0 D__law_signs (hr.mono (by decide))))
      (pss_cons (ps_set (i := 2) nd rfl (.inl rfl) pe_str)
      (pss_cons (ps_for PassesOwn.never rfl (pi_range1 (by rfl) T.n_range (pa_cons (pe_op op_mod (pv 0) pe_int) pa_nil)) (pg_name (i := 3) nd rfl (Or.inl rfl))
        (pss_cons (ps_set (i := 4) nd rfl (.inl rfl) (pe_def D__law_next (hr.mono (by decide)) (pa_cons (pv 0) (pa_cons (pv 3) pa_nil))))
        (pss_one (ps_set (i := 2) nd rfl (.inl rfl) (pe_op op_add_str (pv 2) (pe_ix (ixL K) (pe_lst (pa_cons (pe_ix ix_str (pv 1) (pe_op op_add pe_int (pe_op op_mod (pe_op op_fdiv (pv 4) pe_int) pe_int)) (fun _ _ => rfl)) (pa_cons pe_str pa_nil))) (pe_callTy call_int1 (by rfl) T.n_int (by decide +kernel) (pa_cons (pe_cmpR op_eq (pe_op op_mod (pv 4) pe_int) pe_int (nomark _)) pa_nil)) (fun _ _ => rfl)))))))
      (pss_one (ps_ret (pv 2)))))), ?_⟩
    have hm : 0 ≤ n % 9 ∧ n % 9 < 9 := ⟨Int.emod_nonneg _ (by decide), Int.emod_lt_of_pos _ (by decide)⟩
    refine ⟨rfl, .int n, rfl, n, 9, rfl, rfl, (show (0 : Int) < 9 by decide), n % 9, rfl, by omega, by omega, for_it walk_range (fun i σ H' => ∃ (y3 y4 : Option V) (z : Str), σ = [some (.int n), some (.str SIGNS), some (.str z), y3, y4] ∧ Same H H' ∧ z.length ≤ i ∧ OkS z)
      ⟨none, none, Str.ofString "", rfl, Same.refl _, by decide +kernel, fun c hc => by rw [tl_empty] at hc; cases hc⟩ (fun _ _ _ _ _ => trivial) (fun i x σ H' H'' hi hP hy => ?_) (fun σ H' hP => ?_)⟩
    · obtain ⟨y3, y4, z, rfl, sm, hz, hs⟩ := hP
      obtain ⟨rfl, rfl⟩ := hy
      refine ⟨.int n, rfl, _, rfl, n, 0 + (i : Int), rfl, h0, h1, by omega, by omega, fun H2 s2 => ?_⟩
      have hN := nextN_lt n (0 + (i : Int))
      generalize nextN n (0 + (i : Int)) = R at hN
      have hr7 : 0 ≤ R % 7 ∧ R % 7 < 7 := ⟨Int.emod_nonneg _ (by decide), Int.emod_lt_of_pos _ (by decide)⟩
      have hr93 : 0 ≤ R / 7 % 93 ∧ R / 7 % 93 < 93 := ⟨Int.emod_nonneg _ (by decide), Int.emod_lt_of_pos _ (by decide)⟩
      obtain ⟨m, em⟩ : ∃ m : Nat, 1 + R / 7 % 93 = (m : Int) := ⟨(1 + R / 7 % 93).toNat, by omega⟩
      have hml : m < (TL.tl SIGNS).length := by rw [← TL.len_tl, SIGNS_len]; omega
      have hc : OkS ⟨#[(TL.tl SIGNS)[m]]⟩ := okS_one (sign_ok (by rw [← in_SIGNS]; exact decide_eq_true (List.getElem_mem hml)))
      refine ⟨.str z, rfl, .str SIGNS, rfl, .int R, rfl, R, 7, rfl, rfl, ⟨by decide, by decide⟩, _, 93, rfl, rfl, (show (0 : Int) < 93 by decide), 1, _, rfl, rfl, SIGNS, _, _, rfl, rfl, by rw [SIGNS_len]; exact Nat.le_of_lt (small1000 (by decide)), lat_of em (List.getElem?_eq_getElem hml), Nat.le_of_lt (small1000 (show 2 ≤ 1000 by decide)), fun p np => ?_⟩
      have sp := same_upd (o := .lst [V.str ⟨#[(TL.tl SIGNS)[m]]⟩, .str (Str.ofString " ")]) np
      have key : ∀ b : Bool, ∃ t : Str, atI [V.str ⟨#[(TL.tl SIGNS)[m]]⟩, .str (Str.ofString " ")] (if b then 1 else 0) = some (.str t) ∧ t.length = 1 ∧ OkS t := fun b => by
        cases b with
        | false => exact ⟨_, rfl, rfl, hc⟩
        | true => exact ⟨_, rfl, by decide +kernel, fun c hc => by rw [show TL.tl (Str.ofString " ") = [32] by decide +kernel] at hc; rw [List.mem_singleton.mp hc]; decide⟩
      obtain ⟨t, et, ht, hts⟩ := key (decide (V.int (R % 7) = V.int 0))
      refine ⟨.int R, rfl, R, 7, rfl, rfl, (show (0 : Int) < 7 by decide), rfl, .inr ⟨_, rfl, p, _, _, .str t, rfl, rfl, .inl (.inl upd_same), et, z, t, rfl, rfl, by rw [sizeLine_eq]; omega, _, _, z ++ t, rfl, sm.trans (s2.trans sp), by rw [len_app]; omega, okS_app hs hts⟩⟩
    · obtain ⟨y3, y4, z, rfl, sm, hz, hs⟩ := hP
      exact ⟨.str z, rfl, q z (by omega) hs _ sm⟩
/-! ### _law_bent -/
abbrev s__law_bent : Stmt := topS 21
abbrev N__law_bent : List Str := ["_law_text", "_law_number", "_law_more", "_law_sign", "_law_at"]
abbrev P__law_bent : List Str := ["_law_text", "_law_number"]
theorem sc__law_bent : FnScope N__law_bent ["_law_text", "_law_number"] (defScope s__law_bent) := ⟨rfl, rfl, rfl, by decide +kernel, rfl, by decide +kernel, by decide +kernel⟩
def sp_bent : Sp := fun vs H Q _ => ∃ (z : Str) (n : Int), vs = [.str z, .int n] ∧ z.length ≤ 100 ∧ OkS z ∧ 0 ≤ n ∧ n < 2147483648 ∧ ∀ z : Str, z.length ≤ 101 → OkS z → Tell H (.str z) Q
theorem ok_bent {f fS : Addr} {fd fdS : FuncData} (F : Fun K "_law_bent" "_law_bent" s__law_bent f fd) (T : Tx mg tk) (D__law_signs : Def P w K mg base "_law_signs" 1 fS fdS P__law_signs sp_signs) : FnOk P w K mg base CX0 2 f fd P__law_bent sp_bent := by
  refine F.ok sc__law_bent (fun vs H Q E h => ?_) (fun cdv A outer s H vs Q E hr h => ?_)
  · obtain ⟨z, n, rfl, _⟩ := h
    rfl
  · have nd := sc__law_bent.nd
    obtain ⟨z, n, rfl, hz, hs, h0, h1, q⟩ := h
    refine ⟨_, (pss_cons (ps_if (pt_cmpR op_eq (pe_op op_mod (pv 1) pe_int) pe_int (nomark _))
        (pss_one (ps_ret (pv 0)))
        pss_nil)
      (pss_cons (ps_set (i := 2) nd rfl (.inl rfl) (pe_op op_fdiv (pv 1) pe_int))
      (pss_cons (ps_set (i := 3) nd rfl (.inl rfl) (pe_ix ix_str (pe_op op_add_str (pe_def0 D__law_signs (hr.mono (by decide))) pe_str) (pe_op op_mod (pv 2) pe_int) (fun _ _ => rfl)))
      (pss_cons (ps_set (i := 4) nd rfl (.inl rfl) (pe_op op_mod (pe_op op_fdiv (pv 2) pe_int) (pe_op op_add (pe_callB call_len_str (by rfl) T.n_len (by decide +kernel) (pa_cons (pv 0) pa_nil)) pe_int)))
      (pss_one (ps_ret (pe_op op_add_str (pe_op op_add_str (pe_slice sl_str (pv 0) po_none (po_some (pv 4))) (pv 3)) (pe_slice sl_str (pv 0) (po_some (pe_op op_add (pv 4) (pe_callTy call_int1 (by rfl) T.n_int (by decide +kernel) (pa_cons (pe_cmpR op_eq (pe_op op_mod (pv 1) pe_int) pe_int (nomark _)) pa_nil)))) po_none)))))))), ?_⟩
    refine ⟨.int n, rfl, n, 3, rfl, rfl, (show (0 : Int) < 3 by decide), rfl, _, rfl, ite2 (fun _ => ⟨.str z, rfl, q z (by omega) hs _ (Same.refl _)⟩) (fun _ => ?_)⟩
    have hm : 0 ≤ n / 3 % 96 ∧ n / 3 % 96 < 96 := ⟨Int.emod_nonneg _ (by decide), Int.emod_lt_of_pos _ (by decide)⟩
    obtain ⟨m, em⟩ : ∃ m : Nat, n / 3 % 96 = (m : Int) := ⟨(n / 3 % 96).toNat, by omega⟩
    have eS2 : TL.tl (SIGNS ++ Str.ofString "\t\n") = TL.tl SIGNS ++ [9, 10] := by rw [TL.tl_append]; congr 1 <;> decide +kernel
    have hS2 : (SIGNS ++ Str.ofString "\t\n").length = 96 := by rw [TL.len_tl, eS2, List.length_append, ← TL.len_tl, SIGNS_len]; rfl
    have hml : m < (TL.tl (SIGNS ++ Str.ofString "\t\n")).length := by rw [← TL.len_tl, hS2]; omega
    have hok : OkS (SIGNS ++ Str.ofString "\t\n") := fun c hc => by
      rw [eS2] at hc
      rcases List.mem_append.mp hc with h | h
      · exact sign_ok (by rw [← in_SIGNS]; exact decide_eq_true h)
      · have : c = 9 ∨ c = 10 := by simpa using h
        omega
    have hc : OkS ⟨#[(TL.tl (SIGNS ++ Str.ofString "\t\n"))[m]]⟩ := okS_one (hok _ (List.getElem_mem hml))
    refine ⟨.int n, rfl, n, 3, rfl, rfl, ⟨by decide, by decide⟩, rfl, SIGNS, Str.ofString "\t\n", rfl, rfl, by rw [SIGNS_len]; exact Nat.le_of_lt (small1000 (by decide +kernel)), .int (n / 3), rfl, _, 96, rfl, rfl, (show (0 : Int) < 96 by decide),
      SIGNS ++ Str.ofString "\t\n", _, _, rfl, rfl, by rw [hS2]; exact Nat.le_of_lt (small1000 (by decide)), lat_of em (List.getElem?_eq_getElem hml), ?_⟩
    generalize hch : (⟨#[(TL.tl (SIGNS ++ Str.ofString "\t\n"))[m]]⟩ : Str) = ch at hc
    have hchl : ch.length = 1 := by rw [← hch]; rfl
    have hzs : z.length ≤ sizeLine := by rw [sizeLine_eq]; omega
    refine ⟨.int (n / 3), rfl, _, 96, rfl, rfl, ⟨by decide, by decide⟩, .str z, rfl, z, rfl, hzs, _, 1, rfl, rfl, _, _, rfl, rfl, (show (0 : Int) < (z.length : Nat) + 1 by omega), ?_⟩
    have ha : 0 ≤ n / 3 / 96 % ((z.length : Nat) + 1) ∧ n / 3 / 96 % ((z.length : Nat) + 1) < (z.length : Nat) + 1 := ⟨Int.emod_nonneg _ (by omega), Int.emod_lt_of_pos _ (by omega)⟩
    obtain ⟨j, ej⟩ : ∃ j : Nat, n / 3 / 96 % ((z.length : Nat) + 1) = (j : Int) := ⟨(n / 3 / 96 % ((z.length : Nat) + 1)).toNat, by omega⟩
    refine ⟨.str z, rfl, .int (n / 3 / 96 % ((z.length : Nat) + 1)), rfl, (n / 3 / 96 % ((z.length : Nat) + 1)), rfl, z, rfl, hzs, .str ch, rfl, _, ch, rfl, rfl, ?_, ?_⟩
    · have := cutS_length z none (some (n / 3 / 96 % ((z.length : Nat) + 1)))
      rw [sizeLine_eq]; omega
    have l1 := cutS_length z none (some (n / 3 / 96 % ((z.length : Nat) + 1)))
    refine ⟨.str z, rfl, .int (n / 3 / 96 % ((z.length : Nat) + 1)), rfl, .int n, rfl, n, 3, rfl, rfl, (show (0 : Int) < 3 by decide), rfl, .inr ⟨_, rfl, (n / 3 / 96 % ((z.length : Nat) + 1)), _, rfl, rfl, _, rfl, z, rfl, hzs, _, _, rfl, rfl, ?_, ?_⟩⟩
    · refine Nat.le_trans (Nat.add_le_add_left (cutS_length _ _ _) _) ?_
      rw [len_app, sizeLine_eq]; omega
    · have e2 : (n / 3 / 96 % ((z.length : Nat) + 1)) + (if decide (V.int (n % 3) = V.int 1) = true then 1 else 0) = ((j + (if decide (V.int (n % 3) = V.int 1) = true then 1 else 0) : Nat) : Int) := by
        rw [ej]
        split <;> rfl
      refine q _ ?_ (okS_app (okS_app (okS_cut hs _ _) hc) (okS_cut hs _ _)) _ (Same.refl _)
      rw [len_app, len_app, hchl]
      have l2 : (cutS z none (some (n / 3 / 96 % ((z.length : Nat) + 1)))).length = min j z.length := by
        rw [ej, cutS_to, mk_len, List.length_take, ← TL.len_tl]
      have l3 : (cutS z (some ((n / 3 / 96 % ((z.length : Nat) + 1)) + (if decide (V.int (n % 3) = V.int 1) = true then 1 else 0))) none).length = z.length - (j + (if decide (V.int (n % 3) = V.int 1) = true then 1 else 0)) := by
        rw [e2, cutS_from, mk_len, List.length_drop, ← TL.len_tl]
      rw [l2]
      have l4 := l3
      generalize (cutS z (some ((n / 3 / 96 % ((z.length : Nat) + 1)) + (if decide (V.int (n % 3) = V.int 1) = true then 1 else 0))) none).length = L at l4
      have : L ≤ z.length - j := by rw [l4]; split <;> omega
      show min j z.length + 1 + L ≤ 101
      omega
end
end K02

namespace K02
open PySem PySem.Spec PyProof.Rows L2 LH
section
variable {P : Program} {w : World} {K : PySem.W.Frag} {mg : Str → Option Value} {base : Heap} {tk : Nat → Tok}
/-! ### _law_all -/
abbrev s__law_all : Stmt := topS 22
abbrev N__law_all : List Str := ["_law_text", "_law_signs_here", "_law_sign"]
abbrev P__law_all : List Str := ["_law_text", "_law_signs_here"]
theorem sc__law_all : FnScope N__law_all ["_law_text", "_law_signs_here"] (defScope s__law_all) := ⟨rfl, rfl, rfl, by decide +kernel, rfl, by decide +kernel, by decide +kernel⟩
def allIn (l m : List Nat) : Bool := l.all fun c => decide (c ∈ m)
def sp_all : Sp := fun vs H Q _ => ∃ (z y : Str), vs = [.str z, .str y] ∧ z.length ≤ 100000 ∧ OkS z ∧ Tell H (.bl (allIn (TL.tl z) (TL.tl y))) Q
theorem filt_nil (l m : List Nat) : decide (((List.range l.length).filter fun i => !decide (l.getD i 0 ∈ m)).map (fun i => (⟨#[l.getD i 0]⟩ : Str)) = []) = allIn l m := by
  unfold allIn
  rw [← lall_range l 0, Bool.eq_iff_iff]
  rw [decide_eq_true_eq, List.map_eq_nil_iff, List.filter_eq_nil_iff, List.all_map, List.all_eq_true]
  simp
theorem ok_all {f : Addr} {fd : FuncData} {k : Nat} (F : Fun K "_law_all" "_law_all" s__law_all f fd) : FnOk P w K mg base CX0 (k + 1) f fd P__law_all sp_all := by
  refine F.ok sc__law_all (fun vs H Q E h => ?_) (fun cdv A outer s H vs Q E hr h => ?_)
  · obtain ⟨z, y, rfl, _⟩ := h
    rfl
  · have nd := sc__law_all.nd
    obtain ⟨z, y, rfl, hz, hs, q⟩ := h
    refine ⟨_, (pss_one (ps_ret (pe_cmpR (oEqD K hr.units) (pe_lc (own := [("_law_sign", 2)]) (g := gName 2) (by rfl) nd (pi_str (pv 0)) (blkOk_by (N := N__law_all) (sc := defScope s__law_all) (by decide +kernel)) (fun _ _ _ _ _ => (pg_name (i := 2) nd rfl (Or.inl rfl))) (fun _ _ _ _ _ => (pts_one (pt_cmpR op_notIn_sign (pv 2) (pv 1) rfl))) (fun _ _ _ _ _ => (pv 2))) (pe_lst pa_nil) (nomark _)))), ?_⟩
    have hzl : z.length = (TL.tl z).length := TL.len_tl z
    refine ⟨.str z, rfl, z, rfl, fun D hD => lc_filt (fun i => .str ⟨#[(TL.tl z).getD i 0]⟩) (fun i => .str ⟨#[(TL.tl z).getD i 0]⟩) (fun i => !decide ((TL.tl z).getD i 0 ∈ TL.tl y)) walk_strF (fun _ _ => trivial) hD (by rw [← hzl, sizeLine_eq]; omega) (fun i H1 Q1 hi sm q1 => ?_) (fun i H1 Q1 hi sm _ q1 => ?_) (fun H1 sm e => ?_)⟩
    · exact ⟨.str ⟨#[(TL.tl z).getD i 0]⟩, rfl, .str y, rfl, (TL.tl z).getD i 0, y, rfl, rfl, _, rfl, q1 _ (Same.refl _)⟩
    · exact ⟨.str ⟨#[(TL.tl z).getD i 0]⟩, rfl, q1 _ (Same.refl _)⟩
    · refine ⟨Nat.zero_le _, fun p np => ?_⟩
      have s1 := same_upd (o := .lst []) np
      have em : (((List.range (TL.tl z).length).filter fun i => !decide ((TL.tl z).getD i 0 ∈ TL.tl y)).map fun i => V.str ⟨#[(TL.tl z).getD i 0]⟩) = (((List.range (TL.tl z).length).filter fun i => !decide ((TL.tl z).getD i 0 ∈ TL.tl y)).map fun i => (⟨#[(TL.tl z).getD i 0]⟩ : Str)).map V.str := by
        rw [List.map_map]; rfl
      rw [em] at e
      refine ⟨_, .list (([] : List Str).map PyData.str), dp_strs (.inl (.inl (s1 _ _ e))), dp_strs (.inl (.inl upd_same)), shaped_strs _ (fun x hx => ?_), shaped_strs [] (fun _ h => by cases h), ?_⟩
      · obtain ⟨i, hi, rfl⟩ := List.mem_map.mp hx
        have hi2 : i < (TL.tl z).length := List.mem_range.mp (List.mem_filter.mp hi).1
        refine okS_one (hs _ ?_)
        rw [List.getD_eq_getElem?_getD, List.getElem?_eq_getElem hi2]
        exact List.getElem_mem hi2
      · rw [eqv_strsL, filt_nil]
        exact q _ (sm.trans s1)
/-! ### _law_right -/
abbrev s__law_right : Stmt := topS 23
abbrev N__law_right : List Str := ["_law_text", "_law_small", "_law_words", "_law_wrong", "_law_is_header", "_law_blanks", "_law_word"]
abbrev P__law_right : List Str := ["_law_text"]
theorem sc__law_right : FnScope N__law_right ["_law_text"] (defScope s__law_right) := ⟨rfl, rfl, rfl, by decide +kernel, rfl, by decide +kernel, by decide +kernel⟩
def three (l : List Nat) : List Bool := [smallW l 12, isHN l, isVal l]
theorem law_name (l : List Nat) (m : Nat) : (decide (0 < (l.length : Int)) && (decide ((l.length : Int) < (m : Int) + 1) && allIn l (TL.tl SMALL))) = smallW l m := by
  unfold smallW allIn
  rw [Bool.and_assoc]
  congr 1
  · exact decide_eq_decide.mpr (by omega)
  · congr 1
    exact decide_eq_decide.mpr (by omega)
theorem law_val (l : List Nat) : (allIn l (TL.tl SIGNS) && !(decide (l.take 1 = [32]) || (decide (l.drop (l.length - 1) = [32]) || dbl 32 l))) = isVal l := by
  unfold allIn isVal
  have e : (l.all fun c => decide (c ∈ TL.tl SIGNS)) = l.all isSign := by
    congr 1
    funext c
    exact in_SIGNS c
  rw [e]
  by_cases h0 : l = []
  · subst h0
    rfl
  · rw [blanks_iff 32 l h0, decide_eq_false h0]
    rfl
theorem filtW_nil (ws : List Str) (g : List Nat → Bool) : decide ((((List.range ws.length).filter fun i => !g (TL.tl (ws.getD i Str.empty))).map fun i => ws.getD i Str.empty) = []) = ws.all fun x => g (TL.tl x) := by
  rw [← lall_range ws Str.empty, Bool.eq_iff_iff]
  rw [decide_eq_true_eq, List.map_eq_nil_iff, List.filter_eq_nil_iff, List.all_map, List.all_eq_true]
  simp
def sp_right : Sp := fun vs H Q _ => ∃ (z : Str), vs = [.str z] ∧ z.length ≤ 1000 ∧ OkS z ∧ New H ((three (TL.tl z)).map V.bl) Q
theorem ok_right {f fA fS : Addr} {fd fdA fdS : FuncData} (F : Fun K "_law_right" "_law_right" s__law_right f fd) (T : Tx mg tk) (D__law_all : Def P w K mg base "_law_all" 1 fA fdA P__law_all sp_all) (D__law_signs : Def P w K mg base "_law_signs" 1 fS fdS P__law_signs sp_signs) : FnOk P w K mg base CX0 2 f fd P__law_right sp_right := by
  refine F.ok sc__law_right (fun vs H Q E h => ?_) (fun cdv A outer s H vs Q E hr h => ?_)
  · obtain ⟨z, rfl, _⟩ := h
    rfl
  · have nd := sc__law_right.nd
    obtain ⟨z, rfl, hz, hs, q⟩ := h
    refine ⟨_, (pss_cons (ps_set (i := 1) nd rfl (.inr rfl) pe_str)
      (pss_cons (ps_set (i := 2) nd rfl (.inl rfl) (pe_split (pv 0) pe_str))
      (pss_cons (ps_setLc (i := 3) (own := [("_law_word", 6)]) (g := gName 6) (by rfl) nd rfl rfl (sw_true rfl rfl rfl (by decide +kernel)) (pi_list (pv 2)) (blkOk_by (N := N__law_right) (sc := defScope s__law_right) (by decide +kernel)) (fun _ _ _ _ _ => (pg_name (i := 6) nd rfl (Or.inl rfl))) (fun _ _ _ _ _ => (pts_one (PW.pt (pw_or (pt_not (pt_chain op_lt op_lt pe_int (pe_callB call_len_str (by rfl) T.n_len (by decide +kernel) (pa_cons (pv 6) pa_nil)) pe_int)) (pw_or1 (pt_not (pt_val (pe_def D__law_all (hr.mono (by decide)) (pa_cons (pv 6) (pa_cons (pv 1) pa_nil)))))))))) (fun _ _ _ _ _ => (pv 6)))
      (pss_cons (ps_set (i := 4) nd rfl (.inl rfl) (pe_and (pe_cmpR op_lt (pe_callB (cLen K) (by rfl) T.n_len (by decide +kernel) (pa_cons (pv 2) pa_nil)) pe_int (nomark _)) (pe_one (pe_cmpR (oEqD K hr.units) (pv 3) (pe_lst pa_nil) (nomark _)))))
      (pss_cons (ps_set (i := 5) nd rfl (.inl rfl) (pe_or (pe_cmpR op_eq (pe_slice sl_str (pv 0) po_none (po_some pe_int)) pe_str (nomark _)) (pe_or (pe_cmpR op_eq (pe_slice sl_str (pv 0) (po_some (pe_un un_neg pe_int)) po_none) pe_str (nomark _)) (pe_one (pe_cmpR op_in_str pe_str (pv 0) (by rfl))))))
      (pss_one (ps_ret (pe_lst (pa_cons (pe_and (pe_chain op_lt op_lt pe_int (pe_callB call_len_str (by rfl) T.n_len (by decide +kernel) (pa_cons (pv 0) pa_nil)) pe_int) (pe_one (pe_def D__law_all (hr.mono (by decide)) (pa_cons (pv 0) (pa_cons (pv 1) pa_nil))))) (pa_cons (pv 4) (pa_cons (pe_and (pe_def D__law_all (hr.mono (by decide)) (pa_cons (pv 0) (pa_cons (pe_def0 D__law_signs (hr.mono (by decide))) pa_nil))) (pe_one (pe_not (pv 5)))) pa_nil))))))))))), ?_⟩
    have hzl : z.length = (TL.tl z).length := TL.len_tl z
    have hzs : z.length ≤ sizeLine := by rw [sizeLine_eq]; omega
    have hsp := split_tl (x := z) (y := Str.ofString "-") (s := 45) (by decide +kernel) (by decide)
    have hlw := splitL_len 45 (TL.tl z)
    refine ⟨.str z, rfl, ⟨_, rfl⟩, z, Str.ofString "-", rfl, rfl, by decide +kernel, by rw [sizeLine_eq]; omega, fun p np => ?_⟩
    have s1 := same_upd (o := .lst ((Txt.split z (Str.ofString "-")).map V.str)) np
    generalize Txt.split z (Str.ofString "-") = ws at *
    have hwl : ws.length = (splitL 45 (TL.tl z)).length := by rw [← hsp, List.length_map]
    have hm : (ws.map V.str).length = ws.length := List.length_map ..
    have hmem : ∀ x ∈ ws, TL.tl x ∈ splitL 45 (TL.tl z) := fun x hx => by rw [← hsp]; exact List.mem_map.mpr ⟨x, hx, rfl⟩
    have hwz : ∀ x ∈ ws, x.length ≤ 1000 ∧ OkS x := fun x hx => by
      refine ⟨?_, fun c hc => hs c (splitL_mem 45 _ _ (hmem x hx) c hc)⟩
      have := splitL_le 45 (TL.tl z) _ (hmem x hx)
      rw [TL.len_tl]; omega
    generalize hH1 : upd H p (.lst (ws.map V.str)) = H1 at *
    have e1 : H1 p = some (.lst (ws.map V.str)) := by rw [← hH1, upd_same]
    refine ⟨.ref p, rfl, p, rfl, ⟨_, .inl (.inl e1)⟩, fun D hD => lc_filt (fun i => (ws.map V.str).getD i .non) (fun i => .str (ws.getD i Str.empty)) (fun i => !smallW (TL.tl (ws.getD i Str.empty)) 8) walk_listF (fun H2 sm => sm.seq (.inl (.inl e1))) hD (by rw [hm, sizeLine_eq]; omega) (fun i H2 Q2 hi sm q2 => ?_) (fun i H2 Q2 hi sm _ q2 => ?_) (fun H2 sm e => ?_)⟩
    · rw [hm] at hi
      rw [getD_str ws i hi]
      have hxm : ws.getD i Str.empty ∈ ws := by
        rw [List.getD_eq_getElem?_getD, List.getElem?_eq_getElem hi]
        exact List.getElem_mem hi
      generalize ws.getD i Str.empty = x at *
      have hx := hwz x hxm
      have hxl : x.length = (TL.tl x).length := TL.len_tl x
      have e8 := law_name (TL.tl x) 8
      refine ⟨.str x, rfl, x, rfl, by rw [sizeLine_eq]; omega, 0, _, rfl, rfl, _, rfl, ?_⟩
      rw [hxl]
      by_cases h1 : (0 : Int) < (((TL.tl x).length : Nat) : Int)
      · rw [decide_eq_true h1] at e8 ⊢
        refine iteT ⟨_, 9, rfl, rfl, _, rfl, ?_⟩
        by_cases h2 : (((TL.tl x).length : Nat) : Int) < 9
        · rw [decide_eq_true (show (((TL.tl x).length : Nat) : Int) < ((8 : Nat) : Int) + 1 from h2)] at e8
          rw [decide_eq_true h2]
          refine iteF ⟨.str x, rfl, .str SMALL, rfl, x, SMALL, rfl, by omega, hx.2, fun H3 s3 => ⟨_, rfl, ?_⟩⟩
          have : allIn (TL.tl x) (TL.tl SMALL) = smallW (TL.tl x) 8 := e8
          rw [this]
          exact q2 _ s3
        · rw [decide_eq_false (show ¬ (((TL.tl x).length : Nat) : Int) < ((8 : Nat) : Int) + 1 from h2)] at e8
          rw [decide_eq_false h2]
          have : smallW (TL.tl x) 8 = false := e8.symm
          rw [this] at q2
          exact iteT (q2 _ (Same.refl _))
      · rw [decide_eq_false h1] at e8 ⊢
        have : smallW (TL.tl x) 8 = false := e8.symm
        rw [this] at q2
        exact iteF ⟨false, rfl, iteT (q2 _ (Same.refl _))⟩
    · rw [hm] at hi
      rw [getD_str ws i hi]
      exact ⟨.str (ws.getD i Str.empty), rfl, q2 _ (Same.refl _)⟩
    · rw [hm] at e
      have em : (((List.range ws.length).filter fun i => !smallW (TL.tl (ws.getD i Str.empty)) 8).map fun i => V.str (ws.getD i Str.empty)) = (((List.range ws.length).filter fun i => !smallW (TL.tl (ws.getD i Str.empty)) 8).map fun i => ws.getD i Str.empty).map V.str := by
        rw [List.map_map]; rfl
      rw [em] at e
      have efin := filtW_nil ws fun l => smallW l 8
      have hokw : ∀ x ∈ (((List.range ws.length).filter fun i => !smallW (TL.tl (ws.getD i Str.empty)) 8).map fun i => ws.getD i Str.empty), OkS x := fun x hx => by
        obtain ⟨i, hi, rfl⟩ := List.mem_map.mp hx
        have hi2 : i < ws.length := List.mem_range.mp (List.mem_filter.mp hi).1
        rw [List.getD_eq_getElem?_getD, List.getElem?_eq_getElem hi2]
        exact (hwz _ (List.getElem_mem hi2)).2
      generalize (((List.range ws.length).filter fun i => !smallW (TL.tl (ws.getD i Str.empty)) 8).map fun i => ws.getD i Str.empty) = bad at *
      have ehn : (decide ((ws.length : Int) < 4) && decide (bad = [])) = isHN (TL.tl z) := by
        unfold isHN
        rw [efin, ← hsp, List.length_map, List.all_map]
        congr 1
        exact decide_eq_decide.mpr (by omega)
      -- is_header
      dsimp only [gName, tSeq, tAsg, tRet]
      refine andV (decide ((ws.length : Int) < 4)) (decide (bad = [])) (fun Q' q' => ?_) (fun _ H3 Q' s3 q' => ?_) (fun H3 s3 => ?_)
      · refine ⟨.ref p, rfl, p, _, rfl, .inl (.inl (.inl (sm _ _ e1))), _, 4, rfl, rfl, ?_⟩
        rw [hm]
        exact q' _ (Same.refl _)
      · refine ⟨.ref D, rfl, Nat.zero_le _, fun p2 np2 => ?_⟩
        have s4 := same_upd (o := .lst []) np2
        refine ⟨_, .list (([] : List Str).map PyData.str), dp_strs (.inl (.inl (s4 _ _ (s3 _ _ e)))), dp_strs (.inl (.inl upd_same)), shaped_strs _ hokw, shaped_strs [] (fun _ h => by cases h), ?_⟩
        rw [eqv_strsL]
        exact q' _ s4
      rw [ehn]
      -- blanks
      refine orV (decide ((TL.tl z).take 1 = [32])) (decide ((TL.tl z).drop ((TL.tl z).length - 1) = [32]) || dbl 32 (TL.tl z)) (fun Q' q' => ?_) (fun _ H4 Q' s4 q' => ?_) (fun H4 s4 => ?_)
      · refine ⟨.str z, rfl, 1, rfl, z, rfl, hzs, rfl, ?_⟩
        have : decide (V.str (cutS z none (some 1)) = V.str (Str.ofString " ")) = decide ((TL.tl z).take 1 = [32]) := by
          refine decide_eq_decide.mpr ⟨fun h => ?_, fun h => ?_⟩
          · have := congrArg TL.tl (V.str.inj h)
            rw [show (1 : Int) = ((1 : Nat) : Int) from rfl, cutS_to] at this
            exact this.trans (by decide +kernel)
          · refine congrArg V.str (TL.ext_tl ?_)
            rw [show (1 : Int) = ((1 : Nat) : Int) from rfl, cutS_to]
            exact h.trans (by decide +kernel)
        rw [this]
        exact q' _ (Same.refl _)
      · refine orV (decide ((TL.tl z).drop ((TL.tl z).length - 1) = [32])) (dbl 32 (TL.tl z)) (fun Q' q' => ?_) (fun _ H5 Q' s5 q' => ?_) q'
        · refine ⟨.str z, rfl, 1, rfl, -1, rfl, z, rfl, hzs, rfl, ?_⟩
          have : decide (V.str (cutS z (some (-1)) none) = V.str (Str.ofString " ")) = decide ((TL.tl z).drop ((TL.tl z).length - 1) = [32]) := by
            refine decide_eq_decide.mpr ⟨fun h => ?_, fun h => ?_⟩
            · have := congrArg TL.tl (V.str.inj h)
              rw [cutS_last] at this
              exact this.trans (by decide +kernel)
            · refine congrArg V.str (TL.ext_tl ?_)
              rw [cutS_last]
              exact h.trans (by decide +kernel)
          rw [this]
          exact q' _ (Same.refl _)
        · refine ⟨.str z, rfl, Str.ofString "  ", z, rfl, rfl, ?_⟩
          rw [in_two (s := 32) (by decide +kernel)]
          exact q' _ (Same.refl _)
      -- the list
      have key : ∀ (m : Nat) (y : Str) (hy : y.length ≤ sizeLine), True := fun _ _ _ => trivial
      refine andV (decide (0 < (((TL.tl z).length : Nat) : Int)) && decide ((((TL.tl z).length : Nat) : Int) < ((12 : Nat) : Int) + 1)) (allIn (TL.tl z) (TL.tl SMALL)) (fun Q' q' => ?_) (fun _ H5 Q' s5 q' => ?_) (fun H5 s5 => ?_)
      · refine ⟨.str z, rfl, z, rfl, hzs, 0, _, rfl, rfl, _, rfl, ?_⟩
        rw [hzl]
        by_cases h1 : (0 : Int) < (((TL.tl z).length : Nat) : Int)
        · rw [decide_eq_true h1] at q' ⊢
          exact iteT ⟨_, 13, rfl, rfl, q' _ (Same.refl _)⟩
        · rw [decide_eq_false h1] at q' ⊢
          exact iteF (q' _ (Same.refl _))
      · exact ⟨.str z, rfl, .str SMALL, rfl, z, SMALL, rfl, by omega, hs, q'⟩
      rw [Bool.and_assoc, law_name]
      refine ⟨_, rfl, ?_⟩
      refine andV (allIn (TL.tl z) (TL.tl SIGNS)) (!(decide ((TL.tl z).take 1 = [32]) || (decide ((TL.tl z).drop ((TL.tl z).length - 1) = [32]) || dbl 32 (TL.tl z)))) (fun Q' q' => ?_) (fun _ H6 Q' s6 q' => ?_) (fun H6 s6 => ?_)
      · exact ⟨.str z, rfl, rfl, z, SIGNS, rfl, by omega, hs, q'⟩
      · exact ⟨_, rfl, _, rfl, q' _ (Same.refl _)⟩
      rw [law_val]
      refine ⟨Nat.le_of_lt (small1000 (show 3 ≤ 1000 by decide)), fun p3 np3 => ?_⟩
      have sAll : Same H H6 := s1.trans (sm.trans (s3.trans (s4.trans (s5.trans s6))))
      exact q _ p3 (sAll.trans (same_upd np3)) (sAll.free np3) upd_same
end
end K02

namespace K02
open PySem PySem.Spec PyProof.Rows L2 LH
section
variable {P : Program} {w : World} {K : PySem.W.Frag} {mg : Str → Option Value} {base : Heap} {tk : Nat → Tok}
/-! ### is_name -/
abbrev s_is_name : Stmt := topS 9
abbrev N_is_name : List Str := ["thing"]
abbrev P_is_name : List Str := ["thing"]
theorem sc_is_name : FnScope N_is_name ["thing"] (defScope s_is_name) := ⟨rfl, rfl, rfl, by decide +kernel, rfl, by decide +kernel, by decide +kernel⟩
def sp_name (K : PySem.W.Frag) : Sp := fun vs H Q _ => ∃ x : V, vs = [x] ∧ ((∃ z : Str, x = .str z ∧ z.length ≤ 100000 ∧ Tell H (.bl (smallW (TL.tl z) 12)) Q) ∨ (NoStr K H x ∧ Tell H (.bl false) Q))
theorem ok_name {f fS : Addr} {fd fdS : FuncData} (F : Fun K "is_name" "is_name" s_is_name f fd) (T : Tx mg tk) (D_is_small_word : Def P w K mg base "is_small_word" 1 fS fdS ["text", "most"] sp_small_word) : FnOk P w K mg base CX0 2 f fd ["thing"] (sp_name K) := by
  refine F.ok sc_is_name (fun vs H Q E h => ?_) (fun cdv A outer s H vs Q E hr h => ?_)
  · obtain ⟨x, rfl, _⟩ := h
    rfl
  · have nd := sc_is_name.nd
    obtain ⟨x, rfl, h⟩ := h
    refine ⟨_, (pss_one (ps_ret (pe_and (pe_callB (cIsi K) (by rfl) T.n_isinstance (by decide +kernel) (pa_cons (pv 0) (pa_cons (pe_bltn (v := .ty "str") (by rfl) T.n_str (by decide +kernel) rfl) pa_nil))) (pe_one (pe_def D_is_small_word (hr.mono (by decide)) (pa_cons (pv 0) (pa_cons (pe_glob (v := .int 12) (by rfl) T.m_NAME_LETTERS ⟨_, rfl⟩) pa_nil))))))), ?_⟩
    rcases h with ⟨z, rfl, hz, q⟩ | ⟨⟨t, ty, hk⟩, q⟩
    · exact ⟨.str z, rfl, .str z, .ty "str", _, _, true, rfl, .ty _, .base (.str z), kit_ty (by decide +kernel), true, rfl, iteT ⟨.str z, rfl, z, 12, rfl, hz, q⟩⟩
    · exact ⟨x, rfl, x, .ty "str", t, _, false, rfl, .ty _, ty, hk, false, rfl, iteF (q _ (Same.refl _))⟩
/-! ### _law_told -/
abbrev s__law_told : Stmt := topS 24
abbrev N__law_told : List Str := ["_law_thing"]
abbrev P__law_told : List Str := ["_law_thing"]
theorem sc__law_told : FnScope N__law_told ["_law_thing"] (defScope s__law_told) := ⟨rfl, rfl, rfl, by decide +kernel, rfl, by decide +kernel, by decide +kernel⟩
def sp_told : Sp := fun vs H Q _ => ∃ x : V, vs = [x] ∧ ((∃ z : Str, x = .str z ∧ z.length ≤ 1000 ∧ New H ((three (TL.tl z)).map V.bl) Q) ∨ (Odd H x ∧ New H ([false, false, false].map V.bl) Q))
theorem ok_told {f fN fH fV : Addr} {fd fdN fdH fdV : FuncData} (F : Fun K "_law_told" "_law_told" s__law_told f fd) (D_is_name : Def P w K mg base "is_name" 2 fN fdN ["thing"] (sp_name K)) (D_is_header_name : Def P w K mg base "is_header_name" 2 fH fdH ["thing"] (sp_header_name K)) (D_is_value : Def P w K mg base "is_value" 2 fV fdV ["thing"] (sp_value K)) : FnOk P w K mg base CX0 3 f fd P__law_told sp_told := by
  refine F.ok sc__law_told (fun vs H Q E h => ?_) (fun cdv A outer s H vs Q E hr h => ?_)
  · obtain ⟨x, rfl, _⟩ := h
    rfl
  · have nd := sc__law_told.nd
    obtain ⟨x, rfl, h⟩ := h
    refine ⟨_, (pss_one (ps_ret (pe_lst (pa_cons (pe_def D_is_name (hr.mono (by decide)) (pa_cons (pv 0) pa_nil)) (pa_cons (pe_def D_is_header_name (hr.mono (by decide)) (pa_cons (pv 0) pa_nil)) (pa_cons (pe_def D_is_value (hr.mono (by decide)) (pa_cons (pv 0) pa_nil)) pa_nil)))))), ?_⟩
    rcases h with ⟨z, rfl, hz, q⟩ | ⟨ho, q⟩
    · refine ⟨.str z, rfl, _, rfl, .inl ⟨z, rfl, by omega, fun H1 s1 => ⟨.str z, rfl, _, rfl, .inl ⟨z, rfl, by omega, fun H2 s2 => ⟨.str z, rfl, _, rfl, .inl ⟨z, rfl, by omega, fun H3 s3 => ⟨Nat.le_of_lt (small1000 (show 3 ≤ 1000 by decide)), fun p np => ?_⟩⟩⟩⟩⟩⟩⟩
      have sA := s1.trans (s2.trans s3)
      exact q _ p (sA.trans (same_upd np)) (sA.free np) upd_same
    · refine ⟨x, rfl, _, rfl, .inr ⟨ho.ty, fun H1 s1 => ⟨x, rfl, _, rfl, .inr ⟨(ho.same s1).ty, fun H2 s2 => ⟨x, rfl, _, rfl, .inr ⟨(ho.same (s1.trans s2)).ty, fun H3 s3 => ⟨Nat.le_of_lt (small1000 (show 3 ≤ 1000 by decide)), fun p np => ?_⟩⟩⟩⟩⟩⟩⟩
      have sA := s1.trans (s2.trans s3)
      exact q _ p (sA.trans (same_upd np)) (sA.free np) upd_same
/-! ### law -/
abbrev s_law : Stmt := topS 25
abbrev N_law : List Str := ["_law_script", "_law_odd", "_law_k", "_law_cell_here", "_law_number", "_law_more", "_law_text", "_law_told_here", "_law_one"]
abbrev P_law : List Str := ["_law_script"]
theorem sc_law : FnScope N_law ["_law_script"] (defScope s_law) := ⟨rfl, rfl, rfl, by decide +kernel, rfl, by decide +kernel, by decide +kernel⟩
def spLaw (K : PySem.W.Frag) : Sp := fun vs H Q _ => ∃ (a : Addr) (ns : List Int), vs = [.ref a] ∧ SqL K H a (ns.map V.int) ∧ ns.length ≤ 63 ∧ ∀ H', Q (.bl true) H'
theorem ok_law {f fM fC fN fA fB fV fT fR fX : Addr} {fd fdM fdC fdN fdA fdB fdV fdT fdR fdX : FuncData} (F : Fun K "law" "law" s_law f fd) (T : Tx mg tk)
    (D__law_mixed : Def P w K mg base "_law_mixed" 1 fM fdM P__law_mixed sp_mixed) (D__law_cell : Def P w K mg base "_law_cell" 1 fC fdC P__law_cell (sp_cell K)) (D__law_next : Def P w K mg base "_law_next" 1 fN fdN P__law_next sp_next)
    (D__law_near_name : Def P w K mg base "_law_near_name" 3 fA fdA P__law_near_name (sp_text 100)) (D__law_near_header : Def P w K mg base "_law_near_header" 3 fB fdB P__law_near_header (sp_text 100)) (D__law_near_value : Def P w K mg base "_law_near_value" 2 fV fdV P__law_near_value (sp_text 100))
    (D__law_bent : Def P w K mg base "_law_bent" 2 fX fdX P__law_bent sp_bent) (D__law_told : Def P w K mg base "_law_told" 3 fT fdT P__law_told sp_told) (D__law_right : Def P w K mg base "_law_right" 2 fR fdR P__law_right sp_right) :
    FnOk P w K mg base CX0 4 f fd ["_law_script"] (spLaw K) := by
  refine F.ok sc_law (fun vs H Q E h => ?_) (fun cdv A outer s H vs Q E hr h => ?_)
  · obtain ⟨a, ns, rfl, _⟩ := h
    rfl
  · have nd := sc_law.nd
    obtain ⟨a, ns, rfl, hS, hlen, q⟩ := h
    refine ⟨_, (pss_cons (ps_for PassesOwn.never rfl (pi_enum (by rfl) T.n_enumerate (pa_cons (pe_slice (slL K) (pv 0) po_none (po_some pe_int)) pa_nil)) (pg_tup rfl (pgs_cons (pg_name (i := 2) nd rfl (Or.inl rfl)) (pgs_cons (pg_name (i := 3) nd rfl (Or.inl rfl)) pgs_nil)))
        (pss_cons (ps_set (i := 4) nd rfl (.inl rfl) (pe_def D__law_mixed (hr.mono (by decide)) (pa_cons (pv 3) (pa_cons (pv 2) pa_nil))))
        (pss_cons (ps_set (i := 5) nd rfl (.inl rfl) (pe_op op_fdiv (pv 4) pe_int))
        (pss_cons (ps_set (i := 6) nd rfl (.inl rfl) (pe_ix (ixL K) (pe_lst (pa_cons (pe_def D__law_near_name (hr.mono (by decide)) (pa_cons (pv 5) pa_nil)) (pa_cons (pe_def D__law_near_header (hr.mono (by decide)) (pa_cons (pv 5) pa_nil)) (pa_cons (pe_def D__law_near_value (hr.mono (by decide)) (pa_cons (pv 5) pa_nil)) pa_nil)))) (pe_op op_mod (pv 4) pe_int) (fun _ _ => rfl)))
        (pss_cons (ps_set (i := 6) nd rfl (.inl rfl) (pe_def D__law_bent (hr.mono (by decide)) (pa_cons (pv 6) (pa_cons (pe_def D__law_next (hr.mono (by decide)) (pa_cons (pv 4) (pa_cons pe_int pa_nil))) pa_nil))))
        (pss_cons (ps_set (i := 7) nd rfl (.inl rfl) (pe_def D__law_told (hr.mono (by decide)) (pa_cons (pv 6) pa_nil)))
        (pss_one (ps_if (PW.pt (pw_or (pt_not (pt_val (pe_callB (cAll K) (by rfl) T.n_all (by decide +kernel) (pa_cons (pe_lc (own := [("_law_one", 8)]) (g := gName 8) (by rfl) nd (pi_list (pv 7)) (blkOk_by (N := N_law) (sc := defScope s_law) (by decide +kernel)) (fun _ _ _ _ _ => (pg_name (i := 8) nd rfl (Or.inl rfl))) (fun _ _ _ _ _ => pts_nil) (fun _ _ _ _ _ => (pe_callB (cIsi K) (by rfl) T.n_isinstance (by decide +kernel) (pa_cons (pv 8) (pa_cons (pe_bltn (v := .ty "bool") (by rfl) T.n_bool (by decide +kernel) rfl) pa_nil))))) pa_nil)))) (pw_or1 (pt_cmpR (oNeD K hr.units) (pv 7) (pe_def D__law_right (hr.mono (by decide)) (pa_cons (pv 6) pa_nil)) (nomark _)))))
          (pss_one (ps_ret pe_bl))
          pss_nil))))))))
      (pss_cons (ps_set (i := 1) nd rfl (.inl rfl) (pe_ix (ixL K) (pe_lst (pa_cons pe_non (pa_cons pe_int (pa_cons pe_bl (pa_cons (pe_lst (pa_cons pe_str pa_nil)) (pa_cons (pe_tup (pa_cons pe_str pa_nil)) (pa_cons pe_dnewK (pa_cons (pe_lst pa_nil) (pa_cons pe_int (pa_cons pe_bl (pa_cons (pe_disp (pps_cons pe_str pe_int pps_nil) (by rfl) (by rfl) (fun z => by cases z) (by decide)) pa_nil))))))))))) (pe_op op_mod (pe_def D__law_mixed (hr.mono (by decide)) (pa_cons (pe_def D__law_cell (hr.mono (by decide)) (pa_cons (pv 0) (pa_cons pe_int pa_nil))) (pa_cons pe_int pa_nil))) pe_int) (fun _ _ => rfl)))
      (pss_one (ps_ret (pe_and (pe_cmpR (oEqD K hr.units) (pe_def D__law_told (hr.mono (by decide)) (pa_cons pe_str pa_nil)) (pe_lst (pa_cons pe_bl (pa_cons pe_bl (pa_cons pe_bl pa_nil)))) (nomark _)) (pe_one (pe_cmpR (oEqD K hr.units) (pe_lc (own := [("_law_one", 8)]) (g := gName 8) (by rfl) nd (pi_list (pe_def D__law_told (hr.mono (by decide)) (pa_cons (pv 1) pa_nil))) (blkOk_by (N := N_law) (sc := defScope s_law) (by decide +kernel)) (fun _ _ _ _ _ => (pg_name (i := 8) nd rfl (Or.inl rfl))) (fun _ _ _ _ _ => pts_nil) (fun _ _ _ _ _ => (pe_cmpR op_isBl (pv 8) pe_bl (nomark _)))) (pe_op op_rep (pe_lst (pa_cons pe_bl pa_nil)) pe_int) (nomark _)))))))), ?_⟩
    refine ⟨.ref a, rfl, 63, rfl, a, _, rfl, hS, fun c nc => ?_⟩
    have s1 := same_upd (o := .lst (cutV (ns.map V.int) none (some 63))) nc
    have ecut : cutV (ns.map V.int) none (some 63) = ns.map V.int := by
      rw [show (63 : Int) = ((63 : Nat) : Int) from rfl, cutV_to, List.take_of_length_le (by rw [List.length_map]; exact hlen)]
    rw [ecut] at s1 ⊢
    refine ⟨c, ns.map V.int, rfl, .inl (.inl upd_same), for_it walk_enum (fun i σ H' => ∃ y1 y2 y3 y4 y5 y6 y7 y8, σ = [some (.ref a), y1, y2, y3, y4, y5, y6, y7, y8] ∧ Same (upd H c (.lst (ns.map V.int))) H')
      ⟨_, _, _, _, _, _, _, _, rfl, Same.refl _⟩ (fun i σ H' _ h => by obtain ⟨_, _, _, _, _, _, _, _, rfl, sm⟩ := h; exact .inl (.inl (sm _ _ upd_same))) (fun i x σ H' H'' hi hP hy => ?_) (fun σ H' hP => ?_)⟩
    · obtain ⟨y1, y2, y3, y4, y5, y6, y7, y8, rfl, sm⟩ := hP
      obtain ⟨U, x1, x2, rfl, nU, rfl, f1, f2⟩ := hy
      rw [List.length_map] at hi
      have f2 : (ns.map V.int)[i]? = some x2 := f2
      rw [List.getElem?_map, List.getElem?_eq_getElem hi] at f2
      obtain rfl := Option.some.inj f1
      obtain rfl := Option.some.inj f2
      have sU := same_upd (o := .tup [.int (i : Nat), .int ns[i]]) nU
      refine ⟨U, _, rfl, .inl (.inl upd_same), rfl, _, _, rfl, _, _, rfl, rfl, ?_⟩
      refine ⟨_, rfl, _, rfl, ns[i], (i : Int), rfl, by omega, by omega, fun H2 s2 => ?_⟩
      have hM := mixed_lt ns[i] (i : Int)
      generalize mixed ns[i] (i : Int) = M at hM
      have hm3 : 0 ≤ M % 3 ∧ M % 3 < 3 := ⟨Int.emod_nonneg _ (by decide), Int.emod_lt_of_pos _ (by decide)⟩
      refine ⟨.int M, rfl, M, 3, rfl, rfl, ⟨by decide, by decide⟩, ?_⟩
      refine ⟨.int (M / 3), rfl, M / 3, rfl, by omega, by omega, fun z1 l1 k1 H3 s3 => ⟨.int (M / 3), rfl, M / 3, rfl, by omega, by omega, fun z2 l2 k2 H4 s4 => ⟨.int (M / 3), rfl, M / 3, rfl, by omega, by omega, fun z3 l3 k3 H5 s5 => ⟨Nat.le_of_lt (small1000 (show 3 ≤ 1000 by decide)), fun p np => ?_⟩⟩⟩⟩
      have sp := same_upd (o := .lst [V.str z1, .str z2, .str z3]) np
      obtain ⟨x, hx, ex⟩ := pickL [V.str z1, .str z2, .str z3] (M % 3) hm3.1 hm3.2
      obtain ⟨z, rfl, hz, hk⟩ : ∃ z : Str, x = .str z ∧ z.length ≤ 100 ∧ OkS z := by
        simp only [List.mem_cons, List.mem_nil_iff, or_false] at hx
        rcases hx with rfl | rfl | rfl
        · exact ⟨z1, rfl, l1, k1⟩
        · exact ⟨z2, rfl, l2, k2⟩
        · exact ⟨z3, rfl, l3, k3⟩
      refine ⟨.int M, rfl, M, 3, rfl, rfl, (show (0 : Int) < 3 by decide), p, _, _, .str z, rfl, rfl, .inl (.inl upd_same), ex, ?_⟩
      have sA : Same (upd H c (.lst (ns.map V.int))) (upd H5 p (.lst [V.str z1, .str z2, .str z3])) := sm.trans (sU.trans (s2.trans (s3.trans (s4.trans (s5.trans sp)))))
      have hN := nextN_lt M 7
      refine ⟨.str z, rfl, .int M, rfl, M, 7, rfl, by omega, by omega, by decide, by decide, fun H6 s6 => ⟨z, _, rfl, hz, hk, hN.1, by omega, fun t lt kt H7 s7 => ?_⟩⟩
      refine ⟨.str t, rfl, _, rfl, .inl ⟨t, rfl, by omega, fun H8 r s8 nr e8 => ?_⟩⟩
      refine ⟨.ref r, rfl, r, rfl, ⟨_, .inl (.inl e8)⟩, fun D hD => lc_pure (n := ((three (TL.tl t)).map V.bl).length) (fun i => ((three (TL.tl t)).map V.bl).getD i .non) (fun i => .bl true) walk_listF (fun H1 sm => sm.seq (.inl (.inl e8))) hD (Nat.le_of_lt (small1000 (show 3 ≤ 1000 by decide))) (fun i H1 Q1 hi sm q1 => ?_) (fun H9 s9 e9 => ?_)⟩
      · have hi3 : i = 0 ∨ i = 1 ∨ i = 2 := by
          have : i < 3 := hi
          omega
        rcases hi3 with rfl | rfl | rfl
        · exact ⟨_, rfl, _, .ty "bool", _, _, true, rfl, .ty _, .base (.bl _), kit_ty (by decide +kernel), q1 _ (Same.refl _)⟩
        · exact ⟨_, rfl, _, .ty "bool", _, _, true, rfl, .ty _, .base (.bl _), kit_ty (by decide +kernel), q1 _ (Same.refl _)⟩
        · exact ⟨_, rfl, _, .ty "bool", _, _, true, rfl, .ty _, .base (.bl _), kit_ty (by decide +kernel), q1 _ (Same.refl _)⟩
      · refine ⟨D, [true, true, true], rfl, .inl (.inl (by rw [e9]; rfl)), true, rfl, iteF ?_⟩
        refine ⟨.ref r, rfl, .str t, rfl, t, rfl, by omega, kt, fun H10 r2 s10 nr2 e10 => ?_⟩
        refine ⟨_, _, dp_bls (.inl (.inl (s10 _ _ (s9 _ _ e8)))), dp_bls (.inl (.inl e10)), shaped_bls _, shaped_bls _, false, ?_, iteF ?_⟩
        · rw [eqv_blsL, decide_eq_true rfl]
          rfl
        · exact ⟨_, _, _, _, _, _, _, _, rfl, sA.trans (s6.trans (s7.trans (s8.trans (s9.trans s10))))⟩
    · obtain ⟨y1, y2, y3, y4, y5, y6, y7, y8, rfl, sm⟩ := hP
      have hS' : SqL K H' a (ns.map V.int) := sm.seq (s1.seq hS)
      refine ⟨Nat.le_of_lt (small1000 (show 1 ≤ 1000 by decide)), fun p1 np1 => ⟨Nat.le_of_lt (small1000 (show 1 ≤ 1000 by decide)), fun p2 np2 => fun p3 np3 => ⟨Nat.zero_le _, fun p4 np4 => fun p5 np5 => ⟨upd_same, [(Sum.inr (Str.ofString "a"), .int 1)], rfl, by decide, Nat.le_of_lt (small1000 (show 10 ≤ 1000 by decide)), fun p6 np6 => ?_⟩⟩⟩⟩
      have t1 := same_upd (o := .lst [V.str (Str.ofString "a")]) np1
      have t2 := same_upd (o := .tup [V.str (Str.ofString "a")]) np2
      have t3 := same_upd (o := .dK []) np3
      have t4 := same_upd (o := .lst []) np4
      have t5 := same_upd (o := .dK (mergeK [] [(Sum.inr (Str.ofString "a"), V.int 1)])) np5
      have e55 : ∀ (G : Hp) (o : HO) (u : HO), upd (upd G p5 o) p5 u = upd G p5 u := fun G o u => upd_upd
      rw [e55] at np6 ⊢
      have t6 := same_upd (o := .lst [.non, .int 5, .bl true, .ref p1, .ref p2, .ref p3, .ref p4, .int 0, .bl false, .ref p5]) np6
      have a1 := t6 _ _ (t5 _ _ (t4 _ _ (t3 _ _ (t2 p1 _ upd_same))))
      have a2 := t6 _ _ (t5 _ _ (t4 _ _ (t3 p2 _ upd_same)))
      have a3 := t6 _ _ (t5 _ _ (t4 p3 _ upd_same))
      have a4 := t6 _ _ (t5 p4 _ upd_same)
      have a5 := t6 p5 _ upd_same
      have sF := t1.trans (t2.trans (t3.trans (t4.trans (t5.trans t6))))
      generalize hF : upd _ p6 (.lst [V.non, .int 5, .bl true, .ref p1, .ref p2, .ref p3, .ref p4, .int 0, .bl false, .ref p5]) = HF at *
      have a6 : HF p6 = some (.lst [V.non, .int 5, .bl true, .ref p1, .ref p2, .ref p3, .ref p4, .int 0, .bl false, .ref p5]) := by rw [← hF, upd_same]
      refine ⟨.ref a, rfl, a, ns, 0, rfl, sF.seq hS', fun H2 s2 => ⟨_, 70, rfl, by decide, by decide, fun H3 s3 => ?_⟩⟩
      have hM := mixed_lt (ns.getD 0 0) 70
      generalize mixed (ns.getD 0 0) 70 = M at hM
      have hm : 0 ≤ M % 10 ∧ M % 10 < 10 := ⟨Int.emod_nonneg _ (by decide), Int.emod_lt_of_pos _ (by decide)⟩
      obtain ⟨x, hx, ex⟩ := pickL [V.non, .int 5, .bl true, .ref p1, .ref p2, .ref p3, .ref p4, .int 0, .bl false, .ref p5] (M % 10) hm.1 hm.2
      have ox : Odd HF x := by
        simp only [List.mem_cons, List.mem_nil_iff, or_false] at hx
        rcases hx with rfl | rfl | rfl | rfl | rfl | rfl | rfl | rfl | rfl | rfl
        · exact .inl rfl
        · exact .inr (.inl ⟨_, rfl⟩)
        · exact .inr (.inr (.inl ⟨_, rfl⟩))
        · exact .inr (.inr (.inr ⟨_, rfl, .inl ⟨_, a1⟩⟩))
        · exact .inr (.inr (.inr ⟨_, rfl, .inr (.inl ⟨_, a2⟩)⟩))
        · exact .inr (.inr (.inr ⟨_, rfl, .inr (.inr ⟨_, a3⟩)⟩))
        · exact .inr (.inr (.inr ⟨_, rfl, .inl ⟨_, a4⟩⟩))
        · exact .inr (.inl ⟨_, rfl⟩)
        · exact .inr (.inr (.inl ⟨_, rfl⟩))
        · exact .inr (.inr (.inr ⟨_, rfl, .inr (.inr ⟨_, a5⟩)⟩))
      refine ⟨M, 10, rfl, rfl, (show (0 : Int) < 10 by decide), p6, _, _, x, rfl, rfl, .inl (.inl (s3 _ _ (s2 _ _ a6))), ex, ?_⟩
      have ox3 := ox.same (s2.trans s3)
      dsimp only [tRet]
      refine andV true true (fun Q' q' => ?_) (fun _ H4 Q' s4 q' => ?_) (fun H4 _ => q H4)
      · refine ⟨_, rfl, .inl ⟨Str.ofString "", rfl, by decide +kernel, fun H4 r s4 nr e4 => ⟨Nat.le_of_lt (small1000 (show 3 ≤ 1000 by decide)), fun p np => ?_⟩⟩⟩
        have s5 := same_upd (o := .lst [V.bl false, .bl false, .bl true]) np
        have e3 : three (TL.tl (Str.ofString "")) = [false, false, true] := by rw [tl_empty]; decide +kernel
        rw [e3] at e4
        refine ⟨_, .list ([false, false, true].map PyData.bool), dp_bls (.inl (.inl (s5 _ _ e4))), dp_bls (.inl (.inl upd_same)), shaped_bls _, shaped_bls _, ?_⟩
        rw [eqv_blsL, decide_eq_true rfl]
        exact q' _ (s4.trans s5)
      · refine ⟨x, rfl, x, rfl, .inr ⟨ox3.same s4, fun H5 r s5 nr e5 => ?_⟩⟩
        refine ⟨r, rfl, ⟨_, .inl (.inl e5)⟩, fun D hD => lc_pure (n := 3) (fun i => ([false, false, false].map V.bl).getD i .non) (fun i => .bl true) (walk_listF (xs := [false, false, false].map V.bl)) (fun H6 sm => sm.seq (.inl (.inl e5))) hD (Nat.le_of_lt (small1000 (by decide))) (fun i H6 Q1 hi sm q1 => ?_) (fun H6 s6 e6 => ?_)⟩
        · have hi3 : i = 0 ∨ i = 1 ∨ i = 2 := by omega
          rcases hi3 with rfl | rfl | rfl
          · exact ⟨_, rfl, false, false, rfl, rfl, q1 _ (Same.refl _)⟩
          · exact ⟨_, rfl, false, false, rfl, rfl, q1 _ (Same.refl _)⟩
          · exact ⟨_, rfl, false, false, rfl, rfl, q1 _ (Same.refl _)⟩
        · refine ⟨Nat.le_of_lt (small1000 (show 1 ≤ 1000 by decide)), fun p np => ⟨p, 3, _, rfl, rfl, upd_same, by decide, by decide, Nat.le_of_lt (small1000 (show 3 ≤ 1000 by decide)), fun p' np' => ?_⟩⟩
          have s7 := same_upd (o := .lst [V.bl true]) np
          have s8 := same_upd (o := .lst (List.replicate 3 [V.bl true]).flatten) np'
          refine ⟨.list ([true, true, true].map PyData.bool), .list ([true, true, true].map PyData.bool), dp_bls (.inl (.inl (s8 _ _ (s7 _ _ e6)))), dp_bls (.inl (.inl upd_same)), shaped_bls _, shaped_bls _, ?_⟩
          rw [eqv_blsL, decide_eq_true rfl]
          exact q' _ (s5.trans (s6.trans (s7.trans s8)))
end
end K02

namespace K02
open PySem PySem.Spec PyProof.Rows L2 LH
theorem all_mk {l : PySem.W.OpenLaw} {w : World} {K : PySem.W.Frag} {h : Heap} {mg : Str → Option Value} {fa : Addr} {f0 f1 f2 f3 f4 f5 f6 f7 f8 f9 f10 f11 f12 f13 f14 f15 f16 f17 : Addr} {t1 t2 t3 t4 t5 : Tok} (X : K.In h) (G : h.Ns mainGlobals mg) (hfa : mg "law" = some (.ref fa))
    {od0 an0 : Option Addr} {sl0 : Array (Option Value)} {oc0 kV0 dc0 pm0 cd0 ct0 : Value}
    (a0 : PySem.W.nsIn K mainGlobals "is_sign" = some (some (.ref f0))) (l0 : K.lookup f0 = some ⟨oc0, od0, .func (PySem.W.fnOf "is_sign" "is_sign" (defArgs s_is_sign) (defBody s_is_sign) (defScope s_is_sign) .none kV0 dc0 pm0 an0 cd0 ct0), sl0⟩) (c0 : PySem.W.codeIn K cd0 "is_sign" = true) (k0 : PySem.W.keepIn K (.ref f0) = true)
    {od1 an1 : Option Addr} {sl1 : Array (Option Value)} {oc1 kV1 dc1 pm1 cd1 ct1 : Value}
    (a1 : PySem.W.nsIn K mainGlobals "is_small_word" = some (some (.ref f1))) (l1 : K.lookup f1 = some ⟨oc1, od1, .func (PySem.W.fnOf "is_small_word" "is_small_word" (defArgs s_is_small_word) (defBody s_is_small_word) (defScope s_is_small_word) .none kV1 dc1 pm1 an1 cd1 ct1), sl1⟩) (c1 : PySem.W.codeIn K cd1 "is_small_word" = true) (k1 : PySem.W.keepIn K (.ref f1) = true)
    {od2 an2 : Option Addr} {sl2 : Array (Option Value)} {oc2 kV2 dc2 pm2 cd2 ct2 : Value}
    (a2 : PySem.W.nsIn K mainGlobals "is_name" = some (some (.ref f2))) (l2 : K.lookup f2 = some ⟨oc2, od2, .func (PySem.W.fnOf "is_name" "is_name" (defArgs s_is_name) (defBody s_is_name) (defScope s_is_name) .none kV2 dc2 pm2 an2 cd2 ct2), sl2⟩) (c2 : PySem.W.codeIn K cd2 "is_name" = true) (k2 : PySem.W.keepIn K (.ref f2) = true)
    {od3 an3 : Option Addr} {sl3 : Array (Option Value)} {oc3 kV3 dc3 pm3 cd3 ct3 : Value}
    (a3 : PySem.W.nsIn K mainGlobals "is_header_name" = some (some (.ref f3))) (l3 : K.lookup f3 = some ⟨oc3, od3, .func (PySem.W.fnOf "is_header_name" "is_header_name" (defArgs s_is_header_name) (defBody s_is_header_name) (defScope s_is_header_name) .none kV3 dc3 pm3 an3 cd3 ct3), sl3⟩) (c3 : PySem.W.codeIn K cd3 "is_header_name" = true) (k3 : PySem.W.keepIn K (.ref f3) = true)
    {od4 an4 : Option Addr} {sl4 : Array (Option Value)} {oc4 kV4 dc4 pm4 cd4 ct4 : Value}
    (a4 : PySem.W.nsIn K mainGlobals "is_value" = some (some (.ref f4))) (l4 : K.lookup f4 = some ⟨oc4, od4, .func (PySem.W.fnOf "is_value" "is_value" (defArgs s_is_value) (defBody s_is_value) (defScope s_is_value) .none kV4 dc4 pm4 an4 cd4 ct4), sl4⟩) (c4 : PySem.W.codeIn K cd4 "is_value" = true) (k4 : PySem.W.keepIn K (.ref f4) = true)
    {od5 an5 : Option Addr} {sl5 : Array (Option Value)} {oc5 kV5 dc5 pm5 cd5 ct5 : Value}
    (a5 : PySem.W.nsIn K mainGlobals "_law_cell" = some (some (.ref f5))) (l5 : K.lookup f5 = some ⟨oc5, od5, .func (PySem.W.fnOf "_law_cell" "_law_cell" (defArgs s__law_cell) (defBody s__law_cell) (defScope s__law_cell) .none kV5 dc5 pm5 an5 cd5 ct5), sl5⟩) (c5 : PySem.W.codeIn K cd5 "_law_cell" = true) (k5 : PySem.W.keepIn K (.ref f5) = true)
    {od6 an6 : Option Addr} {sl6 : Array (Option Value)} {oc6 kV6 dc6 pm6 cd6 ct6 : Value}
    (a6 : PySem.W.nsIn K mainGlobals "_law_mixed" = some (some (.ref f6))) (l6 : K.lookup f6 = some ⟨oc6, od6, .func (PySem.W.fnOf "_law_mixed" "_law_mixed" (defArgs s__law_mixed) (defBody s__law_mixed) (defScope s__law_mixed) .none kV6 dc6 pm6 an6 cd6 ct6), sl6⟩) (c6 : PySem.W.codeIn K cd6 "_law_mixed" = true) (k6 : PySem.W.keepIn K (.ref f6) = true)
    {od7 an7 : Option Addr} {sl7 : Array (Option Value)} {oc7 kV7 dc7 pm7 cd7 ct7 : Value}
    (a7 : PySem.W.nsIn K mainGlobals "_law_next" = some (some (.ref f7))) (l7 : K.lookup f7 = some ⟨oc7, od7, .func (PySem.W.fnOf "_law_next" "_law_next" (defArgs s__law_next) (defBody s__law_next) (defScope s__law_next) .none kV7 dc7 pm7 an7 cd7 ct7), sl7⟩) (c7 : PySem.W.codeIn K cd7 "_law_next" = true) (k7 : PySem.W.keepIn K (.ref f7) = true)
    {od8 an8 : Option Addr} {sl8 : Array (Option Value)} {oc8 kV8 dc8 pm8 cd8 ct8 : Value}
    (a8 : PySem.W.nsIn K mainGlobals "_law_signs" = some (some (.ref f8))) (l8 : K.lookup f8 = some ⟨oc8, od8, .func (PySem.W.fnOf "_law_signs" "_law_signs" (defArgs s__law_signs) (defBody s__law_signs) (defScope s__law_signs) .none kV8 dc8 pm8 an8 cd8 ct8), sl8⟩) (c8 : PySem.W.codeIn K cd8 "_law_signs" = true) (k8 : PySem.W.keepIn K (.ref f8) = true)
    {od9 an9 : Option Addr} {sl9 : Array (Option Value)} {oc9 kV9 dc9 pm9 cd9 ct9 : Value}
    (a9 : PySem.W.nsIn K mainGlobals "_law_letters" = some (some (.ref f9))) (l9 : K.lookup f9 = some ⟨oc9, od9, .func (PySem.W.fnOf "_law_letters" "_law_letters" (defArgs s__law_letters) (defBody s__law_letters) (defScope s__law_letters) .none kV9 dc9 pm9 an9 cd9 ct9), sl9⟩) (c9 : PySem.W.codeIn K cd9 "_law_letters" = true) (k9 : PySem.W.keepIn K (.ref f9) = true)
    {od10 an10 : Option Addr} {sl10 : Array (Option Value)} {oc10 kV10 dc10 pm10 cd10 ct10 : Value}
    (a10 : PySem.W.nsIn K mainGlobals "_law_near_name" = some (some (.ref f10))) (l10 : K.lookup f10 = some ⟨oc10, od10, .func (PySem.W.fnOf "_law_near_name" "_law_near_name" (defArgs s__law_near_name) (defBody s__law_near_name) (defScope s__law_near_name) .none kV10 dc10 pm10 an10 cd10 ct10), sl10⟩) (c10 : PySem.W.codeIn K cd10 "_law_near_name" = true) (k10 : PySem.W.keepIn K (.ref f10) = true)
    {od11 an11 : Option Addr} {sl11 : Array (Option Value)} {oc11 kV11 dc11 pm11 cd11 ct11 : Value}
    (a11 : PySem.W.nsIn K mainGlobals "_law_near_header" = some (some (.ref f11))) (l11 : K.lookup f11 = some ⟨oc11, od11, .func (PySem.W.fnOf "_law_near_header" "_law_near_header" (defArgs s__law_near_header) (defBody s__law_near_header) (defScope s__law_near_header) .none kV11 dc11 pm11 an11 cd11 ct11), sl11⟩) (c11 : PySem.W.codeIn K cd11 "_law_near_header" = true) (k11 : PySem.W.keepIn K (.ref f11) = true)
    {od12 an12 : Option Addr} {sl12 : Array (Option Value)} {oc12 kV12 dc12 pm12 cd12 ct12 : Value}
    (a12 : PySem.W.nsIn K mainGlobals "_law_near_value" = some (some (.ref f12))) (l12 : K.lookup f12 = some ⟨oc12, od12, .func (PySem.W.fnOf "_law_near_value" "_law_near_value" (defArgs s__law_near_value) (defBody s__law_near_value) (defScope s__law_near_value) .none kV12 dc12 pm12 an12 cd12 ct12), sl12⟩) (c12 : PySem.W.codeIn K cd12 "_law_near_value" = true) (k12 : PySem.W.keepIn K (.ref f12) = true)
    {od13 an13 : Option Addr} {sl13 : Array (Option Value)} {oc13 kV13 dc13 pm13 cd13 ct13 : Value}
    (a13 : PySem.W.nsIn K mainGlobals "_law_bent" = some (some (.ref f13))) (l13 : K.lookup f13 = some ⟨oc13, od13, .func (PySem.W.fnOf "_law_bent" "_law_bent" (defArgs s__law_bent) (defBody s__law_bent) (defScope s__law_bent) .none kV13 dc13 pm13 an13 cd13 ct13), sl13⟩) (c13 : PySem.W.codeIn K cd13 "_law_bent" = true) (k13 : PySem.W.keepIn K (.ref f13) = true)
    {od14 an14 : Option Addr} {sl14 : Array (Option Value)} {oc14 kV14 dc14 pm14 cd14 ct14 : Value}
    (a14 : PySem.W.nsIn K mainGlobals "_law_all" = some (some (.ref f14))) (l14 : K.lookup f14 = some ⟨oc14, od14, .func (PySem.W.fnOf "_law_all" "_law_all" (defArgs s__law_all) (defBody s__law_all) (defScope s__law_all) .none kV14 dc14 pm14 an14 cd14 ct14), sl14⟩) (c14 : PySem.W.codeIn K cd14 "_law_all" = true) (k14 : PySem.W.keepIn K (.ref f14) = true)
    {od15 an15 : Option Addr} {sl15 : Array (Option Value)} {oc15 kV15 dc15 pm15 cd15 ct15 : Value}
    (a15 : PySem.W.nsIn K mainGlobals "_law_right" = some (some (.ref f15))) (l15 : K.lookup f15 = some ⟨oc15, od15, .func (PySem.W.fnOf "_law_right" "_law_right" (defArgs s__law_right) (defBody s__law_right) (defScope s__law_right) .none kV15 dc15 pm15 an15 cd15 ct15), sl15⟩) (c15 : PySem.W.codeIn K cd15 "_law_right" = true) (k15 : PySem.W.keepIn K (.ref f15) = true)
    {od16 an16 : Option Addr} {sl16 : Array (Option Value)} {oc16 kV16 dc16 pm16 cd16 ct16 : Value}
    (a16 : PySem.W.nsIn K mainGlobals "_law_told" = some (some (.ref f16))) (l16 : K.lookup f16 = some ⟨oc16, od16, .func (PySem.W.fnOf "_law_told" "_law_told" (defArgs s__law_told) (defBody s__law_told) (defScope s__law_told) .none kV16 dc16 pm16 an16 cd16 ct16), sl16⟩) (c16 : PySem.W.codeIn K cd16 "_law_told" = true) (k16 : PySem.W.keepIn K (.ref f16) = true)
    {od17 an17 : Option Addr} {sl17 : Array (Option Value)} {oc17 kV17 dc17 pm17 cd17 ct17 : Value}
    (a17 : PySem.W.nsIn K mainGlobals "law" = some (some (.ref f17))) (l17 : K.lookup f17 = some ⟨oc17, od17, .func (PySem.W.fnOf "law" "law" (defArgs s_law) (defBody s_law) (defScope s_law) .none kV17 dc17 pm17 an17 cd17 ct17), sl17⟩) (c17 : PySem.W.codeIn K cd17 "law" = true) (k17 : PySem.W.keepIn K (.ref f17) = true)
    (z0 : PySem.W.nsIn K mainGlobals "all" = some none)
    (z1 : PySem.W.nsIn K mainGlobals "bool" = some none)
    (z2 : PySem.W.nsIn K mainGlobals "enumerate" = some none)
    (z3 : PySem.W.nsIn K mainGlobals "int" = some none)
    (z4 : PySem.W.nsIn K mainGlobals "isinstance" = some none)
    (z5 : PySem.W.nsIn K mainGlobals "len" = some none)
    (z6 : PySem.W.nsIn K mainGlobals "ord" = some none)
    (z7 : PySem.W.nsIn K mainGlobals "range" = some none)
    (z8 : PySem.W.nsIn K mainGlobals "str" = some none)
    (v0 : PySem.W.nsIn K mainGlobals "PERCENT" = some (some (.int 37 t1)))
    (v1 : PySem.W.nsIn K mainGlobals "SMALL" = some (some (.str SMALL t2)))
    (v2 : PySem.W.nsIn K mainGlobals "NAME_LETTERS" = some (some (.int 12 t3)))
    (v3 : PySem.W.nsIn K mainGlobals "HEADER_WORDS" = some (some (.int 3 t4)))
    (v4 : PySem.W.nsIn K mainGlobals "HEADER_LETTERS" = some (some (.int 8 t5))) :
    ∃ fd : FuncData, (∀ (s : Shared) (v : Value), BindsTo s fd ⟨[v], []⟩ [("_law_script", v)]) ∧ ∀ base : Heap, K.In base → base.Ns mainGlobals mg → FnOk l.prog w K mg base CX0 4 fa fd ["_law_script"] (spLaw K) := by
  have e := hfa.symm.trans (PySem.W.mg_of X G a17)
  cases e
  have F0 := fun_mk (st := s_is_sign) l0 c0 k0
  have b0 := F0.binds (ps := ["sign"]) fun _ _ _ _ _ _ us hl => match us, hl with | [_], _ => rfl
  have F1 := fun_mk (st := s_is_small_word) l1 c1 k1
  have b1 := F1.binds (ps := ["text", "most"]) fun _ _ _ _ _ _ us hl => match us, hl with | [_, _], _ => rfl
  have F2 := fun_mk (st := s_is_name) l2 c2 k2
  have b2 := F2.binds (ps := ["thing"]) fun _ _ _ _ _ _ us hl => match us, hl with | [_], _ => rfl
  have F3 := fun_mk (st := s_is_header_name) l3 c3 k3
  have b3 := F3.binds (ps := ["thing"]) fun _ _ _ _ _ _ us hl => match us, hl with | [_], _ => rfl
  have F4 := fun_mk (st := s_is_value) l4 c4 k4
  have b4 := F4.binds (ps := ["thing"]) fun _ _ _ _ _ _ us hl => match us, hl with | [_], _ => rfl
  have F5 := fun_mk (st := s__law_cell) l5 c5 k5
  have b5 := F5.binds (ps := ["_law_script", "_law_k"]) fun _ _ _ _ _ _ us hl => match us, hl with | [_, _], _ => rfl
  have F6 := fun_mk (st := s__law_mixed) l6 c6 k6
  have b6 := F6.binds (ps := ["_law_cell_here", "_law_k"]) fun _ _ _ _ _ _ us hl => match us, hl with | [_, _], _ => rfl
  have F7 := fun_mk (st := s__law_next) l7 c7 k7
  have b7 := F7.binds (ps := ["_law_number", "_law_k"]) fun _ _ _ _ _ _ us hl => match us, hl with | [_, _], _ => rfl
  have F8 := fun_mk (st := s__law_signs) l8 c8 k8
  have b8 := F8.binds (ps := []) fun _ _ _ _ _ _ us hl => match us, hl with | [], _ => rfl
  have F9 := fun_mk (st := s__law_letters) l9 c9 k9
  have b9 := F9.binds (ps := ["_law_number", "_law_size"]) fun _ _ _ _ _ _ us hl => match us, hl with | [_, _], _ => rfl
  have F10 := fun_mk (st := s__law_near_name) l10 c10 k10
  have b10 := F10.binds (ps := ["_law_number"]) fun _ _ _ _ _ _ us hl => match us, hl with | [_], _ => rfl
  have F11 := fun_mk (st := s__law_near_header) l11 c11 k11
  have b11 := F11.binds (ps := ["_law_number"]) fun _ _ _ _ _ _ us hl => match us, hl with | [_], _ => rfl
  have F12 := fun_mk (st := s__law_near_value) l12 c12 k12
  have b12 := F12.binds (ps := ["_law_number"]) fun _ _ _ _ _ _ us hl => match us, hl with | [_], _ => rfl
  have F13 := fun_mk (st := s__law_bent) l13 c13 k13
  have b13 := F13.binds (ps := ["_law_text", "_law_number"]) fun _ _ _ _ _ _ us hl => match us, hl with | [_, _], _ => rfl
  have F14 := fun_mk (st := s__law_all) l14 c14 k14
  have b14 := F14.binds (ps := ["_law_text", "_law_signs_here"]) fun _ _ _ _ _ _ us hl => match us, hl with | [_, _], _ => rfl
  have F15 := fun_mk (st := s__law_right) l15 c15 k15
  have b15 := F15.binds (ps := ["_law_text"]) fun _ _ _ _ _ _ us hl => match us, hl with | [_], _ => rfl
  have F16 := fun_mk (st := s__law_told) l16 c16 k16
  have b16 := F16.binds (ps := ["_law_thing"]) fun _ _ _ _ _ _ us hl => match us, hl with | [_], _ => rfl
  have F17 := fun_mk (st := s_law) l17 c17 k17
  have T : Tx mg (fun i => [t1, t2, t3, t4, t5].getD i t1) := ⟨PySem.W.mg_none_of X G z0, PySem.W.mg_none_of X G z1, PySem.W.mg_none_of X G z2, PySem.W.mg_none_of X G z3, PySem.W.mg_none_of X G z4, PySem.W.mg_none_of X G z5, PySem.W.mg_none_of X G z6, PySem.W.mg_none_of X G z7, PySem.W.mg_none_of X G z8, PySem.W.mg_of X G v0, PySem.W.mg_of X G v1, PySem.W.mg_of X G v2, PySem.W.mg_of X G v3, PySem.W.mg_of X G v4⟩
  refine ⟨PySem.W.fnOf "law" "law" (defArgs s_law) (defBody s_law) (defScope s_law) .none kV17 dc17 pm17 an17 cd17 ct17, fun s v => .of_eq rfl, fun base _ _ => ?_⟩
  have D0 : Def l.prog w K mg base "is_sign" 1 f0 _ ["sign"] sp_is_sign := ⟨ok_is_sign F0 T, PySem.W.mg_of X G a0, F0.kp, b0⟩
  have D1 : Def l.prog w K mg base "is_small_word" 1 f1 _ ["text", "most"] sp_small_word := ⟨ok_small_word F1 T, PySem.W.mg_of X G a1, F1.kp, b1⟩
  have D2 : Def l.prog w K mg base "is_name" 2 f2 _ ["thing"] (sp_name K) := ⟨ok_name F2 T D1, PySem.W.mg_of X G a2, F2.kp, b2⟩
  have D3 : Def l.prog w K mg base "is_header_name" 2 f3 _ ["thing"] (sp_header_name K) := ⟨ok_header_name F3 T D1, PySem.W.mg_of X G a3, F3.kp, b3⟩
  have D4 : Def l.prog w K mg base "is_value" 2 f4 _ ["thing"] (sp_value K) := ⟨ok_value F4 T D0, PySem.W.mg_of X G a4, F4.kp, b4⟩
  have D5 : Def l.prog w K mg base "_law_cell" 1 f5 _ ["_law_script", "_law_k"] (sp_cell K) := ⟨ok_cell F5 T, PySem.W.mg_of X G a5, F5.kp, b5⟩
  have D6 : Def l.prog w K mg base "_law_mixed" 1 f6 _ ["_law_cell_here", "_law_k"] sp_mixed := ⟨ok_mixed F6, PySem.W.mg_of X G a6, F6.kp, b6⟩
  have D7 : Def l.prog w K mg base "_law_next" 1 f7 _ ["_law_number", "_law_k"] sp_next := ⟨ok_next F7, PySem.W.mg_of X G a7, F7.kp, b7⟩
  have D8 : Def l.prog w K mg base "_law_signs" 1 f8 _ [] sp_signs := ⟨ok_signs F8, PySem.W.mg_of X G a8, F8.kp, b8⟩
  have D9 : Def l.prog w K mg base "_law_letters" 2 f9 _ ["_law_number", "_law_size"] sp_letters := ⟨ok_letters F9 T D7, PySem.W.mg_of X G a9, F9.kp, b9⟩
  have D10 : Def l.prog w K mg base "_law_near_name" 3 f10 _ ["_law_number"] (sp_text 100) := ⟨ok_near_name F10 D9, PySem.W.mg_of X G a10, F10.kp, b10⟩
  have D11 : Def l.prog w K mg base "_law_near_header" 3 f11 _ ["_law_number"] (sp_text 100) := ⟨ok_near_header F11 T D7 D9, PySem.W.mg_of X G a11, F11.kp, b11⟩
  have D12 : Def l.prog w K mg base "_law_near_value" 2 f12 _ ["_law_number"] (sp_text 100) := ⟨ok_near_value F12 T D7 D8, PySem.W.mg_of X G a12, F12.kp, b12⟩
  have D13 : Def l.prog w K mg base "_law_bent" 2 f13 _ ["_law_text", "_law_number"] sp_bent := ⟨ok_bent F13 T D8, PySem.W.mg_of X G a13, F13.kp, b13⟩
  have D14 : Def l.prog w K mg base "_law_all" 1 f14 _ ["_law_text", "_law_signs_here"] sp_all := ⟨ok_all F14, PySem.W.mg_of X G a14, F14.kp, b14⟩
  have D15 : Def l.prog w K mg base "_law_right" 2 f15 _ ["_law_text"] sp_right := ⟨ok_right F15 T D14 D8, PySem.W.mg_of X G a15, F15.kp, b15⟩
  have D16 : Def l.prog w K mg base "_law_told" 3 f16 _ ["_law_thing"] sp_told := ⟨ok_told F16 D2 D3 D4, PySem.W.mg_of X G a16, F16.kp, b16⟩
  exact ok_law F17 T D6 D5 D7 D10 D11 D12 D13 D16 D15
end K02
open PySem PySem.W PyProof.Rows
set_option maxHeartbeats 0 in
theorem PySem.Challenge.cw_letterhouse_k02_names_and_values_holds : PySem.Challenge.rw_letterhouse_k02_names_and_values.Holds := by
  w_on; o_law; k_head; (case hw => w_witness2)
  k_fill
  refine L2.walk_of (l := PySem.Challenge.rw_letterhouse_k02_names_and_values) (n := 63) (k := 4) (x := "_law_script") (CX := fun _ => L2.CX0) (sp := fun w => K02.spLaw _) rfl (by decide) rfl ⟨rfl, by decide, by decide⟩ (fun w h Y => PySem.W.kIn_of Y) ?F (fun _ _ a ns hl _ hS => ⟨a, ns, rfl, hS, hl, fun _ => rfl⟩) (fun _ _ _ _ _ h => h)
  case F =>
    intro w mg fa h KX G hmg
    refine' K02.all_mk KX G hmg ?a0 ?l0 ?c0 ?k0 ?a1 ?l1 ?c1 ?k1 ?a2 ?l2 ?c2 ?k2 ?a3 ?l3 ?c3 ?k3 ?a4 ?l4 ?c4 ?k4 ?a5 ?l5 ?c5 ?k5 ?a6 ?l6 ?c6 ?k6 ?a7 ?l7 ?c7 ?k7 ?a8 ?l8 ?c8 ?k8 ?a9 ?l9 ?c9 ?k9 ?a10 ?l10 ?c10 ?k10 ?a11 ?l11 ?c11 ?k11 ?a12 ?l12 ?c12 ?k12 ?a13 ?l13 ?c13 ?k13 ?a14 ?l14 ?c14 ?k14 ?a15 ?l15 ?c15 ?k15 ?a16 ?l16 ?c16 ?k16 ?a17 ?l17 ?c17 ?k17 ?z0 ?z1 ?z2 ?z3 ?z4 ?z5 ?z6 ?z7 ?z8 ?v0 ?v1 ?v2 ?v3 ?v4
    (case a0 => k_is); (case l0 => k_is); (case c0 => k_is); (case k0 => k_is); (case a1 => k_is); (case l1 => k_is); (case c1 => k_is); (case k1 => k_is); (case a2 => k_is); (case l2 => k_is); (case c2 => k_is); (case k2 => k_is); (case a3 => k_is); (case l3 => k_is); (case c3 => k_is); (case k3 => k_is); (case a4 => k_is); (case l4 => k_is); (case c4 => k_is); (case k4 => k_is); (case a5 => k_is); (case l5 => k_is); (case c5 => k_is); (case k5 => k_is); (case a6 => k_is); (case l6 => k_is); (case c6 => k_is); (case k6 => k_is); (case a7 => k_is); (case l7 => k_is); (case c7 => k_is); (case k7 => k_is); (case a8 => k_is); (case l8 => k_is); (case c8 => k_is); (case k8 => k_is); (case a9 => k_is); (case l9 => k_is); (case c9 => k_is); (case k9 => k_is); (case a10 => k_is); (case l10 => k_is); (case c10 => k_is); (case k10 => k_is); (case a11 => k_is); (case l11 => k_is); (case c11 => k_is); (case k11 => k_is); (case a12 => k_is); (case l12 => k_is); (case c12 => k_is); (case k12 => k_is); (case a13 => k_is); (case l13 => k_is); (case c13 => k_is); (case k13 => k_is); (case a14 => k_is); (case l14 => k_is); (case c14 => k_is); (case k14 => k_is); (case a15 => k_is); (case l15 => k_is); (case c15 => k_is); (case k15 => k_is); (case a16 => k_is); (case l16 => k_is); (case c16 => k_is); (case k16 => k_is); (case a17 => k_is); (case l17 => k_is); (case c17 => k_is); (case k17 => k_is); (case z0 => k_is); (case z1 => k_is); (case z2 => k_is); (case z3 => k_is); (case z4 => k_is); (case z5 => k_is); (case z6 => k_is); (case z7 => k_is); (case z8 => k_is); (case v0 => k_is); (case v1 => k_is); (case v2 => k_is); (case v3 => k_is); (case v4 => k_is)

