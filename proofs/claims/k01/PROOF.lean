import PyProof.Rows.All
import Wide.All
import OpenK.AllK
import Wide.FinOn
import HandS.ForMost
import HandS.Walk
import HandS.IsInst
import HandS.MapJoin
import HandS.Style
import HandS.StrMore
import PySem.Challenge.RW_letterhouse_k01_headers_folded
set_option Elab.async false
set_option linter.all false
set_option maxRecDepth 100000
namespace LH
open PySem PySem.Spec PyProof.Rows L2
/-! ### heaps -/
theorem same_upd {H : Hp} {p : Addr} {o : HO} (h : H p = none) : Same H (upd H p o) := fun b x e => by
  rw [upd_ne (ne_of_none e h)]
  exact e
theorem seqT {K : PySem.W.Frag} {H H' : Hp} {a : Addr} {xs : List V} (e : Same H H') (h : SqT K H a xs) : SqT K H' a xs := by
  rcases h with (h | ⟨o, h⟩) | h
  · exact .inl (.inl (e _ _ h))
  · exact .inl (.inr ⟨o, e _ _ h⟩)
  · exact .inr h
/-- a list that is told new, in a heap that keeps all that stood -/
def New (H : Hp) (xs : List V) (Q : VK) : Prop := ∀ H' p, Same H H' → H p = none → H' p = some (.lst xs) → Q (.ref p) H'
/-- a value that is told in a heap that keeps all that stood -/
def Tell (H : Hp) (v : V) (Q : VK) : Prop := ∀ H', Same H H' → Q v H'
/-! ### a comprehension over anything that yields xs 0 .. xs (n - 1), its element f i -/
theorem lc_pure {J : It} {n : Nat} {G : Hp → Prop} {te : TE} {c : Nat} {σ : L2.St} {H1 : Hp} {D : Addr} {Qd : Hp → Prop} (xs f : Nat → V) (w : Walk J n G (YFn xs)) (hG : ∀ H, Same H1 H → G H) (hD : H1 D = none) (hn : n ≤ sizeLine)
    (he : ∀ i H Q, i < n → Same H1 H → Tell H (f i) Q → te ((σ.set c none).set c (some (xs i))) H Q)
    (hd : ∀ H, Same H1 H → H D = some (.lst ((List.range n).map f)) → Qd H) :
    ∃ W : Nat → Nat → Hp → Prop, (∃ m, W 0 m (upd H1 D (.lst []))) ∧ ∀ i m H, W i m H →
      (J.stop i H ∧ Qd H) ∨ (J.go i H ∧ ∃ Nx : Hp → Prop, (∀ H', Nx H' → ∃ m', m' < m ∧ W (i + 1) m' H') ∧ ∀ x H', J.yld i H x H' → gName c x (wipe σ [c]) H' fun σ2 H2 => wipe σ2 [c] = wipe σ [c] ∧ tYes σ2 H2 fun b H3 =>
        if b = true then te σ2 H3 fun y H4 => ∃ acc, H4 D = some (.lst acc) ∧ acc.length < sizeLine ∧ Nx (upd H4 D (.lst (acc ++ [y]))) else Nx H3) := by
  refine lc_it w (fun i H => Same H1 H ∧ H D = some (.lst ((List.range i).map f))) ⟨same_upd hD, upd_same⟩ (fun i H _ h => hG H h.1) (fun i x H H' hi hP hy => ?_) (fun H h => hd H h.1 h.2)
  obtain ⟨sm, eD⟩ := hP
  obtain ⟨rfl, rfl⟩ := hy
  refine ⟨?_, ?_⟩
  rotate_left
  · show (if true = true then te ((σ.set c none).set c (some (xs i))) H' fun y H4 => ∃ acc, H4 D = some (.lst acc) ∧ acc.length < sizeLine ∧ Same H1 (upd H4 D (.lst (acc ++ [y]))) ∧ upd H4 D (.lst (acc ++ [y])) D = some (.lst ((List.range (i + 1)).map f)) else (Same H1 H' ∧ H' D = some (.lst ((List.range (i + 1)).map f))))
    rw [if_pos rfl]
    refine he i H' _ hi sm fun H2 s2 => ⟨_, s2 _ _ eD, ?_, ?_, ?_⟩
    · rw [List.length_map, List.length_range]
      omega
    · intro b o hb
      rw [upd_ne (ne_of_none hb hD)]
      exact s2 _ _ (sm _ _ hb)
    · rw [upd_same, List.range_succ, List.map_append]
      rfl
  · show (((σ.set c none).set c (some (xs i))).set c none) = σ.set c none
    rw [List.set_set, List.set_set]
/-! ### a def as its callers see it -/
structure Def (P : Program) (w : World) (K : PySem.W.Frag) (mg : Str → Option Value) (base : Heap) (x : Str) (k : Nat) (f : Addr) (fd : FuncData) (ps : List Str) (sp : Sp) : Prop where
  ok : FnOk P w K mg base CX0 k f fd ps sp
  mg : mg x = some (.ref f)
  kp : PySem.W.keepIn K (.ref f) = true
  bd : Binds K fd ps []
section
variable {X : Cx} {x : Str} {k j : Nat} {f : Addr} {fd : FuncData} {ps : List Str} {sp : Sp} {e : Expr} {es : List Expr} {t : TA} {p pos : Pos}
theorem pe_def (D : Def X.prog X.w X.K X.mg X.base x k f fd ps sp) (hr : Room k X.A) (ha : PA X (e :: es) t) (hg : Gl X x := by rfl) (hdb : (x == ("__debug__" : Str)) = false := by decide)
    (he : starEach (e :: es) X.env = (false, eval e X.env) :: starEach es X.env := by rfl) (hpl : (backTo pos (starEach es X.env)).any (·.1) = false := by rfl) : PE X (.Call (.Name x p) (e :: es) [] pos) (tCall sp [] E0 t) :=
  pe_call D.ok hr hg D.mg D.kp D.bd .nil pass0 ha hdb he hpl
theorem pe_def0 (D : Def X.prog X.w X.K X.mg X.base x k f fd ps sp) (hr : Room k X.A) (hg : Gl X x := by rfl) (hdb : (x == ("__debug__" : Str)) = false := by decide) : PE X (.Call (.Name x p) [] [] pos) (tCall sp [] E0 tNil) :=
  pe_call0 D.ok hr hg D.mg D.kp D.bd .nil pass0 hdb
end
/-! ### a text times a number -/
section
variable {X : Cx}
def repS (x : Str) (n : Int) : Str := ⟨(List.replicate n.toNat x.cps.toList).flatten.toArray⟩
theorem foldl_app (l : List (Array Nat)) : ∀ a : Array Nat, (l.foldl (· ++ ·) a).toList = a.toList ++ (l.map (·.toList)).flatten := by
  induction l with
  | nil => intro a; simp
  | cons x r ih => intro a; simp [ih]
theorem mul_rep (x : Str) (n : Int) : Txt.mul x n = repS x n := by
  unfold Txt.mul repS
  by_cases h : n < 1
  · rw [if_pos h, show n.toNat = 0 by omega]
    rfl
  · rw [if_neg h]
    by_cases h2 : (n == 1 || x.length == 0) = true
    · rw [if_pos h2]
      refine TL.ext_tl ?_
      show x.cps.toList = (List.replicate n.toNat x.cps.toList).flatten
      rcases (Bool.or_eq_true _ _).mp h2 with e | e
      · have : n = 1 := eq_of_beq e
        subst this
        simp
      · have : x.cps.toList = [] := by
          have e' : x.length = 0 := eq_of_beq e
          have e3 : x.cps.toList.length = 0 := by simpa [Str.length] using e'
          exact List.length_eq_zero_iff.mp e3
        rw [this]
        simp
    · rw [if_neg h2]
      refine TL.ext_tl ?_
      show ((List.replicate n.toNat x.cps).foldl (· ++ ·) #[]).toList = (List.replicate n.toNat x.cps.toList).flatten
      rw [foldl_app]
      simp
theorem op_mul_str : OpR X (binaryOp .Mult) (fun x y H Q => ∃ z n, x = .str z ∧ y = .int n ∧ -(2 ^ 63) ≤ n ∧ n ≤ 4096 ∧ z.length ≤ 4096 ∧ Q (.str (repS z n)) H) := by
  intro pins s σ H x y v u Q I rx ry h
  obtain ⟨z, n, rfl, rfl, h0, h1, h2, q⟩ := h
  obtain ⟨t, rfl⟩ := rx
  obtain ⟨t', rfl⟩ := ry
  refine SB.mul (mulOk_of 4096 4096 h2 (by exact_mod_cast h1) h0 (by decide) (by decide)) fun t2 k => ?_
  rw [mul_rep]
  exact ⟨.str (repS z n), H, I.tok _, ⟨_, rfl⟩, q⟩
end
/-! ### chunks -/
def chunks {α : Type} (k : Nat) (t : List α) : List (List α) := (List.range ((t.length + (k - 1)) / k)).map fun i => (t.drop (i * k)).take k
theorem chunks_nil {α : Type} {k : Nat} (hk : 0 < k) : chunks k ([] : List α) = [] := by
  unfold chunks
  rw [show (([] : List α).length + (k - 1)) / k = 0 from Nat.div_eq_of_lt (by simp; omega)]
  rfl
theorem chunks_cons {α : Type} {k : Nat} (hk : 0 < k) {t : List α} (ht : t ≠ []) : chunks k t = t.take k :: chunks k (t.drop k) := by
  unfold chunks
  have hl : 0 < t.length := List.length_pos_iff.mpr ht
  have e : (t.length + (k - 1)) / k = ((t.drop k).length + (k - 1)) / k + 1 := by
    rw [List.length_drop]
    by_cases h : t.length ≤ k
    · rw [show t.length - k = 0 by omega, show (0 + (k - 1)) / k = 0 from Nat.div_eq_of_lt (by omega)]
      exact Nat.div_eq_of_lt_le (by omega) (by omega)
    · rw [show t.length + (k - 1) = (t.length - k + (k - 1)) + k by omega, Nat.add_div_right _ hk]
  rw [e, List.range_succ_eq_map, List.map_cons, List.map_map]
  congr 1
  · simp
  · refine List.map_congr_left fun i _ => ?_
    show (t.drop ((i + 1) * k)).take k = ((t.drop k).drop (i * k)).take k
    rw [List.drop_drop, Nat.succ_mul, Nat.add_comm]
/-! ### slices and ranges -/
theorem cutS_at (z : Str) (a b : Nat) : cutS z (some (a : Int)) (some (b : Int)) = ⟨((TL.tl z).drop a |>.take (b - a)).toArray⟩ := by
  unfold cutS
  rw [HT.sIx_nat, HT.sIx_nat]
  refine TL.ext_tl ?_
  show ((TL.tl z).drop (min a z.length)).take (min b z.length - min a z.length) = ((TL.tl z).drop a).take (b - a)
  have hz : z.length = (TL.tl z).length := TL.len_tl z
  rw [hz]
  generalize TL.tl z = l
  by_cases h : a ≤ l.length
  · rw [Nat.min_eq_left h]
    by_cases h2 : b ≤ l.length
    · rw [Nat.min_eq_left h2]
    · rw [Nat.min_eq_right (by omega), List.take_of_length_le (by rw [List.length_drop]; omega), List.take_of_length_le (by rw [List.length_drop]; omega)]
  · have h' : l.length ≤ a := by omega
    rw [Nat.min_eq_right h', List.drop_of_length_le (Nat.le_refl _), List.drop_of_length_le h']
    simp
theorem cutV_at (z : List V) (a b : Nat) : cutV z (some (a : Int)) (some (b : Int)) = (z.drop a).take (b - a) := by
  unfold cutV
  rw [HT.sIx_nat, HT.sIx_nat]
  by_cases h : a ≤ z.length
  · rw [Nat.min_eq_left h]
    by_cases h2 : b ≤ z.length
    · rw [Nat.min_eq_left h2]
    · rw [Nat.min_eq_right (by omega), List.take_of_length_le (by rw [List.length_drop]; omega), List.take_of_length_le (by rw [List.length_drop]; omega)]
  · have h' : z.length ≤ a := by omega
    rw [Nat.min_eq_right h', List.drop_of_length_le (Nat.le_refl _), List.drop_of_length_le h']
    simp
theorem cutV_to (z : List V) (b : Nat) : cutV z none (some (b : Int)) = z.take b := by
  unfold cutV
  rw [HT.sIx_nat, HT.sIx_none]
  by_cases h2 : b ≤ z.length
  · rw [Nat.min_eq_left h2]; simp
  · rw [Nat.min_eq_right (by omega), List.take_of_length_le (by simp), List.take_of_length_le (by omega)]; simp
theorem cutS_to (z : Str) (b : Nat) : cutS z none (some (b : Int)) = ⟨((TL.tl z).take b).toArray⟩ := by
  have := cutS_at z 0 b
  have e : cutS z none (some (b : Int)) = cutS z (some ((0 : Nat) : Int)) (some (b : Int)) := by
    unfold cutS
    rw [HT.sIx_none, HT.sIx_nat, HT.sIx_nat, Nat.zero_min]
  rw [e, this]
  simp
theorem cutS_from (z : Str) (a : Nat) : cutS z (some (a : Int)) none = ⟨((TL.tl z).drop a).toArray⟩ := by
  have e : cutS z (some (a : Int)) none = cutS z (some (a : Int)) (some ((z.length : Nat) : Int)) := by
    unfold cutS
    rw [HT.sIx_none, HT.sIx_nat, HT.sIx_nat]
    simp
  rw [e, cutS_at, TL.len_tl, List.take_of_length_le (by simp)]
theorem rgC (n k : Nat) (hk : 0 < k) (hk2 : k < 1000) (hn : n < 2 ^ 40) : RgC 0 (n : Int) (k : Int) ((n + (k - 1)) / k) := by
  refine ⟨by omega, by omega, ?_, ?_⟩
  · have e := rangeSize_pos (len := (n : Int)) (c := (k : Int)) (by omega) (by omega)
    have q : ((n : Int) + (k : Int) - 1) / (k : Int) ≤ (n : Int) + (k : Int) - 1 := Int.ediv_le_self _ (by omega)
    have q0 : 0 ≤ ((n : Int) + (k : Int) - 1) / (k : Int) := Int.ediv_nonneg (by omega) (by omega)
    unfold Builtin.Range.small
    rw [e]
    simp only [Builtin.Range.rangeFitsLong, Bool.and_eq_true, Bool.or_eq_true, decide_eq_true_eq, beq_iff_eq, show ((k : Int) > 0) by omega, if_true]
    have p1 : (0:Int) < 2 ^ 63 := by decide
    omega
  · rw [rangeSize_pos (by omega) (by omega)]
    rw [show (n : Int) + (k : Int) - 1 = ((n + (k - 1) : Nat) : Int) by omega]
    exact (Int.natCast_ediv _ _).symm
end LH
namespace LH
open PySem PySem.Spec PyProof.Rows L2
theorem walk_listF {K : PySem.W.Frag} {a : Addr} {xs : List V} : Walk (Itl K a) xs.length (fun H => SqL K H a xs) (YFn fun i => xs.getD i .non) :=
  walk_list.mono (fun _ h => h) fun i H x H' hi _ y => ⟨y.1, by show x = xs.getD i .non; rw [List.getD_eq_getElem?_getD, y.2]; rfl⟩
theorem walk_tupF {K : PySem.W.Frag} {a : Addr} {xs : List V} : Walk (Itt K a) xs.length (fun H => SqT K H a xs) (YFn fun i => xs.getD i .non) :=
  walk_tup.mono (fun _ h => h) fun i H x H' hi _ y => ⟨y.1, by show x = xs.getD i .non; rw [List.getD_eq_getElem?_getD, y.2]; rfl⟩
theorem getD_map_int (bs : List Int) (i : Nat) (h : i < bs.length) : (bs.map V.int).getD i .non = .int (bs.getD i 0) := by
  rw [List.getD_eq_getElem?_getD, List.getElem?_map, List.getElem?_eq_getElem h, List.getD_eq_getElem?_getD, List.getElem?_eq_getElem h]
  rfl
theorem range_getD {α : Type} (xs : List α) (d : α) : (List.range xs.length).map (fun i => xs.getD i d) = xs := by
  apply List.ext_getElem?
  intro i
  rw [List.getElem?_map]
  by_cases h : i < xs.length
  · rw [List.getElem?_range h]
    show some (xs.getD i d) = _
    rw [List.getD_eq_getElem?_getD, List.getElem?_eq_getElem h]
    rfl
  · rw [List.getElem?_eq_none (by rw [List.length_range]; omega), List.getElem?_eq_none (by omega)]
    rfl
section
variable {X : Cx}
theorem ixL (K : PySem.W.Frag) (h : X.K = K := by rfl) : IxR X (rIxL K) := h ▸ ix_list
theorem ixT (K : PySem.W.Frag) (h : X.K = K := by rfl) : IxR X (rIxT K) := h ▸ ix_tup
theorem slL (K : PySem.W.Frag) (h : X.K = K := by rfl) : SlR X (rSlL K) := h ▸ sl_list
theorem slT (K : PySem.W.Frag) (h : X.K = K := by rfl) : SlR X (rSlT K) := h ▸ sl_tup
theorem cIsi (K : PySem.W.Frag) (h : X.K = K := by rfl) : CallR X (.builtin "isinstance") (rIsi K) := h ▸ call_isi
def rLenS (K : PySem.W.Frag) : List V → Hp → VK → Prop := fun xs H Q => ∃ p ys, xs = [.ref p] ∧ (SqL K H p ys ∨ SqT K H p ys) ∧ Q (.int ys.length) H
theorem cLen (K : PySem.W.Frag) (h : X.K = K := by rfl) : CallR X (.builtin "len") (rLenS K) := h ▸ call_len_seq
theorem cAll (K : PySem.W.Frag) (h : X.K = K := by rfl) (hc : X.calm = true := by rfl) : CallR X (.builtin "all") (rAll K) := h ▸ cr_all hc
theorem cAny (K : PySem.W.Frag) (h : X.K = K := by rfl) (hc : X.calm = true := by rfl) : CallR X (.builtin "any") (rAny K) := h ▸ cr_any hc
theorem oIn (K : PySem.W.Frag) (h : X.K = K := by rfl) : OpR X (compareOp .In) (rIn K false) := h ▸ op_in_seq
theorem oNotIn (K : PySem.W.Frag) (h : X.K = K := by rfl) : OpR X (compareOp .NotIn) (rIn K true) := h ▸ op_notIn_seq
theorem oEqD (K : PySem.W.Frag) (hu : X.A.units + 64 < cLine) (h : X.K = K := by rfl) : OpR X (compareOp .Eq) (rEqD K) := h ▸ op_eqD hu
theorem oNeD (K : PySem.W.Frag) (hu : X.A.units + 64 < cLine) (h : X.K = K := by rfl) : OpR X (compareOp .NotEq) (rNeD K) := h ▸ op_neD hu
end
end LH
namespace LH
open PySem PySem.Spec PyProof.Rows L2
/-! ### data: flat lists compared -/
def OkS (x : Str) : Prop := ∀ c ∈ TL.tl x, c < 1114112
theorem strOk_of (x : Str) (h : OkS x) : PyData.strOk x = true := by
  unfold PyData.strOk
  rw [Array.all_eq_true']
  intro c hc
  exact decide_eq_true (h c (Array.mem_toList_iff.mpr hc))
theorem dpAll_ints {K : PySem.W.Frag} {H : Hp} : ∀ bs : List Int, DpAll K H (bs.map V.int) (bs.map PyData.int)
  | [] => .nil
  | b :: r => .cons (.int b) (dpAll_ints r)
theorem dpAll_strs {K : PySem.W.Frag} {H : Hp} : ∀ bs : List Str, DpAll K H (bs.map V.str) (bs.map PyData.str)
  | [] => .nil
  | b :: r => .cons (.str b) (dpAll_strs r)
theorem dp_ints {K : PySem.W.Frag} {H : Hp} {a : Addr} {bs : List Int} (h : SqL K H a (bs.map V.int)) : Dp K H (.ref a) (.list (bs.map PyData.int)) := .lst h (dpAll_ints bs)
theorem dp_strs {K : PySem.W.Frag} {H : Hp} {a : Addr} {bs : List Str} (h : SqL K H a (bs.map V.str)) : Dp K H (.ref a) (.list (bs.map PyData.str)) := .lst h (dpAll_strs bs)
theorem lay_strs : ∀ bs : List Str, (∀ x ∈ bs, OkS x) → PyData.canLayAll0 (bs.map PyData.str) = true
  | [], _ => by simp [PyData.canLayAll0]
  | b :: r, h => by simp [PyData.canLayAll0, PyData.canLay0, strOk_of b (h b (by simp)), lay_strs r fun x hx => h x (by simp [hx])]
theorem depth_strs : ∀ bs : List Str, PyData.depthAll (bs.map PyData.str) = 0
  | [] => rfl
  | _ :: r => by simp [PyData.depthAll, PyData.depth, depth_strs r]
theorem shaped_strs (bs : List Str) (h : ∀ x ∈ bs, OkS x) : SeqAt.shaped (.list (bs.map PyData.str)) = true := by
  simp [SeqAt.shaped, PyData.canLay0, PyData.depth, lay_strs bs h, depth_strs]
theorem shaped_intsL (bs : List Int) : SeqAt.shaped (.list (bs.map PyData.int)) = true := PySem.W.ke_shaped_ints bs
theorem eqv_ints : ∀ bs cs : List Int, PyData.eqvAll (bs.map PyData.int) (cs.map PyData.int) = decide (bs = cs)
  | [], [] => by simp [PyData.eqvAll]
  | [], _ :: _ => by simp [PyData.eqvAll]
  | _ :: _, [] => by simp [PyData.eqvAll]
  | b :: r, c :: q => by
    rw [List.map_cons, List.map_cons, PyData.eqvAll, PyData.eqv, eqv_ints r q]
    by_cases h : b = c <;> simp [h]
theorem eqv_strs : ∀ bs cs : List Str, PyData.eqvAll (bs.map PyData.str) (cs.map PyData.str) = decide (bs = cs)
  | [], [] => by simp [PyData.eqvAll]
  | [], _ :: _ => by simp [PyData.eqvAll]
  | _ :: _, [] => by simp [PyData.eqvAll]
  | b :: r, c :: q => by
    rw [List.map_cons, List.map_cons, PyData.eqvAll, PyData.eqv, eqv_strs r q]
    by_cases h : b = c <;> simp [h]
theorem eqv_intsL (bs cs : List Int) : PyData.eqv (.list (bs.map PyData.int)) (.list (cs.map PyData.int)) = decide (bs = cs) := by rw [PyData.eqv, eqv_ints]
theorem eqv_strsL (bs cs : List Str) : PyData.eqv (.list (bs.map PyData.str)) (.list (cs.map PyData.str)) = decide (bs = cs) := by rw [PyData.eqv, eqv_strs]
theorem map_true {α : Type} (l : List α) : (l.map fun _ => true).all id = true := by
  induction l with
  | nil => rfl
  | cons x r ih => simpa using ih
end LH

namespace LH
open PySem PySem.Spec PyProof.Rows L2
/-! ### a comprehension with a test -/
theorem lc_filt {J : It} {n : Nat} {G : Hp → Prop} {tt : TT} {te : TE} {c : Nat} {σ : L2.St} {H1 : Hp} {D : Addr} {Qd : Hp → Prop} (xs f : Nat → V) (b : Nat → Bool) (w : Walk J n G (YFn xs)) (hG : ∀ H, Same H1 H → G H) (hD : H1 D = none) (hn : n ≤ sizeLine)
    (ht : ∀ (i : Nat) (H : Hp) (Q : Bool → Hp → Prop), i < n → Same H1 H → (∀ H', Same H H' → Q (b i) H') → tt ((σ.set c none).set c (some (xs i))) H Q)
    (he : ∀ i H Q, i < n → Same H1 H → b i = true → Tell H (f i) Q → te ((σ.set c none).set c (some (xs i))) H Q)
    (hd : ∀ H, Same H1 H → H D = some (.lst (((List.range n).filter b).map f)) → Qd H) :
    ∃ W : Nat → Nat → Hp → Prop, (∃ m, W 0 m (upd H1 D (.lst []))) ∧ ∀ i m H, W i m H →
      (J.stop i H ∧ Qd H) ∨ (J.go i H ∧ ∃ Nx : Hp → Prop, (∀ H', Nx H' → ∃ m', m' < m ∧ W (i + 1) m' H') ∧ ∀ x H', J.yld i H x H' → gName c x (wipe σ [c]) H' fun σ2 H2 => wipe σ2 [c] = wipe σ [c] ∧ tt σ2 H2 fun b H3 =>
        if b = true then te σ2 H3 fun y H4 => ∃ acc, H4 D = some (.lst acc) ∧ acc.length < sizeLine ∧ Nx (upd H4 D (.lst (acc ++ [y]))) else Nx H3) := by
  refine lc_it w (fun i H => Same H1 H ∧ H D = some (.lst (((List.range i).filter b).map f))) ⟨same_upd hD, upd_same⟩ (fun i H _ h => hG H h.1) (fun i x H H' hi hP hy => ?_) (fun H h => hd H h.1 h.2)
  obtain ⟨sm, eD⟩ := hP
  obtain ⟨rfl, rfl⟩ := hy
  refine ⟨?_, ?_⟩
  rotate_left
  · refine ht i H' _ hi sm fun H2 s2 => ?_
    cases hb : b i with
    | true =>
      rw [if_pos rfl]
      refine he i H2 _ hi (sm.trans s2) hb fun H3 s3 => ⟨_, s3 _ _ (s2 _ _ eD), ?_, ?_, ?_⟩
      · rw [List.length_map]
        have := List.length_filter_le b (List.range i)
        rw [List.length_range] at this
        omega
      · intro b' o hb'
        rw [upd_ne (ne_of_none hb' hD)]
        exact s3 _ _ (s2 _ _ (sm _ _ hb'))
      · rw [upd_same, List.range_succ, List.filter_append, List.map_append]
        simp [hb]
    | false =>
      rw [if_neg Bool.false_ne_true]
      refine ⟨sm.trans s2, ?_⟩
      rw [s2 _ _ eD, List.range_succ, List.filter_append, List.map_append]
      simp [hb]
  · show (((σ.set c none).set c (some (xs i))).set c none) = σ.set c none
    rw [List.set_set, List.set_set]
/-! ### the signs of a text -/
theorem walk_strF {z : Str} : Walk (Its z) (TL.tl z).length (fun _ => True) (YFn fun i => .str ⟨#[(TL.tl z).getD i 0]⟩) := by
  have e : (TL.tl z).length = z.cps.size := Array.length_toList
  rw [e]
  refine walk_str.mono (fun _ h => h) fun i H x H' hi _ y => ⟨y.1, ?_⟩
  obtain ⟨_, c, hc, rfl⟩ := y
  show V.str ⟨#[c]⟩ = .str ⟨#[(TL.tl z).getD i 0]⟩
  have : (TL.tl z)[i]? = some c := by rw [← hc]; exact Array.getElem?_toList
  rw [List.getD_eq_getElem?_getD, this]
  rfl
theorem lall_range {α : Type} (l : List α) (d : α) (p : α → Bool) : ((List.range l.length).map fun i => p (l.getD i d)).all id = l.all p := by
  have e : ((List.range l.length).map fun i => p (l.getD i d)) = ((List.range l.length).map fun i => l.getD i d).map p := by rw [List.map_map]; rfl
  rw [e, range_getD, List.all_map]
  rfl
/-! ### one sign's split -/
def splitL (s : Nat) : List Nat → List (List Nat)
  | [] => [[]]
  | c :: r => if c = s then [] :: splitL s r else (c :: (splitL s r).headD []) :: (splitL s r).tail
theorem splitL_ne (s : Nat) (l : List Nat) : splitL s l ≠ [] := by
  cases l with
  | nil => simp [splitL]
  | cons c r => unfold splitL; split <;> simp
theorem splitL_eta (s : Nat) (l : List Nat) : splitL s l = (splitL s l).headD [] :: (splitL s l).tail := by
  cases h : splitL s l with
  | nil => exact absurd h (splitL_ne s l)
  | cons x r => rfl
theorem spl_one (s : Nat) : ∀ (l acc : List Nat), TL.spl [s] 0 acc l = (acc ++ (splitL s l).headD []) :: (splitL s l).tail
  | [], acc => by rw [TL.spl_nil]; simp [splitL]
  | c :: r, acc => by
    by_cases h : c = s
    · subst h
      rw [TL.spl_hit (show TL.pre [c] (c :: r) = true by simp [TL.pre])]
      show acc :: TL.spl [c] 0 [] r = _
      rw [spl_one c r []]
      have e : splitL c (c :: r) = [] :: splitL c r := by
        conv => lhs; unfold splitL
        rw [if_pos rfl]
      rw [e]
      simp only [List.headD_cons, List.tail_cons, List.append_nil, List.nil_append]
      rw [← splitL_eta]
    · rw [TL.spl_miss (show TL.pre [s] (c :: r) = false by simp [TL.pre]; exact h), spl_one s r]
      conv => rhs; unfold splitL
      rw [if_neg h]
      simp
theorem split_tl {x y : Str} {s : Nat} (hy : TL.tl y = [s]) (hs : s < 256) : (Txt.split x y).map TL.tl = splitL s (TL.tl x) := by
  rw [TL.split_spl x y (by rw [hy]; simp) (TL.kind_ok ?_), hy, spl_one, List.nil_append, ← splitL_eta]
  rw [Array.all_eq_true']
  intro c hc
  have : c ∈ TL.tl y := Array.mem_toList_iff.mpr hc
  rw [hy] at this
  exact decide_eq_true (by rw [List.mem_singleton.mp this]; exact hs)
theorem splitL_len (s : Nat) : ∀ l : List Nat, (splitL s l).length ≤ l.length + 1
  | [] => Nat.le_refl _
  | c :: r => by
    have ih := splitL_len s r
    unfold splitL
    split
    · simp only [List.length_cons]; omega
    · have := splitL_eta s r
      have h2 := congrArg List.length this
      simp only [List.length_cons] at h2 ⊢
      omega
theorem splitL_mem (s : Nat) : ∀ (l : List Nat) (w : List Nat), w ∈ splitL s l → ∀ c ∈ w, c ∈ l
  | [], w, h, c, hc => by
    simp [splitL] at h
    rw [h] at hc
    cases hc
  | d :: r, w, h, c, hc => by
    unfold splitL at h
    have e := splitL_eta s r
    split at h
    · rcases List.mem_cons.mp h with rfl | h
      · cases hc
      · exact List.mem_cons_of_mem _ (splitL_mem s r w h c hc)
    · rcases List.mem_cons.mp h with rfl | h
      · rcases List.mem_cons.mp hc with rfl | hc
        · exact List.mem_cons_self
        · exact List.mem_cons_of_mem _ (splitL_mem s r _ (by rw [e]; exact List.mem_cons_self) c hc)
      · exact List.mem_cons_of_mem _ (splitL_mem s r w (by rw [e]; exact List.mem_cons_of_mem _ h) c hc)
theorem splitL_le (s : Nat) : ∀ (l : List Nat) (w : List Nat), w ∈ splitL s l → w.length ≤ l.length
  | [], w, h => by
    simp [splitL] at h
    rw [h]
    exact Nat.le_refl _
  | d :: r, w, h => by
    unfold splitL at h
    have e := splitL_eta s r
    have mem1 : (splitL s r).headD [] ∈ splitL s r := by rw [e]; exact List.mem_cons_self
    have mem2 : ∀ x ∈ (splitL s r).tail, x ∈ splitL s r := fun x hx => by rw [e]; exact List.mem_cons_of_mem _ hx
    split at h
    · rcases List.mem_cons.mp h with rfl | h
      · exact Nat.zero_le _
      · exact Nat.le_succ_of_le (splitL_le s r w h)
    · rcases List.mem_cons.mp h with rfl | h
      · exact Nat.succ_le_succ (splitL_le s r _ mem1)
      · exact Nat.le_succ_of_le (splitL_le s r w (mem2 w h))
theorem mk_len (l : List Nat) : (⟨l.toArray⟩ : Str).length = l.length := by rw [TL.len_tl]
theorem str_eq_iff (x y : Str) : x = y ↔ TL.tl x = TL.tl y := ⟨fun h => by rw [h], TL.ext_tl⟩
end LH
namespace LH
open PySem PySem.Spec PyProof.Rows L2
/-! ### an empty part in a split: a sign at an end, or two side by side -/
def Gap (s : Nat) (l : List Nat) : Prop := ∃ i, l[i]? = some s ∧ (l[i + 1]? = none ∨ l[i + 1]? = some s)
theorem gap_nil (s : Nat) : ¬ Gap s [] := fun ⟨i, h, _⟩ => by simp at h
theorem gap_cons (s c : Nat) (r : List Nat) : Gap s (c :: r) ↔ (c = s ∧ (r = [] ∨ r[0]? = some s)) ∨ Gap s r := by
  constructor
  · rintro ⟨i, h1, h2⟩
    cases i with
    | zero =>
      left
      have : c = s := by simpa using h1
      refine ⟨this, ?_⟩
      rcases h2 with h2 | h2
      · left
        have : r[0]? = none := by simpa using h2
        cases r with
        | nil => rfl
        | cons x r => simp at this
      · right; simpa using h2
    | succ i => exact .inr ⟨i, by simpa using h1, by simpa using h2⟩
  · rintro (⟨rfl, h⟩ | ⟨i, h1, h2⟩)
    · refine ⟨0, by simp, ?_⟩
      rcases h with rfl | h
      · left; rfl
      · right; simpa using h
    · exact ⟨i + 1, by simpa using h1, by simpa using h2⟩
theorem split_head (s : Nat) (l : List Nat) : (splitL s l).headD [] = [] ↔ l = [] ∨ l[0]? = some s := by
  cases l with
  | nil => simp [splitL]
  | cons c r =>
    unfold splitL
    by_cases h : c = s
    · rw [if_pos h]; simp [h]
    · rw [if_neg h]; simp [h]
theorem split_tail (s : Nat) : ∀ l : List Nat, [] ∈ (splitL s l).tail ↔ Gap s l
  | [] => by simp [splitL, gap_nil]
  | c :: r => by
    rw [gap_cons, ← split_tail s r]
    by_cases h : c = s
    · have e : splitL s (c :: r) = [] :: splitL s r := by
        conv => lhs; unfold splitL
        rw [if_pos h]
      rw [e, List.tail_cons, splitL_eta s r, List.mem_cons, eq_comm, split_head]
      simp [h]
    · have e : splitL s (c :: r) = (c :: (splitL s r).headD []) :: (splitL s r).tail := by
        conv => lhs; unfold splitL
        rw [if_neg h]
      rw [e, List.tail_cons]
      simp [h]
theorem split_gap (s : Nat) (l : List Nat) : [] ∈ splitL s l ↔ l = [] ∨ l[0]? = some s ∨ Gap s l := by
  rw [splitL_eta s l, List.mem_cons, eq_comm, split_head, split_tail, or_assoc]
theorem joinL_nil (l : List (List Nat)) : TL.joinL [] l = l.flatten := by
  induction l with
  | nil => rfl
  | cons x r ih =>
    cases r with
    | nil => simp [TL.joinL]
    | cons y r => rw [TL.joinL, ih]; simp
theorem tl_empty : TL.tl (Str.ofString "") = [] := by decide +kernel
theorem tl_join0 (ys : List Str) : TL.tl (Txt.join (Str.ofString "") ys) = (ys.map TL.tl).flatten := by
  rw [TL.join_eq, TL.tl_join, tl_empty, joinL_nil]
theorem flatten_le {α : Type} {k : Nat} : ∀ l : List (List α), (∀ x ∈ l, x.length ≤ k) → l.flatten.length ≤ k * l.length
  | [], _ => Nat.le_refl _
  | x :: r, h => by
    have ih := flatten_le r fun y hy => h y (List.mem_cons_of_mem _ hy)
    have hx := h x (by simp)
    rw [List.flatten_cons, List.length_append, List.length_cons, Nat.mul_succ]
    omega
theorem chunks_len {α : Type} (k : Nat) (t : List α) : (chunks k t).length = (t.length + (k - 1)) / k := by
  unfold chunks
  rw [List.length_map, List.length_range]
theorem sum_len (ys : List Str) : (ys.map (·.length)).sum = ((ys.map TL.tl).flatten).length := by
  rw [List.length_flatten, List.map_map]
  rfl
/-! ### texts and their signs -/
theorem okS_app {x y : Str} (hx : OkS x) (hy : OkS y) : OkS (x ++ y) := fun c hc => by
  rw [TL.tl_append] at hc
  rcases List.mem_append.mp hc with h | h
  · exact hx c h
  · exact hy c h
theorem len_app (x y : Str) : (x ++ y).length = x.length + y.length := by
  rw [TL.len_tl, TL.tl_append, List.length_append, ← TL.len_tl, ← TL.len_tl]
theorem okS_cut {x : Str} (hx : OkS x) (lo hi : Option Int) : OkS (cutS x lo hi) := fun c hc => hx c (List.mem_of_mem_drop (List.mem_of_mem_take hc))
theorem okS_one {c : Nat} (h : c < 1114112) : OkS ⟨#[c]⟩ := fun d hd => by
  have : d = c := by simpa [TL.tl] using hd
  rw [this]; exact h
theorem joinL_mem (S : List Nat) : ∀ (ps : List (List Nat)) (c : Nat), c ∈ TL.joinL S ps → c ∈ S ∨ ∃ p ∈ ps, c ∈ p
  | [], c, h => by cases h
  | [p], c, h => .inr ⟨p, by simp, h⟩
  | p :: q :: r, c, h => by
    rw [TL.joinL] at h
    rcases List.mem_append.mp h with h | h
    · exact .inr ⟨p, by simp, h⟩
    · rcases List.mem_append.mp h with h | h
      · exact .inl h
      · rcases joinL_mem S (q :: r) c h with h | ⟨x, hx, hc⟩
        · exact .inl h
        · exact .inr ⟨x, List.mem_cons_of_mem _ hx, hc⟩
theorem joinL_len (S : List Nat) : ∀ (ps : List (List Nat)), (TL.joinL S ps).length ≤ (ps.map List.length).sum + ps.length * S.length
  | [] => by simp [TL.joinL]
  | [p] => by simp [TL.joinL]
  | p :: q :: r => by
    have ih := joinL_len S (q :: r)
    rw [TL.joinL, List.length_append, List.length_append, List.map_cons, List.sum_cons, List.length_cons, Nat.succ_mul]
    omega
theorem sum_le (k : Nat) : ∀ l : List Nat, (∀ x ∈ l, x ≤ k) → l.sum ≤ l.length * k
  | [], _ => by simp
  | x :: r, h => by
    have ih := sum_le k r fun y hy => h y (List.mem_cons_of_mem _ hy)
    have hx := h x (by simp)
    rw [List.sum_cons, List.length_cons, Nat.succ_mul]
    omega
theorem join_len_le {sep : Str} {ws : List Str} {k n : Nat} (hw : ∀ x ∈ ws, x.length ≤ k) (hn : ws.length ≤ n) : (ws.map (·.length)).sum + ws.length * sep.length ≤ n * (k + sep.length) := by
  have h1 := sum_le k (ws.map (·.length)) fun x hx => by
    obtain ⟨y, hy, rfl⟩ := List.mem_map.mp hx
    exact hw y hy
  rw [List.length_map] at h1
  calc (ws.map (·.length)).sum + ws.length * sep.length ≤ ws.length * k + ws.length * sep.length := Nat.add_le_add_right h1 _
    _ = ws.length * (k + sep.length) := (Nat.mul_add _ _ _).symm
    _ ≤ n * (k + sep.length) := Nat.mul_le_mul_right _ hn
theorem joined_len (sep : Str) (ws : List Str) : (Txt.join sep ws).length ≤ (ws.map (·.length)).sum + ws.length * sep.length := by
  rw [TL.len_tl, TL.join_eq, TL.tl_join]
  refine Nat.le_trans (joinL_len _ _) ?_
  rw [List.map_map, List.length_map, ← TL.len_tl]
  have : (ws.map (List.length ∘ TL.tl)) = ws.map (·.length) := List.map_congr_left fun x _ => (TL.len_tl x).symm
  rw [this]
  exact Nat.le_refl _
theorem okS_join {sep : Str} {ws : List Str} (hs : OkS sep) (hw : ∀ x ∈ ws, OkS x) : OkS (Txt.join sep ws) := fun c hc => by
  rw [TL.join_eq, TL.tl_join] at hc
  rcases joinL_mem _ _ c hc with h | ⟨p, hp, hc⟩
  · exact hs c h
  · obtain ⟨x, hx, rfl⟩ := List.mem_map.mp hp
    exact hw x hx c hc
/-- lists of truth values compared -/
theorem dpAll_bls {K : PySem.W.Frag} {H : Hp} : ∀ bs : List Bool, DpAll K H (bs.map V.bl) (bs.map PyData.bool)
  | [] => .nil
  | b :: r => .cons (.bl b) (dpAll_bls r)
theorem dp_bls {K : PySem.W.Frag} {H : Hp} {a : Addr} {bs : List Bool} (h : SqL K H a (bs.map V.bl)) : Dp K H (.ref a) (.list (bs.map PyData.bool)) := .lst h (dpAll_bls bs)
theorem lay_bls : ∀ bs : List Bool, PyData.canLayAll0 (bs.map PyData.bool) = true
  | [] => by simp [PyData.canLayAll0]
  | b :: r => by simp [PyData.canLayAll0, PyData.canLay0, lay_bls r]
theorem depth_bls : ∀ bs : List Bool, PyData.depthAll (bs.map PyData.bool) = 0
  | [] => rfl
  | _ :: r => by simp [PyData.depthAll, PyData.depth, depth_bls r]
theorem shaped_bls (bs : List Bool) : SeqAt.shaped (.list (bs.map PyData.bool)) = true := by
  simp [SeqAt.shaped, PyData.canLay0, PyData.depth, lay_bls bs, depth_bls]
theorem eqv_bls : ∀ bs cs : List Bool, PyData.eqvAll (bs.map PyData.bool) (cs.map PyData.bool) = decide (bs = cs)
  | [], [] => by simp [PyData.eqvAll]
  | [], _ :: _ => by simp [PyData.eqvAll]
  | _ :: _, [] => by simp [PyData.eqvAll]
  | b :: r, c :: q => by
    rw [List.map_cons, List.map_cons, PyData.eqvAll, PyData.eqv, eqv_bls r q]
    by_cases h : b = c <;> simp [h]
theorem eqv_blsL (bs cs : List Bool) : PyData.eqv (.list (bs.map PyData.bool)) (.list (cs.map PyData.bool)) = decide (bs = cs) := by rw [PyData.eqv, eqv_bls]
theorem lat_of {α : Type} {xs : List α} {z : Int} {j : Nat} {v : α} (e : z = (j : Int)) (h : xs[j]? = some v) : atI xs z = some v := by
  rw [e]
  exact atI_nat h
theorem getD_str (ws : List Str) (i : Nat) (hi : i < ws.length) : (ws.map V.str).getD i .non = .str (ws.getD i Str.empty) := by
  rw [List.getD_eq_getElem?_getD, List.getElem?_map, List.getElem?_eq_getElem hi, List.getD_eq_getElem?_getD, List.getElem?_eq_getElem hi]
  rfl
end LH
namespace LH
open PySem PySem.Spec PyProof.Rows L2
/-! ### and, or of values, each part told by its truth -/
theorem andV {ta tb : TE} {σ : L2.St} {H : Hp} {Q : VK} (c d : Bool) (ha : ∀ Q' : VK, Tell H (.bl c) Q' → ta σ H Q') (hb : c = true → ∀ (H1 : Hp) (Q' : VK), Same H H1 → Tell H1 (.bl d) Q' → tb σ H1 Q') (q : Tell H (.bl (c && d)) Q) : tAndV ta tb σ H Q := by
  refine ha _ fun H1 s1 => ⟨c, rfl, ?_⟩
  cases c with
  | true => exact iteT (hb rfl H1 Q s1 fun H2 s2 => q H2 (s1.trans s2))
  | false => exact iteF (q H1 s1)
theorem orV {ta tb : TE} {σ : L2.St} {H : Hp} {Q : VK} (c d : Bool) (ha : ∀ Q' : VK, Tell H (.bl c) Q' → ta σ H Q') (hb : c = false → ∀ (H1 : Hp) (Q' : VK), Same H H1 → Tell H1 (.bl d) Q' → tb σ H1 Q') (q : Tell H (.bl (c || d)) Q) : tOrV ta tb σ H Q := by
  refine ha _ fun H1 s1 => ⟨c, rfl, ?_⟩
  cases c with
  | true => exact iteT (q H1 s1)
  | false => exact iteF (hb rfl H1 Q s1 fun H2 s2 => q H2 (s1.trans s2))
/-- two blanks side by side -/
def dbl (s : Nat) (l : List Nat) : Bool := (List.range l.length).any fun i => decide (l[i]? = some s) && decide (l[i + 1]? = some s)
theorem dbl_iff (s : Nat) (l : List Nat) : dbl s l = true ↔ ∃ i, l[i]? = some s ∧ l[i + 1]? = some s := by
  unfold dbl
  rw [List.any_eq_true]
  constructor
  · rintro ⟨i, _, h⟩
    rw [Bool.and_eq_true, decide_eq_true_eq, decide_eq_true_eq] at h
    exact ⟨i, h⟩
  · rintro ⟨i, h1, h2⟩
    refine ⟨i, List.mem_range.mpr (List.getElem?_eq_some_iff.mp h1).1, ?_⟩
    rw [Bool.and_eq_true, decide_eq_true_eq, decide_eq_true_eq]
    exact ⟨h1, h2⟩
theorem take2 (s : Nat) : ∀ (l : List Nat) (i : Nat), (l.drop i).take 2 = [s, s] ↔ l[i]? = some s ∧ l[i + 1]? = some s
  | [], i => by simp
  | c :: r, 0 => by cases r <;> simp
  | c :: r, i + 1 => by simpa using take2 s r i
theorem in_two {x y : Str} {s : Nat} (hy : TL.tl y = [s, s]) : (!(Builtin.Str.occurrences x y 0 x.length 1).isEmpty) = dbl s (TL.tl x) := by
  rw [Bool.eq_iff_iff, PySem.StrLaws.found_iff, dbl_iff]
  have hyl : y.length = 2 := by rw [TL.len_tl, hy]; rfl
  constructor
  · rintro ⟨i, h1, h2⟩
    rw [PySem.StrLaws.subAt_eq, hyl] at h2
    exact ⟨i, (take2 s _ i).mp ((eq_of_beq h2).trans hy)⟩
  · rintro ⟨i, h⟩
    have hl := (List.getElem?_eq_some_iff.mp h.2).1
    refine ⟨i, by rw [hyl, TL.len_tl]; omega, ?_⟩
    rw [PySem.StrLaws.subAt_eq, hyl]
    refine beq_iff_eq.mpr ?_
    rw [show x.cps.toList = TL.tl x from rfl, (take2 s _ i).mpr h]
    exact hy.symm
theorem take1 (s : Nat) (l : List Nat) : l.take 1 = [s] ↔ l[0]? = some s := by cases l <;> simp
theorem dropL (s : Nat) (l : List Nat) : l.drop (l.length - 1) = [s] ↔ ∃ i, l[i]? = some s ∧ l[i + 1]? = none := by
  constructor
  · intro h
    refine ⟨l.length - 1, ?_, ?_⟩
    · have := congrArg (fun m : List Nat => m[0]?) h
      simpa using this
    · rw [List.getElem?_eq_none_iff]; omega
  · rintro ⟨i, h1, h2⟩
    obtain ⟨hl, e⟩ := List.getElem?_eq_some_iff.mp h1
    have hl2 := List.getElem?_eq_none_iff.mp h2
    have : i = l.length - 1 := by omega
    subst this
    rw [List.drop_eq_getElem_cons hl, e, List.drop_of_length_le (by omega)]
theorem blanks_iff (s : Nat) (l : List Nat) (h0 : l ≠ []) : (decide (l.take 1 = [s]) || (decide (l.drop (l.length - 1) = [s]) || dbl s l)) = decide ([] ∈ splitL s l) := by
  rw [Bool.eq_iff_iff, Bool.or_eq_true, Bool.or_eq_true, decide_eq_true_eq, decide_eq_true_eq, dbl_iff, decide_eq_true_eq, split_gap, take1, dropL]
  constructor
  · rintro (h | ⟨i, h1, h2⟩ | ⟨i, h1, h2⟩)
    · exact .inr (.inl h)
    · exact .inr (.inr ⟨i, h1, .inl h2⟩)
    · exact .inr (.inr ⟨i, h1, .inr h2⟩)
  · rintro (h | h | ⟨i, h1, h2 | h2⟩)
    · exact absurd h h0
    · exact .inl h
    · exact .inr (.inl ⟨i, h1, h2⟩)
    · exact .inr (.inr ⟨i, h1, h2⟩)
theorem cutS_last (z : Str) : TL.tl (cutS z (some (-1)) none) = (TL.tl z).drop ((TL.tl z).length - 1) := by
  unfold cutS
  rw [HT.sIx_none]
  have e : HT.sIx z.length 0 (some (-1)) = z.length - 1 := by
    show (if (-1 : Int) < 0 then (-1 + ((z.length : Nat) : Int)).toNat else min (-1 : Int).toNat z.length) = _
    rw [if_pos (by decide)]
    omega
  rw [e]
  show ((TL.tl z).drop (z.length - 1)).take (z.length - (z.length - 1)) = _
  rw [TL.len_tl]
  exact List.take_of_length_le (by rw [List.length_drop]; exact Nat.le_refl _)
end LH
namespace LH
open PySem PySem.Spec PyProof.Rows L2
theorem pickL {α : Type} (xs : List α) (m : Int) (h0 : 0 ≤ m) (h1 : m < xs.length) : ∃ x, x ∈ xs ∧ atI xs m = some x := by
  obtain ⟨j, rfl⟩ : ∃ j : Nat, m = (j : Int) := ⟨m.toNat, by omega⟩
  have hj : j < xs.length := by omega
  exact ⟨xs[j], List.getElem_mem hj, atI_nat (List.getElem?_eq_getElem hj)⟩
/-- a thing that is no text -/
def Odd (H : Hp) (x : V) : Prop := x = .non ∨ (∃ i, x = .int i) ∨ (∃ b, x = .bl b) ∨ ∃ a, x = .ref a ∧ ((∃ xs, H a = some (.lst xs)) ∨ (∃ xs, H a = some (.tup xs)) ∨ ∃ kvs, H a = some (.dK kvs))
theorem Odd.same {H H' : Hp} {x : V} (s : Same H H') (h : Odd H x) : Odd H' x := by
  rcases h with h | h | h | ⟨a, e, h⟩
  · exact .inl h
  · exact .inr (.inl h)
  · exact .inr (.inr (.inl h))
  · refine .inr (.inr (.inr ⟨a, e, ?_⟩))
    rcases h with ⟨xs, h⟩ | ⟨xs, h⟩ | ⟨xs, h⟩
    · exact .inl ⟨xs, s _ _ h⟩
    · exact .inr (.inl ⟨xs, s _ _ h⟩)
    · exact .inr (.inr ⟨xs, s _ _ h⟩)
theorem Odd.ty {K : PySem.W.Frag} {H : Hp} {x : V} (h : Odd H x) : ∃ t, TyX K H x t ∧ PySem.W.kitOne K t (.type "str") = some false := by
  rcases h with rfl | ⟨i, rfl⟩ | ⟨b, rfl⟩ | ⟨a, rfl, ⟨xs, h⟩ | ⟨xs, h⟩ | ⟨xs, h⟩⟩
  · exact ⟨_, .base .non, kit_ty (by decide +kernel)⟩
  · exact ⟨_, .base (.int i), kit_ty (by decide +kernel)⟩
  · exact ⟨_, .base (.bl b), kit_ty (by decide +kernel)⟩
  · exact ⟨_, .base (.lst h), kit_ty (by decide +kernel)⟩
  · exact ⟨_, .base (.tup h), kit_ty (by decide +kernel)⟩
  · exact ⟨_, .base (.dK h), kit_ty (by decide +kernel)⟩
end LH

namespace LH
open PySem PySem.Spec PyProof.Rows L2
/-! ### o[i] op= e of a list -/
def rGetL (K : PySem.W.Frag) : V → V → Hp → VK → Prop := fun o i H Q => ∃ p xs k v, o = .ref p ∧ i = .int k ∧ SqL K H p xs ∧ atI xs k = some v ∧ Q v H
theorem get_list {X : Cx} : PGet X (rGetL X.K) := by
  intro pins s σ H x y v u Q I rx ry h
  obtain ⟨p, xs, i, z, rfl, rfl, hq, he, q⟩ := h
  cases rx
  obtain ⟨t, rfl⟩ := ry
  obtain ⟨its, r, pl, hz⟩ := I.list hq
  obtain ⟨j, h1, h2, h3, h4, h5⟩ := atI_get he
  obtain ⟨w, ew, rw'⟩ := r.get h2
  have hl := r.length
  have hn := line63
  have fin : EP X pins σ Q w s := ⟨z, H, I, rw', q⟩
  by_cases h0 : 0 ≤ i
  · have hj : i.toNat = j := by
      rw [seqIndex_of h0 h5] at h1
      exact Option.some.inj h1
    exact wpAny_getItem_list pl.isList h0 (by omega) (by rw [hj]; simpa using ew) fin
  · have hj : (i + (its.toArray.size : Int)).toNat = j := by
      rw [seqIndex_neg (by omega) h4] at h1
      rw [List.size_toArray, ← hl]
      exact Option.some.inj h1
    exact wpAny_getItem_list_neg pl.isList (by omega) (by rw [List.size_toArray] <;> omega) (by omega) (by rw [hj]; simpa using ew) fin
theorem get_listK {X : Cx} (K : PySem.W.Frag) (h : X.K = K := by rfl) : PGet X (rGetL K) := h ▸ get_list
theorem ixN_last {α : Type} (xs : List α) (v : α) : ixN (xs ++ [v]).length (-1) = some xs.length := by
  have hl : (xs ++ [v]).length = xs.length + 1 := by simp
  unfold ixN
  rw [hl, if_neg (by decide), if_pos (by omega)]
  congr 1
  omega
theorem set_last {α : Type} (xs : List α) (v u : α) : (xs ++ [v]).set xs.length u = xs ++ [u] := by
  rw [List.set_append_right _ _ (Nat.le_refl _), Nat.sub_self]
  rfl
/-! ### small letters made great -/
def Sm (l : List Nat) : Prop := ∀ c ∈ l, 97 ≤ c ∧ c ≤ 122
def cap : List Nat → List Nat
  | [] => []
  | c :: r => (c - 32) :: r
theorem title_small {c : Nat} (h : 97 ≤ c ∧ c ≤ 122) : Unicode.titleOf c = [c - 32] := by
  have : ∀ d : Fin 26, Unicode.titleOf (97 + d.val) = [97 + d.val - 32] := by decide +kernel
  have e := this ⟨c - 97, by omega⟩
  rwa [show 97 + (c - 97) = c by omega] at e
theorem upper_small {c : Nat} (h : 97 ≤ c ∧ c ≤ 122) : Unicode.upperOf c = [c - 32] := by
  have : ∀ d : Fin 26, Unicode.upperOf (97 + d.val) = [97 + d.val - 32] := by decide +kernel
  have e := this ⟨c - 97, by omega⟩
  rwa [show 97 + (c - 97) = c by omega] at e
theorem lower_small {c : Nat} (h : 97 ≤ c ∧ c ≤ 122) : Unicode.lowerOf c = [c] := by
  have : ∀ d : Fin 26, Unicode.lowerOf (97 + d.val) = [97 + d.val] := by decide +kernel
  have e := this ⟨c - 97, by omega⟩
  rwa [show 97 + (c - 97) = c by omega] at e
theorem tl_placed (x : Str) (f : Nat → Nat → List Nat) : TL.tl ⟨placed x f⟩ = ((TL.tl x).mapIdx f).flatten := by
  unfold placed TL.tl
  simp only [Array.toList_flatten, Array.toList_mapIdx]
  congr 1
  apply List.ext_getElem?
  intro i
  rw [List.getElem?_map, List.getElem?_mapIdx, List.getElem?_mapIdx]
  cases x.cps.toList[i]? <;> rfl
theorem mapIdx_same {f g : Nat → Nat → List Nat} : ∀ l : List Nat, (∀ i c, l[i]? = some c → f i c = g i c) → l.mapIdx f = l.mapIdx g := fun l h => by
  apply List.ext_getElem?
  intro i
  rw [List.getElem?_mapIdx, List.getElem?_mapIdx]
  cases e : l[i]? with
  | none => rfl
  | some c => exact congrArg some (h i c e)
theorem flat_one : ∀ l : List Nat, (l.mapIdx fun _ c => [c]).flatten = l := by
  intro l
  rw [List.mapIdx_eq_zipIdx_map]
  induction l with
  | nil => rfl
  | cons c r ih =>
    have : ∀ (l : List Nat) (n : Nat), ((l.zipIdx n).map fun (p : Nat × Nat) => [p.1]).flatten = l := by
      intro l
      induction l with
      | nil => intro n; rfl
      | cons c r ih => intro n; rw [List.zipIdx_cons, List.map_cons, List.flatten_cons, ih]; rfl
    exact this _ 0
theorem cap_eq (x : Str) (h : Sm (TL.tl x)) : TL.tl (Txt.capitalize x) = cap (TL.tl x) := by
  unfold Txt.capitalize
  by_cases h0 : (x.length == 0) = true
  · rw [if_pos h0]
    have : TL.tl x = [] := by
      have e := eq_of_beq h0
      rw [TL.len_tl] at e
      exact List.length_eq_zero_iff.mp e
    rw [this]
    rfl
  · rw [if_neg h0]
    unfold Txt.capitalized
    rw [tl_placed, mapIdx_same (g := fun i c => if i = 0 then [c - 32] else [c]) _ fun i c hc => ?_]
    · cases e : TL.tl x with
      | nil => rfl
      | cons c r =>
        rw [List.mapIdx_cons, List.flatten_cons]
        show [c - 32] ++ _ = (c - 32) :: r
        have : (r.mapIdx fun i c => if i + 1 = 0 then [c - 32] else [c]) = r.mapIdx fun _ c => [c] := mapIdx_same r fun i c _ => if_neg (by omega)
        rw [this, flat_one]
        rfl
    · have hm := h c (List.mem_of_getElem? hc)
      by_cases hi : i = 0
      · subst hi
        exact title_small hm
      · have hb : (i == 0) = false := by simpa using hi
        rw [if_neg hi]
        show (if (i == 0) = true then Unicode.titleOf c else Unicode.lowerAt x.cps i) = [c]
        rw [hb, if_neg Bool.false_ne_true]
        unfold Unicode.lowerAt
        have ec : x.cps[i]? = some c := by rw [← hc]; exact Array.getElem?_toList.symm
        rw [ec]
        show (if (c == 0x3A3 && Unicode.endsWord x.cps i) = true then [0x3C2] else Unicode.lowerOf c) = [c]
        have hb2 : (c == 0x3A3) = false := by simp; omega
        rw [hb2, Bool.false_and, if_neg Bool.false_ne_true]
        exact lower_small hm
theorem upper_eq (x : Str) (h : Sm (TL.tl x)) : TL.tl (Txt.upper x) = (TL.tl x).map fun c => c - 32 := by
  unfold Txt.upper
  rw [tl_placed, mapIdx_same (g := fun _ c => [c - 32]) _ fun i c hc => upper_small (h c (List.mem_of_getElem? hc))]
  generalize TL.tl x = l
  have : (l.mapIdx fun _ c => [c - 32]) = (l.map fun c => c - 32).mapIdx fun _ c => [c] := by
    apply List.ext_getElem?
    intro i
    rw [List.getElem?_mapIdx, List.getElem?_mapIdx, List.getElem?_map]
    cases l[i]? <;> rfl
  rw [this, flat_one]
theorem upper_cap (x : Str) (h : Sm (TL.tl x)) : TL.tl (Txt.upper (cutS x none (some 1)) ++ cutS x (some 1) none) = cap (TL.tl x) := by
  have e1 : TL.tl (cutS x none (some 1)) = (TL.tl x).take 1 := by rw [show (1 : Int) = ((1 : Nat) : Int) from rfl, cutS_to]
  have e2 : TL.tl (cutS x (some 1) none) = (TL.tl x).drop 1 := by rw [show (1 : Int) = ((1 : Nat) : Int) from rfl, cutS_from]
  rw [TL.tl_append, upper_eq _ (by rw [e1]; exact fun c hc => h c (List.mem_of_mem_take hc)), e1, e2]
  cases TL.tl x with
  | nil => rfl
  | cons c r => simp [cap]
theorem cap_len (l : List Nat) : (cap l).length = l.length := by cases l <;> rfl
/-! ### words of a text -/
/-- a word's signs: none of them a blank -/
def WordL (l : List Nat) : Prop := l ≠ [] ∧ ∀ c ∈ l, 33 ≤ c ∧ c ≤ 126 ∧ c ≠ 37
theorem space_no {c : Nat} (h : 33 ≤ c ∧ c ≤ 126) : Unicode.isSpace c = false := by
  have : ∀ d : Fin 94, Unicode.isSpace (33 + d.val) = false := by decide +kernel
  have e := this ⟨c - 33, by omega⟩
  rwa [show 33 + (c - 33) = c by omega] at e
theorem words_join (ws : List Str) (h : ∀ x ∈ ws, WordL (TL.tl x)) (sp : Str) (hs : TL.tl sp = [32]) : Txt.words (Txt.join sp ws) = ws := by
  refine TL.map_tl_inj ?_
  rw [TL.words_tl, TL.join_eq, TL.tl_join, hs]
  cases ws with
  | nil => rfl
  | cons x r =>
    rw [TL.wfold_join _ _ (by simp) fun p hp => ?_, List.nil_append]
    obtain ⟨y, hy, rfl⟩ := List.mem_map.mp hp
    exact ⟨(h y hy).1, fun c hc => space_no ⟨((h y hy).2 c hc).1, ((h y hy).2 c hc).2.1⟩⟩
/-! ### joined by a sign and split there again -/
theorem splitL_app (s : Nat) (w r : List Nat) (hw : s ∉ w) : splitL s (w ++ s :: r) = w :: splitL s r := by
  induction w with
  | nil => simp [splitL]
  | cons c w ih =>
    have hc : c ≠ s := fun h => hw (by rw [h]; exact List.mem_cons_self)
    have ih' := ih fun h => hw (List.mem_cons_of_mem _ h)
    show splitL s (c :: (w ++ s :: r)) = _
    rw [splitL, if_neg hc, ih']
    rfl
theorem splitL_self (s : Nat) (w : List Nat) (hw : s ∉ w) : splitL s w = [w] := by
  induction w with
  | nil => rfl
  | cons c w ih =>
    have hc : c ≠ s := fun h => hw (by rw [h]; exact List.mem_cons_self)
    rw [splitL, if_neg hc, ih fun h => hw (List.mem_cons_of_mem _ h)]
    rfl
theorem splitL_join (s : Nat) : ∀ ps : List (List Nat), ps ≠ [] → (∀ p ∈ ps, s ∉ p) → splitL s (TL.joinL [s] ps) = ps
  | [], h, _ => absurd rfl h
  | [p], _, h => splitL_self s p (h p (by simp))
  | p :: q :: r, _, h => by
    rw [TL.joinL]
    show splitL s (p ++ s :: TL.joinL [s] (q :: r)) = _
    rw [splitL_app s p _ (h p (by simp)), splitL_join s (q :: r) (by simp) fun x hx => h x (List.mem_cons_of_mem _ hx)]
/-! ### a header's rows -/
def hstep (st : List (List Nat) × List Nat) (w : List Nat) : List (List Nat) × List Nat :=
  if 60 < st.2.length + 1 + w.length then (st.1 ++ [st.2], 32 :: w) else (st.1, st.2 ++ 32 :: w)
def great (l : List Nat) : List Nat := TL.joinL [45] ((splitL 45 l).map cap)
def hfold (l : List Nat) (ws : List (List Nat)) : List (List Nat) × List Nat := ws.foldl hstep ([], great l ++ [58])
def hrows (l : List Nat) (ws : List (List Nat)) : List (List Nat) := (hfold l ws).1 ++ [(hfold l ws).2]
def strL (ls : List (List Nat)) : List Str := ls.map fun l => ⟨l.toArray⟩
theorem strL_app (a b : List (List Nat)) : strL (a ++ b) = strL a ++ strL b := by unfold strL; rw [List.map_append]
theorem hfold_snoc (l : List Nat) (ws : List (List Nat)) (w : List Nat) : hfold l (ws ++ [w]) = hstep (hfold l ws) w := by
  unfold hfold
  rw [List.foldl_append]
  rfl
theorem foldl_rev_ind {P : List (List Nat) → Prop} (h0 : P []) (hs : ∀ ws w, P ws → P (ws ++ [w])) : ∀ ws, P ws := by
  intro ws
  have key : ∀ r : List (List Nat), P r.reverse := by
    intro r
    induction r with
    | nil => exact h0
    | cons w r ih => rw [List.reverse_cons]; exact hs _ _ ih
  have := key ws.reverse
  rwa [List.reverse_reverse] at this
theorem hfold_len (l : List Nat) (hl : (great l).length ≤ 59) : ∀ ws : List (List Nat), (∀ w ∈ ws, w.length ≤ 59) → (hfold l ws).2.length ≤ 60 ∧ (∀ r ∈ (hfold l ws).1, r.length ≤ 60) ∧ (hfold l ws).1.length ≤ ws.length := by
  refine foldl_rev_ind (P := fun ws => (∀ w ∈ ws, w.length ≤ 59) → (hfold l ws).2.length ≤ 60 ∧ (∀ r ∈ (hfold l ws).1, r.length ≤ 60) ∧ (hfold l ws).1.length ≤ ws.length) ?_ ?_
  · intro _
    refine ⟨?_, (fun r hr => by cases hr), Nat.le_refl _⟩
    show (great l ++ [58]).length ≤ 60
    rw [List.length_append, List.length_singleton]
    omega
  · intro ws w ih h
    obtain ⟨h1, h2, h3⟩ := ih fun x hx => h x (by simp [hx])
    have hw := h w (by simp)
    rw [hfold_snoc]
    unfold hstep
    split
    · refine ⟨by simp only [List.length_cons]; omega, fun r hr => ?_, by simp only [List.length_append, List.length_singleton]; omega⟩
      rcases List.mem_append.mp hr with hr | hr
      · exact h2 r hr
      · rw [List.mem_singleton.mp hr]; exact h1
    · refine ⟨by simp only [List.length_append, List.length_cons]; omega, h2, by simp only [List.length_append, List.length_singleton]; omega⟩
theorem hfold_ok (l : List Nat) (hl : ∀ c ∈ great l, c < 1114112) : ∀ ws : List (List Nat), (∀ w ∈ ws, ∀ c ∈ w, c < 1114112) → (∀ c ∈ (hfold l ws).2, c < 1114112) ∧ ∀ r ∈ (hfold l ws).1, ∀ c ∈ r, c < 1114112 := by
  refine foldl_rev_ind (P := fun ws => (∀ w ∈ ws, ∀ c ∈ w, c < 1114112) → (∀ c ∈ (hfold l ws).2, c < 1114112) ∧ ∀ r ∈ (hfold l ws).1, ∀ c ∈ r, c < 1114112) ?_ ?_
  · intro _
    refine ⟨fun c hc => ?_, fun r hr => by cases hr⟩
    rcases List.mem_append.mp (show c ∈ great l ++ [58] from hc) with h | h
    · exact hl c h
    · rw [List.mem_singleton.mp h]; decide
  · intro ws w ih h
    obtain ⟨h1, h2⟩ := ih fun x hx => h x (by simp [hx])
    have hw := h w (by simp)
    have hw' : ∀ c ∈ 32 :: w, c < 1114112 := fun c hc => by
      rcases List.mem_cons.mp hc with rfl | hc
      · decide
      · exact hw c hc
    rw [hfold_snoc]
    unfold hstep
    split
    · refine ⟨hw', fun r hr => ?_⟩
      rcases List.mem_append.mp hr with hr | hr
      · exact h2 r hr
      · rw [List.mem_singleton.mp hr]; exact h1
    · refine ⟨fun c hc => ?_, h2⟩
      rcases List.mem_append.mp hc with h | h
      · exact h1 c h
      · exact hw' c h
end LH

namespace LH
open PySem PySem.Spec PyProof.Rows L2 Builtin Builtin.Str PySem.StrLaws
/-! ### a text of which nothing is left when some signs are taken from its ends -/
theorem has_mem (y : Str) (c : Nat) : y.cps.contains c = decide (c ∈ TL.tl y) := by
  show y.cps.contains c = decide (c ∈ y.cps.toList)
  simp
theorem strip_none (x y : Str) : (Txt.stripChars x y = ⟨#[]⟩) ↔ (TL.tl x).all (fun c => decide (c ∈ TL.tl y)) = true := by
  have hl : x.cps.toList.length = x.length := by simp [Str.length]
  unfold Txt.stripChars
  rw [stripBy_eq]
  obtain ⟨l1, l2, l3⟩ := lo_facts y.cps.contains x
  obtain ⟨h1, h2, h3, h4⟩ := hi_facts y.cps.contains x (stripLo y.cps.contains true x) l1
  generalize stripLo y.cps.contains true x = lo at *
  generalize stripHi y.cps.contains true x lo = hi at *
  have hs : (strSub x lo hi).cps.toList = (x.cps.toList.drop lo).take (hi - lo) := strSub_toList ..
  have hg : ∀ k, k < x.length → (x.cps.getD k 0) ∈ x.cps.toList := fun k hk => by
    rw [← getD_list, List.getD_eq_getElem?_getD, List.getElem?_eq_getElem (by rw [hl]; exact hk)]
    exact List.getElem_mem _
  rw [List.all_eq_true]
  constructor
  · intro e c hc
    have e0 : (x.cps.toList.drop lo).take (hi - lo) = [] := by rw [← hs, e]
    have e1 : hi = lo := by
      have := congrArg List.length e0
      rw [List.length_take, List.length_drop, hl, List.length_nil] at this
      omega
    have hc' : c ∈ x.cps.toList := hc
    obtain ⟨k, hk, e2⟩ := List.getElem_of_mem hc'
    have ek : c = x.cps.getD k 0 := by
      rw [← getD_list, List.getD_eq_getElem?_getD, List.getElem?_eq_getElem hk, ← e2]; rfl
    rw [hl] at hk
    rw [← has_mem, ek]
    by_cases hkl : k < lo
    · exact l2 k hkl
    · exact h3 k (by omega) hk
  · intro ha
    have hb : ∀ k, k < x.length → y.cps.contains (x.cps.getD k 0) = true := fun k hk => by rw [has_mem]; exact ha _ (hg k hk)
    have : lo = x.length := by
      rcases l3 with h | h
      · exact h
      · by_cases hlt : lo < x.length
        · rw [hb lo hlt] at h; cases h
        · omega
    have e : (x.cps.toList.drop lo).take (hi - lo) = [] := by
      apply List.eq_nil_of_length_eq_zero
      rw [List.length_take, List.length_drop, hl]; omega
    apply TL.ext_tl
    show (strSub x lo hi).cps.toList = []
    rw [hs, e]
theorem strip_eq (x y : Str) : decide (V.str (Txt.stripChars x y) = V.str (Str.ofString "")) = (TL.tl x).all (fun c => decide (c ∈ TL.tl y)) := by
  have e0 : (Str.ofString "") = ⟨#[]⟩ := by decide +kernel
  rw [e0]
  by_cases h : (TL.tl x).all (fun c => decide (c ∈ TL.tl y)) = true
  · rw [h, decide_eq_true (congrArg V.str ((strip_none x y).mpr h))]
  · rw [Bool.not_eq_true] at h
    rw [h, decide_eq_false (fun e => by rw [(strip_none x y).mp (V.str.inj e)] at h; cases h)]
end LH
namespace K01
open PySem PySem.Spec PyProof.Rows L2 LH
def topS (i : Nat) : Stmt := PySem.Challenge.pw_letterhouse_k01_headers_folded.main.body.getD i (.Pass ⟨0, 0, 0, 0⟩)
def SMALL : Str := Str.ofString "abcdefghijklmnopqrstuvwxyz"
structure Tx (mg : Str → Option Value) (tk : Nat → Tok) : Prop where
  n_all : mg "all" = none
  n_any : mg "any" = none
  n_enumerate : mg "enumerate" = none
  n_int : mg "int" = none
  n_isinstance : mg "isinstance" = none
  n_len : mg "len" = none
  n_list : mg "list" = none
  n_max : mg "max" = none
  n_min : mg "min" = none
  n_ord : mg "ord" = none
  n_range : mg "range" = none
  n_str : mg "str" = none
  m_PERCENT : mg "PERCENT" = some (.int 37 (tk 0))
  m_SMALL : mg "SMALL" = some (.str SMALL (tk 1))
  m_ROW_SIGNS : mg "ROW_SIGNS" = some (.int 60 (tk 2))
  m_HEADER_WORDS : mg "HEADER_WORDS" = some (.int 3 (tk 3))
  m_HEADER_LETTERS : mg "HEADER_LETTERS" = some (.int 8 (tk 4))
end K01

namespace K01
open PySem PySem.Spec PyProof.Rows L2 LH
section
variable {P : Program} {w : World} {K : PySem.W.Frag} {mg : Str → Option Value} {base : Heap} {tk : Nat → Tok}
def isSign (c : Nat) : Bool := decide (32 ≤ c) && decide (c ≤ 126) && !decide (c = 37)
def isSmall (c : Nat) : Bool := decide (c ∈ TL.tl SMALL)
def smallW (l : List Nat) (m : Nat) : Bool := decide (1 ≤ l.length) && decide (l.length ≤ m) && l.all isSmall
def isHN (l : List Nat) : Bool := decide ((splitL 45 l).length ≤ 3) && (splitL 45 l).all fun x => smallW x 8
def isVal (l : List Nat) : Bool := l.all isSign && (decide (l = []) || !decide ([] ∈ splitL 32 l))
/-- a thing that is no text -/
def NoStr (K : PySem.W.Frag) (H : Hp) (x : V) : Prop := ∃ t, TyX K H x t ∧ PySem.W.kitOne K t (.type "str") = some false
/-! ### is_sign -/
abbrev s_is_sign : Stmt := topS 8
abbrev N_is_sign : List Str := ["sign"]
abbrev P_is_sign : List Str := ["sign"]
theorem sc_is_sign : FnScope N_is_sign ["sign"] (defScope s_is_sign) := ⟨rfl, rfl, rfl, by decide +kernel, rfl, by decide +kernel, by decide +kernel⟩
def sp_is_sign : Sp := fun vs H Q _ => ∃ c : Nat, vs = [.str ⟨#[c]⟩] ∧ Tell H (.bl (isSign c)) Q
theorem ok_is_sign {f : Addr} {fd : FuncData} {k : Nat} (F : Fun K "is_sign" "is_sign" s_is_sign f fd) (T : Tx mg tk) : FnOk P w K mg base CX0 (k + 1) f fd ["sign"] sp_is_sign := by
  refine F.ok sc_is_sign (fun vs H Q E h => ?_) (fun cdv A outer s H vs Q E hr h => ?_)
  · obtain ⟨i, rfl, _⟩ := h
    rfl
  · have nd := sc_is_sign.nd
    obtain ⟨c, rfl, q⟩ := h
    refine ⟨_, (pss_one (ps_ret (pe_and (pe_chain op_le_str op_le_str pe_str (pv 0) pe_str) (pe_one (pe_cmpR op_ne (pe_callB call_ord (by rfl) T.n_ord (by decide +kernel) (pa_cons (pv 0) pa_nil)) (pe_glob (v := .int 37) (by rfl) T.m_PERCENT ⟨_, rfl⟩) (nomark _)))))), ?_⟩
    refine ⟨.str ⟨#[c]⟩, rfl, Str.ofString " ", ⟨#[c]⟩, rfl, rfl, _, rfl, ?_⟩
    have e1 : (!decide ((⟨#[c]⟩ : Str).cps.toList < (Str.ofString " ").cps.toList)) = decide (32 ≤ c) := by
      rw [show (Str.ofString " ").cps.toList = [32] by decide +kernel]
      show (!decide ([c] < [32])) = _
      by_cases h : 32 ≤ c
      · rw [decide_eq_true h, decide_eq_false (by simp [List.cons_lt_cons_iff]; omega)]; rfl
      · rw [decide_eq_false h, decide_eq_true (by simp [List.cons_lt_cons_iff]; omega)]; rfl
    have e2 : (!decide ((Str.ofString "~").cps.toList < (⟨#[c]⟩ : Str).cps.toList)) = decide (c ≤ 126) := by
      rw [show (Str.ofString "~").cps.toList = [126] by decide +kernel]
      show (!decide ([126] < [c])) = _
      by_cases h : c ≤ 126
      · rw [decide_eq_true h, decide_eq_false (by simp [List.cons_lt_cons_iff]; omega)]; rfl
      · rw [decide_eq_false h, decide_eq_true (by simp [List.cons_lt_cons_iff]; omega)]; rfl
    have q0 := q H (Same.refl _)
    unfold isSign at q0
    rw [e1]
    by_cases h1 : 32 ≤ c
    · rw [decide_eq_true h1] at q0 ⊢
      refine iteT ⟨_, _, rfl, rfl, _, rfl, ?_⟩
      rw [e2]
      by_cases h2 : c ≤ 126
      · rw [decide_eq_true h2] at q0 ⊢
        refine iteT ⟨.str ⟨#[c]⟩, rfl, ⟨#[c]⟩, rfl, rfl, ?_⟩
        refine ⟨rfl, ?_⟩
        have e3 : (!decide (V.int (((⟨#[c]⟩ : Str).cps.getD 0 0 : Nat) : Int) = V.int 37)) = !decide (c = 37) := by
          show (!decide (V.int (c : Int) = V.int 37)) = _
          congr 1
          by_cases h : c = 37
          · subst h; rfl
          · rw [decide_eq_false h, decide_eq_false (fun z => h (by have := V.int.inj z; omega))]
        rw [e3]
        exact q0
      · rw [decide_eq_false h2] at q0 ⊢
        refine iteF q0
    · rw [decide_eq_false h1] at q0 ⊢
      refine iteF ⟨false, rfl, iteF q0⟩
/-! ### is_small_word -/
abbrev s_is_small_word : Stmt := topS 13
abbrev N_is_small_word : List Str := ["text", "most"]
abbrev P_is_small_word : List Str := ["text", "most"]
theorem sc_is_small_word : FnScope N_is_small_word ["text", "most"] (defScope s_is_small_word) := ⟨rfl, rfl, rfl, by decide +kernel, rfl, by decide +kernel, by decide +kernel⟩
def sp_small_word : Sp := fun vs H Q _ => ∃ (z : Str) (m : Nat), vs = [.str z, .int (m : Int)] ∧ z.length ≤ 100000 ∧ Tell H (.bl (smallW (TL.tl z) m)) Q
theorem ok_small_word {f : Addr} {fd : FuncData} {k : Nat} (F : Fun K "is_small_word" "is_small_word" s_is_small_word f fd) (T : Tx mg tk) : FnOk P w K mg base CX0 (k + 1) f fd ["text", "most"] sp_small_word := by
  refine F.ok sc_is_small_word (fun vs H Q E h => ?_) (fun cdv A outer s H vs Q E hr h => ?_)
  · obtain ⟨i, m, rfl, _⟩ := h
    rfl
  · have nd := sc_is_small_word.nd
    obtain ⟨z, m, rfl, hz, q⟩ := h
    refine ⟨_, (pss_one (ps_ret (pe_and (pe_chain op_le op_le pe_int (pe_callB call_len_str (by rfl) T.n_len (by decide +kernel) (pa_cons (pv 0) pa_nil)) (pv 1)) (pe_one (pe_cmpR op_eq (pe_m1 PySem.F.slot_str_strip PySem.F.type_str_strip mt_stripChars (pv 0) (pe_glob (v := .str SMALL) (by rfl) T.m_SMALL ⟨_, rfl⟩)) pe_str (nomark _)))))), ?_⟩
    have hzl : z.length = (TL.tl z).length := TL.len_tl z
    have hsl : z.length ≤ sizeLine := by rw [sizeLine_eq]; omega
    refine ⟨.str z, rfl, z, rfl, hsl, 1, _, rfl, rfl, _, rfl, ?_⟩
    have q0 := q H (Same.refl _)
    unfold smallW at q0 q
    by_cases h1 : 1 ≤ (TL.tl z).length
    · rw [decide_eq_true (show (1 : Int) ≤ ((z.length : Nat) : Int) by omega)]
      rw [decide_eq_true h1] at q0 q
      refine iteT ⟨.int m, rfl, _, _, rfl, rfl, _, rfl, ?_⟩
      by_cases h2 : (TL.tl z).length ≤ m
      · rw [decide_eq_true (show ((z.length : Nat) : Int) ≤ (m : Int) by omega)]
        rw [decide_eq_true h2] at q0 q
        refine iteT ⟨.str z, rfl, ⟨_, rfl⟩, z, SMALL, rfl, rfl, hsl, ?_⟩
        refine ⟨rfl, ?_⟩
        rw [strip_eq]
        exact q0
      · rw [decide_eq_false (show ¬ ((z.length : Nat) : Int) ≤ (m : Int) by omega)]
        rw [decide_eq_false h2] at q0
        exact iteF q0
    · rw [decide_eq_false (show ¬ (1 : Int) ≤ ((z.length : Nat) : Int) by omega)]
      rw [decide_eq_false h1] at q0
      exact iteF ⟨false, rfl, iteF q0⟩
/-! ### is_header_name -/
abbrev s_is_header_name : Stmt := topS 14
abbrev N_is_header_name : List Str := ["thing", "words", "word"]
abbrev P_is_header_name : List Str := ["thing"]
theorem sc_is_header_name : FnScope N_is_header_name ["thing"] (defScope s_is_header_name) := ⟨rfl, rfl, rfl, by decide +kernel, rfl, by decide +kernel, by decide +kernel⟩
def sp_header_name (K : PySem.W.Frag) : Sp := fun vs H Q _ => ∃ x : V, vs = [x] ∧ ((∃ z : Str, x = .str z ∧ z.length ≤ 100000 ∧ Tell H (.bl (isHN (TL.tl z))) Q) ∨ (NoStr K H x ∧ Tell H (.bl false) Q))
theorem ok_header_name {f fS : Addr} {fd fdS : FuncData} (F : Fun K "is_header_name" "is_header_name" s_is_header_name f fd) (T : Tx mg tk) (D_is_small_word : Def P w K mg base "is_small_word" 1 fS fdS ["text", "most"] sp_small_word) : FnOk P w K mg base CX0 2 f fd ["thing"] (sp_header_name K) := by
  refine F.ok sc_is_header_name (fun vs H Q E h => ?_) (fun cdv A outer s H vs Q E hr h => ?_)
  · obtain ⟨x, rfl, _⟩ := h
    rfl
  · have nd := sc_is_header_name.nd
    obtain ⟨x, rfl, h⟩ := h
    refine ⟨_, (pss_cons (ps_if (pt_not (pt_val (pe_callB (cIsi K) (by rfl) T.n_isinstance (by decide +kernel) (pa_cons (pv 0) (pa_cons (pe_bltn (v := .ty "str") (by rfl) T.n_str (by decide +kernel) rfl) pa_nil)))))
        (pss_one (ps_ret pe_bl))
        pss_nil)
      (pss_cons (ps_set (i := 1) nd rfl (.inl rfl) (pe_split (pv 0) pe_str))
      (pss_one (ps_ret (pe_and (pe_cmpR op_le (pe_callB (cLen K) (by rfl) T.n_len (by decide +kernel) (pa_cons (pv 1) pa_nil)) (pe_glob (v := .int 3) (by rfl) T.m_HEADER_WORDS ⟨_, rfl⟩) (nomark _)) (pe_one (pe_callB (cAll K) (by rfl) T.n_all (by decide +kernel) (pa_cons (pe_lc (own := [("word", 2)]) (g := gName 2) (by rfl) nd (pi_list (pv 1)) (blkOk_by (N := N_is_header_name) (sc := defScope s_is_header_name) (by decide +kernel)) (fun _ _ _ _ _ => (pg_name (i := 2) nd rfl (Or.inl rfl))) (fun _ _ _ _ _ => pts_nil) (fun _ _ _ _ _ => (pe_def D_is_small_word (hr.mono (by decide)) (pa_cons (pv 2) (pa_cons (pe_glob (v := .int 8) (by rfl) T.m_HEADER_LETTERS ⟨_, rfl⟩) pa_nil))))) pa_nil)))))))), ?_⟩
    rcases h with ⟨z, rfl, hz, q⟩ | ⟨⟨t, ty, hk⟩, q⟩
    · refine ⟨.str z, rfl, .str z, .ty "str", _, _, true, rfl, .ty _, .base (.str z), kit_ty (by decide +kernel), true, rfl, iteF ?_⟩
      have hzl : z.length = (TL.tl z).length := TL.len_tl z
      have hsp := split_tl (x := z) (y := Str.ofString "-") (s := 45) (by decide +kernel) (by decide)
      refine ⟨.str z, rfl, ⟨_, rfl⟩, z, Str.ofString "-", rfl, rfl, by decide +kernel, by rw [sizeLine_eq]; omega, fun p np => ?_⟩
      have s1 := same_upd (o := .lst ((Txt.split z (Str.ofString "-")).map V.str)) np
      generalize Txt.split z (Str.ofString "-") = ws at *
      have hwl : ws.length = (splitL 45 (TL.tl z)).length := by rw [← hsp, List.length_map]
      have hlw := splitL_len 45 (TL.tl z)
      refine ⟨.ref p, rfl, p, _, rfl, .inl (.inl (.inl upd_same)), _, _, rfl, rfl, _, rfl, ?_⟩
      have hm : (ws.map V.str).length = ws.length := List.length_map ..
      rw [hm]
      have q0 := q _ s1
      unfold isHN at q0 q
      by_cases h1 : (splitL 45 (TL.tl z)).length ≤ 3
      · rw [decide_eq_true (show ((ws.length : Nat) : Int) ≤ 3 by omega)]
        rw [decide_eq_true h1] at q
        refine iteT ⟨.ref p, rfl, p, rfl, ⟨_, .inl (.inl upd_same)⟩, fun D hD => lc_pure (fun i => (ws.map V.str).getD i .non) (fun i => .bl (smallW (TL.tl (ws.getD i Str.empty)) 8)) walk_listF (fun H1 sm => sm.seq (.inl (.inl upd_same))) hD (by rw [hm, sizeLine_eq]; omega) (fun i H1 Q1 hi sm q1 => ?_) (fun H1 sm e => ?_)⟩
        · rw [hm] at hi
          have ei : (ws.map V.str).getD i .non = .str (ws.getD i Str.empty) := by
            rw [List.getD_eq_getElem?_getD, List.getElem?_map, List.getElem?_eq_getElem hi, List.getD_eq_getElem?_getD, List.getElem?_eq_getElem hi]
            rfl
          rw [ei]
          refine ⟨.str (ws.getD i Str.empty), rfl, ws.getD i Str.empty, 8, rfl, ?_, q1⟩
          have hmem : TL.tl (ws.getD i Str.empty) ∈ splitL 45 (TL.tl z) := by
            rw [← hsp, List.getD_eq_getElem?_getD, List.getElem?_eq_getElem hi]
            exact List.mem_map.mpr ⟨ws[i], List.getElem_mem hi, rfl⟩
          have := splitL_le 45 (TL.tl z) _ hmem
          rw [TL.len_tl]
          omega
        · refine ⟨D, (List.range ws.length).map fun i => smallW (TL.tl (ws.getD i Str.empty)) 8, rfl, .inl (.inl (by rw [e, hm, List.map_map]; rfl)), ?_⟩
          rw [lall_range ws Str.empty fun x => smallW (TL.tl x) 8]
          have ea : (ws.all fun x => smallW (TL.tl x) 8) = (splitL 45 (TL.tl z)).all fun x => smallW x 8 := by
            rw [← hsp, List.all_map]
            rfl
          rw [ea]
          exact q _ (s1.trans sm)
      · rw [decide_eq_false (show ¬ ((ws.length : Nat) : Int) ≤ 3 by omega)]
        rw [decide_eq_false h1] at q0
        exact iteF q0
    · exact ⟨x, rfl, x, .ty "str", t, _, false, rfl, .ty _, ty, hk, false, rfl, iteT (q _ (Same.refl _))⟩
/-! ### is_value -/
abbrev s_is_value : Stmt := topS 15
abbrev N_is_value : List Str := ["thing", "sign"]
abbrev P_is_value : List Str := ["thing"]
theorem sc_is_value : FnScope N_is_value ["thing"] (defScope s_is_value) := ⟨rfl, rfl, rfl, by decide +kernel, rfl, by decide +kernel, by decide +kernel⟩
def sp_value (K : PySem.W.Frag) : Sp := fun vs H Q _ => ∃ x : V, vs = [x] ∧ ((∃ z : Str, x = .str z ∧ z.length ≤ 100000 ∧ Tell H (.bl (isVal (TL.tl z))) Q) ∨ (NoStr K H x ∧ Tell H (.bl false) Q))
theorem ok_value {f fS : Addr} {fd fdS : FuncData} (F : Fun K "is_value" "is_value" s_is_value f fd) (T : Tx mg tk) (D_is_sign : Def P w K mg base "is_sign" 1 fS fdS ["sign"] sp_is_sign) : FnOk P w K mg base CX0 2 f fd ["thing"] (sp_value K) := by
  refine F.ok sc_is_value (fun vs H Q E h => ?_) (fun cdv A outer s H vs Q E hr h => ?_)
  · obtain ⟨x, rfl, _⟩ := h
    rfl
  · have nd := sc_is_value.nd
    obtain ⟨x, rfl, h⟩ := h
    refine ⟨_, (pss_cons (ps_if (PW.pt (pw_or (pt_not (pt_val (pe_callB (cIsi K) (by rfl) T.n_isinstance (by decide +kernel) (pa_cons (pv 0) (pa_cons (pe_bltn (v := .ty "str") (by rfl) T.n_str (by decide +kernel) rfl) pa_nil))))) (pw_or1 (pt_not (pt_val (pe_callB (cAll K) (by rfl) T.n_all (by decide +kernel) (pa_cons (pe_lc (own := [("sign", 1)]) (g := gName 1) (by rfl) nd (pi_str (pv 0)) (blkOk_by (N := N_is_value) (sc := defScope s_is_value) (by decide +kernel)) (fun _ _ _ _ _ => (pg_name (i := 1) nd rfl (Or.inl rfl))) (fun _ _ _ _ _ => pts_nil) (fun _ _ _ _ _ => (pe_def D_is_sign (hr.mono (by decide)) (pa_cons (pv 1) pa_nil)))) pa_nil)))))))
        (pss_one (ps_ret pe_bl))
        pss_nil)
      (pss_one (ps_ret (pe_or (pe_cmpR op_eq (pv 0) pe_str (nomark _)) (pe_one (pe_cmpR (oNotIn K) pe_str (pe_split (pv 0) pe_str) (by rfl))))))), ?_⟩
    rcases h with ⟨z, rfl, hz, q⟩ | ⟨⟨t, ty, hk⟩, q⟩
    · refine ⟨.str z, rfl, .str z, .ty "str", _, _, true, rfl, .ty _, .base (.str z), kit_ty (by decide +kernel), true, rfl, iteF ?_⟩
      have hzl : z.length = (TL.tl z).length := TL.len_tl z
      have hsl : z.length ≤ sizeLine := by rw [sizeLine_eq]; omega
      unfold isVal at q
      refine ⟨.str z, rfl, z, rfl, fun D hD => lc_pure (fun i => .str ⟨#[(TL.tl z).getD i 0]⟩) (fun i => .bl (isSign ((TL.tl z).getD i 0))) walk_strF (fun _ _ => trivial) hD (by rw [← hzl]; exact hsl) (fun i H1 Q1 hi sm q1 => ?_) (fun H1 sm e => ?_)⟩
      · exact ⟨.str ⟨#[(TL.tl z).getD i 0]⟩, rfl, (TL.tl z).getD i 0, rfl, q1⟩
      · refine ⟨D, (List.range (TL.tl z).length).map fun i => isSign ((TL.tl z).getD i 0), rfl, .inl (.inl (by rw [e, List.map_map]; rfl)), _, rfl, ?_⟩
        rw [lall_range]
        cases hs : (TL.tl z).all isSign with
        | false =>
          rw [hs] at q
          exact iteT (q _ sm)
        | true =>
          rw [hs] at q
          refine iteF ⟨.str z, rfl, rfl, _, rfl, ?_⟩
          have hsp := split_tl (x := z) (y := Str.ofString " ") (s := 32) (by decide +kernel) (by decide)
          by_cases h0 : TL.tl z = []
          · have ez : z = Str.ofString "" := TL.ext_tl (by rw [h0]; decide +kernel)
            rw [decide_eq_true h0] at q
            rw [ez, decide_eq_true rfl]
            exact iteT (q _ sm)
          · have ez : ¬ z = Str.ofString "" := fun h => h0 (by rw [h]; decide +kernel)
            rw [decide_eq_false h0] at q
            rw [decide_eq_false (show ¬ V.str z = V.str (Str.ofString "") from fun h => ez (V.str.inj h))]
            refine iteF ⟨.str z, rfl, ⟨_, rfl⟩, z, Str.ofString " ", rfl, rfl, by decide +kernel, by rw [sizeLine_eq]; omega, fun p np => ?_⟩
            have s1 := same_upd (o := .lst ((Txt.split z (Str.ofString " ")).map V.str)) np
            generalize Txt.split z (Str.ofString " ") = ws at *
            refine ⟨p, _, rfl, .inl (.inl (.inl upd_same)), rfl, by simp [flatV], ?_⟩
            have ei : inV (.str (Str.ofString "")) (ws.map V.str) = decide ([] ∈ splitL 32 (TL.tl z)) := by
              rw [← hsp]
              unfold inV
              rw [List.any_map]
              have : ∀ ws : List Str, (ws.any ((fun y => eqV y (.str (Str.ofString ""))) ∘ V.str)) = decide ([] ∈ ws.map TL.tl) := by
                intro ws
                induction ws with
                | nil => rfl
                | cons x r ih =>
                  rw [List.any_cons, ih, List.map_cons]
                  show ((x == Str.ofString "") || _) = _
                  by_cases hx : x = Str.ofString ""
                  · have : TL.tl x = [] := by rw [hx]; decide +kernel
                    simp [hx, this]
                    left; decide +kernel
                  · have h2 : ¬ TL.tl x = [] := fun h => hx (TL.ext_tl (by rw [h]; decide +kernel))
                    have h3 : ¬ [] = TL.tl x := fun h => h2 h.symm
                    simp [hx, h3]
              exact this ws
            show Q (.bl (!inV (.str (Str.ofString "")) (ws.map V.str))) _
            rw [ei]
            exact q _ (sm.trans s1)
    · exact ⟨x, rfl, x, .ty "str", t, _, false, rfl, .ty _, ty, hk, false, rfl, iteT (q _ (Same.refl _))⟩
end
end K01
namespace K01
open PySem PySem.Spec PyProof.Rows L2 LH
section
variable {P : Program} {w : World} {K : PySem.W.Frag} {mg : Str → Option Value} {base : Heap} {tk : Nat → Tok}
/-! ### _law_cell, _law_mixed, _law_next, _law_sixty -/
/-! ### _law_cell -/
abbrev s__law_cell : Stmt := topS 20
abbrev N__law_cell : List Str := ["_law_script", "_law_k"]
abbrev P__law_cell : List Str := ["_law_script", "_law_k"]
theorem sc__law_cell : FnScope N__law_cell ["_law_script", "_law_k"] (defScope s__law_cell) := ⟨rfl, rfl, rfl, by decide +kernel, rfl, by decide +kernel, by decide +kernel⟩
def sp_cell (K : PySem.W.Frag) : Sp := fun vs H Q _ => ∃ (a : Addr) (ns : List Int) (k : Nat), vs = [.ref a, .int (k : Int)] ∧ SqL K H a (ns.map V.int) ∧ Tell H (.int (ns.getD k 0)) Q
theorem ok_cell {f : Addr} {fd : FuncData} {k : Nat} (F : Fun K "_law_cell" "_law_cell" s__law_cell f fd) (T : Tx mg tk) : FnOk P w K mg base CX0 (k + 1) f fd P__law_cell (sp_cell K) := by
  refine F.ok sc__law_cell (fun vs H Q E h => ?_) (fun cdv A outer s H vs Q E hr h => ?_)
  · obtain ⟨a, ns, j, rfl, _⟩ := h
    rfl
  · have nd := sc__law_cell.nd
    obtain ⟨a, ns, j, rfl, hS, q⟩ := h
    refine ⟨_, (pss_cons (ps_if (pt_cmpR op_lt (pv 1) (pe_callB (cLen K) (by rfl) T.n_len (by decide +kernel) (pa_cons (pv 0) pa_nil)) (nomark _))
        (pss_one (ps_ret (pe_ix (ixL K) (pv 0) (pv 1) (fun _ _ => rfl))))
        pss_nil)
      (pss_one (ps_ret pe_int))), ?_⟩
    refine ⟨.int j, rfl, .ref a, rfl, a, _, rfl, .inl hS, _, _, rfl, rfl, _, rfl, ite2 (fun e => ?_) (fun e => ?_)⟩
    · have h1 : j < ns.length := by
        have := of_decide_eq_true e
        rw [List.length_map] at this
        omega
      refine ⟨.ref a, rfl, .int j, rfl, a, _, j, .int (ns[j]), rfl, rfl, hS, atI_nat (by rw [List.getElem?_map, List.getElem?_eq_getElem h1]; rfl), ?_⟩
      have := q H (Same.refl _)
      rw [List.getD_eq_getElem?_getD, List.getElem?_eq_getElem h1] at this
      exact this
    · have h1 : ns.length ≤ j := by
        have : ¬ (j : Int) < ((ns.map V.int).length : Nat) := fun z => e (decide_eq_true z)
        rw [List.length_map] at this
        omega
      have := q H (Same.refl _)
      rw [List.getD_eq_getElem?_getD, List.getElem?_eq_none h1] at this
      exact this
/-! ### _law_mixed -/
abbrev s__law_mixed : Stmt := topS 21
abbrev N__law_mixed : List Str := ["_law_cell_here", "_law_k"]
abbrev P__law_mixed : List Str := ["_law_cell_here", "_law_k"]
theorem sc__law_mixed : FnScope N__law_mixed ["_law_cell_here", "_law_k"] (defScope s__law_mixed) := ⟨rfl, rfl, rfl, by decide +kernel, rfl, by decide +kernel, by decide +kernel⟩
def mixed (c k : Int) : Int := (c * 48271 + 7919 * k * k * k + 104729) % 2147483647 * 16807 % 2147483629
theorem mixed_lt (c k : Int) : 0 ≤ mixed c k ∧ mixed c k < 2147483629 := ⟨Int.emod_nonneg _ (by decide), Int.emod_lt_of_pos _ (by decide)⟩
def sp_mixed : Sp := fun vs H Q _ => ∃ (c k : Int), vs = [.int c, .int k] ∧ 0 ≤ k ∧ k < 1000 ∧ Tell H (.int (mixed c k)) Q
theorem ok_mixed {f : Addr} {fd : FuncData} {k : Nat} (F : Fun K "_law_mixed" "_law_mixed" s__law_mixed f fd) : FnOk P w K mg base CX0 (k + 1) f fd P__law_mixed sp_mixed := by
  refine F.ok sc__law_mixed (fun vs H Q E h => ?_) (fun cdv A outer s H vs Q E hr h => ?_)
  · obtain ⟨c, j, rfl, _⟩ := h
    rfl
  · have nd := sc__law_mixed.nd
    obtain ⟨c, j, rfl, h0, h1, q⟩ := h
    refine ⟨_, (pss_one (ps_ret (pe_op op_mod (pe_op op_mul (pe_op op_mod (pe_op op_add (pe_op op_add (pe_op op_mul (pv 0) pe_int) (pe_op op_mul (pe_op op_mul (pe_op op_mul pe_int (pv 1)) (pv 1)) (pv 1))) pe_int) pe_int) pe_int) pe_int))), ?_⟩
    refine ⟨.int c, rfl, c, 48271, rfl, rfl, .inr (by decide), .int j, rfl, 7919, j, rfl, rfl, .inl (by decide), .int j, rfl, _, j, rfl, rfl, .inr ⟨by omega, by omega⟩, .int j, rfl, _, j, rfl, rfl, .inr ⟨by omega, by omega⟩, _, _, rfl, rfl, _, _, rfl, rfl, _, _, rfl, rfl, (show (0 : Int) < 2147483647 by decide), _, _, rfl, rfl, .inr (by decide), _, _, rfl, rfl, (show (0 : Int) < 2147483629 by decide), q _ (Same.refl _)⟩
/-! ### _law_next -/
abbrev s__law_next : Stmt := topS 22
abbrev N__law_next : List Str := ["_law_number", "_law_k"]
abbrev P__law_next : List Str := ["_law_number", "_law_k"]
theorem sc__law_next : FnScope N__law_next ["_law_number", "_law_k"] (defScope s__law_next) := ⟨rfl, rfl, rfl, by decide +kernel, rfl, by decide +kernel, by decide +kernel⟩
def nextN (n k : Int) : Int := (n * (k * k + 1) + 1009 * k + 11) * 69621 % 2147483629
theorem nextN_lt (c k : Int) : 0 ≤ nextN c k ∧ nextN c k < 2147483629 := ⟨Int.emod_nonneg _ (by decide), Int.emod_lt_of_pos _ (by decide)⟩
def sp_next : Sp := fun vs H Q _ => ∃ (c k : Int), vs = [.int c, .int k] ∧ 0 ≤ c ∧ c < 2147483648 ∧ 0 ≤ k ∧ k < 1000 ∧ Tell H (.int (nextN c k)) Q
theorem ok_next {f : Addr} {fd : FuncData} {k : Nat} (F : Fun K "_law_next" "_law_next" s__law_next f fd) : FnOk P w K mg base CX0 (k + 1) f fd P__law_next sp_next := by
  refine F.ok sc__law_next (fun vs H Q E h => ?_) (fun cdv A outer s H vs Q E hr h => ?_)
  · obtain ⟨c, j, rfl, _⟩ := h
    rfl
  · have nd := sc__law_next.nd
    obtain ⟨c, j, rfl, hc, hc1, h0, h1, q⟩ := h
    refine ⟨_, (pss_one (ps_ret (pe_op op_mod (pe_op op_mul (pe_op op_add (pe_op op_add (pe_op op_mul (pv 0) (pe_op op_add (pe_op op_mul (pv 1) (pv 1)) pe_int)) (pe_op op_mul pe_int (pv 1))) pe_int) pe_int) pe_int))), ?_⟩
    refine ⟨.int c, rfl, .int j, rfl, .int j, rfl, j, j, rfl, rfl, .inr ⟨by omega, by omega⟩, _, 1, rfl, rfl, c, _, rfl, rfl, .inl ⟨by omega, by omega⟩, .int j, rfl, 1009, j, rfl, rfl, .inl (by decide), _, _, rfl, rfl, _, _, rfl, rfl, _, _, rfl, rfl, .inr (by decide), _, _, rfl, rfl, (show (0 : Int) < 2147483629 by decide), q _ (Same.refl _)⟩
end
end K01

namespace K01
open PySem PySem.Spec PyProof.Rows L2 LH
section
variable {P : Program} {w : World} {K : PySem.W.Frag} {mg : Str → Option Value} {base : Heap} {tk : Nat → Tok}
/-! ### the signs -/
def SG1 : Str := Str.ofString " !\"#$&'()*+,-./0123456789:;<=>?@ABCDEFGHIJKLMNOPQRSTUVWXYZ[\\]^_`"
def SG2 : Str := Str.ofString "abcdefghijklmnopqrstuvwxyz{|}~"
def SIGNS : Str := SG1 ++ SG2
theorem tl_SIGNS : TL.tl SIGNS = ((List.range 95).map fun x => x + 32).filter fun x => decide (x ≠ 37) := by
  unfold SIGNS
  rw [TL.tl_append]
  decide +kernel
theorem SIGNS_len : SIGNS.length = 94 := by rw [TL.len_tl, tl_SIGNS]; decide +kernel
theorem in_SIGNS (c : Nat) : decide (c ∈ TL.tl SIGNS) = isSign c := by
  rw [tl_SIGNS]
  unfold isSign
  rw [Bool.eq_iff_iff]
  simp only [List.mem_filter, List.mem_map, List.mem_range, decide_eq_true_eq, Bool.and_eq_true, Bool.not_eq_true', decide_eq_false_iff_not]
  constructor
  · rintro ⟨⟨a, ha, rfl⟩, h2⟩
    exact ⟨⟨by omega, by omega⟩, h2⟩
  · rintro ⟨⟨h1, h2⟩, h3⟩
    exact ⟨⟨c - 32, by omega, by omega⟩, h3⟩
theorem sign_ok {c : Nat} (h : isSign c = true) : c < 1114112 := by
  unfold isSign at h
  simp only [Bool.and_eq_true, decide_eq_true_eq] at h
  omega
theorem tl_SMALL : TL.tl SMALL = (List.range 26).map (· + 97) := by decide +kernel
theorem isSmall_iff (c : Nat) : isSmall c = true ↔ 97 ≤ c ∧ c ≤ 122 := by
  unfold isSmall
  rw [decide_eq_true_eq, tl_SMALL]
  simp only [List.mem_map, List.mem_range]
  constructor
  · rintro ⟨a, ha, rfl⟩; omega
  · rintro ⟨h1, h2⟩; exact ⟨c - 97, by omega, by omega⟩
theorem small_ok {c : Nat} (h : isSmall c = true) : c < 1114112 := by
  have := (isSmall_iff c).mp h
  omega
def smallAt (n : Int) : Nat := (TL.tl SMALL).getD n.toNat 0
theorem smallAt_at {n : Int} (h0 : 0 ≤ n) (h1 : n < 26) : atI (TL.tl SMALL) n = some (smallAt n) ∧ isSmall (smallAt n) = true := by
  have hl : n.toNat < (TL.tl SMALL).length := by rw [tl_SMALL]; simp; omega
  obtain ⟨m, rfl⟩ : ∃ m : Nat, n = (m : Int) := ⟨n.toNat, by omega⟩
  unfold smallAt
  rw [Int.toNat_natCast] at hl ⊢
  rw [List.getD_eq_getElem?_getD, List.getElem?_eq_getElem hl]
  refine ⟨atI_nat (List.getElem?_eq_getElem hl), ?_⟩
  unfold isSmall
  exact decide_eq_true (List.getElem_mem hl)
/-! ### _law_signs -/
abbrev s__law_signs : Stmt := topS 23
abbrev N__law_signs : List Str := ["_law_some"]
abbrev P__law_signs : List Str := []
theorem sc__law_signs : FnScope N__law_signs [] (defScope s__law_signs) := ⟨rfl, rfl, rfl, by decide +kernel, rfl, by decide +kernel, by decide +kernel⟩
def sp_signs : Sp := fun vs H Q _ => vs = [] ∧ Q (.str SIGNS) H
theorem ok_signs {f : Addr} {fd : FuncData} {k : Nat} (F : Fun K "_law_signs" "_law_signs" s__law_signs f fd) : FnOk P w K mg base CX0 (k + 1) f fd P__law_signs sp_signs := by
  refine F.ok sc__law_signs (fun vs H Q E h => ?_) (fun cdv A outer s H vs Q E hr h => ?_)
  · obtain ⟨rfl, _⟩ := h
    rfl
  · have nd := sc__law_signs.nd
    obtain ⟨rfl, q⟩ := h
    refine ⟨_, (pss_cons (ps_set (i := 0) nd rfl (.inl rfl) pe_str)
      (pss_one (ps_ret (pe_op op_add_str (pv 0) pe_str)))), ?_⟩
    exact ⟨.str SG1, rfl, SG1, SG2, rfl, rfl, Nat.le_of_lt (small1000 (by decide +kernel)), q⟩
end
end K01

namespace K01
open PySem PySem.Spec PyProof.Rows L2 LH
section
variable {P : Program} {w : World} {K : PySem.W.Frag} {mg : Str → Option Value} {base : Heap} {tk : Nat → Tok}
theorem tl_dash : TL.tl (Str.ofString "-") = [45] := by decide +kernel
theorem tl_blank : TL.tl (Str.ofString " ") = [32] := by decide +kernel
theorem hn_small {l : List Nat} (h : isHN l = true) : ∀ x ∈ splitL 45 l, Sm x ∧ 1 ≤ x.length ∧ x.length ≤ 8 := fun x hx => by
  unfold isHN at h
  rw [Bool.and_eq_true, List.all_eq_true] at h
  have hw := h.2 x hx
  unfold smallW at hw
  rw [Bool.and_eq_true, Bool.and_eq_true, decide_eq_true_eq, decide_eq_true_eq, List.all_eq_true] at hw
  exact ⟨fun c hc => (isSmall_iff c).mp (hw.2 c hc), hw.1.1, hw.1.2⟩
theorem hn_many {l : List Nat} (h : isHN l = true) : (splitL 45 l).length ≤ 3 := by
  unfold isHN at h
  rw [Bool.and_eq_true, decide_eq_true_eq] at h
  exact h.1
theorem great_ok {l : List Nat} (h : isHN l = true) : ∀ c ∈ great l, c < 1114112 := fun c hc => by
  rcases joinL_mem _ _ c hc with h1 | ⟨p, hp, hc⟩
  · rw [List.mem_singleton.mp h1]; decide
  · obtain ⟨x, hx, rfl⟩ := List.mem_map.mp hp
    have hs := (hn_small h x hx).1
    cases x with
    | nil => cases hc
    | cons d r =>
      rcases List.mem_cons.mp hc with rfl | hc
      · have := hs d (by simp); omega
      · have := hs c (by simp [hc]); omega
theorem great_len {l : List Nat} (h : isHN l = true) : (great l).length ≤ 27 := by
  unfold great
  have h1 := joinL_len [45] ((splitL 45 l).map cap)
  have h2 := sum_le 8 (((splitL 45 l).map cap).map List.length) fun x hx => by
    obtain ⟨y, hy, rfl⟩ := List.mem_map.mp hx
    obtain ⟨u, hu, rfl⟩ := List.mem_map.mp hy
    rw [cap_len]
    exact (hn_small h u hu).2.2
  have h3 := hn_many h
  rw [List.length_map] at h2
  rw [List.length_map] at h1 h2
  have : ([45] : List Nat).length = 1 := rfl
  rw [this] at h1
  omega
theorem sm_ok {l : List Nat} (h : Sm l) : ∀ c ∈ l, c < 1114112 := fun c hc => by have := h c hc; omega
/-! ### great_name -/
abbrev s_great_name : Stmt := topS 18
abbrev N_great_name : List Str := ["name", "word"]
abbrev P_great_name : List Str := ["name"]
theorem sc_great_name : FnScope N_great_name ["name"] (defScope s_great_name) := ⟨rfl, rfl, rfl, by decide +kernel, rfl, by decide +kernel, by decide +kernel⟩
def sp_great : Sp := fun vs H Q _ => ∃ z : Str, vs = [.str z] ∧ isHN (TL.tl z) = true ∧ z.length ≤ 1000 ∧ Tell H (.str ⟨(great (TL.tl z)).toArray⟩) Q
theorem ok_great {f : Addr} {fd : FuncData} {k : Nat} (F : Fun K "great_name" "great_name" s_great_name f fd) : FnOk P w K mg base CX0 (k + 1) f fd P_great_name sp_great := by
  refine F.ok sc_great_name (fun vs H Q E h => ?_) (fun cdv A outer s H vs Q E hr h => ?_)
  · obtain ⟨z, rfl, _⟩ := h
    rfl
  · have nd := sc_great_name.nd
    obtain ⟨z, rfl, hn, hz, q⟩ := h
    refine ⟨_, (pss_one (ps_ret (pe_join pe_str (pe_lc (own := [("word", 1)]) (g := gName 1) (by rfl) nd (pi_list (pe_split (pv 0) pe_str)) (blkOk_by (N := N_great_name) (sc := defScope s_great_name) (by decide +kernel)) (fun _ _ _ _ _ => (pg_name (i := 1) nd rfl (Or.inl rfl))) (fun _ _ _ _ _ => pts_nil) (fun _ _ _ _ _ => (pe_capitalize (pv 1))))))), ?_⟩
    have hsp := split_tl (x := z) (y := Str.ofString "-") (s := 45) tl_dash (by decide)
    have hsm := hn_small hn
    have hmy := hn_many hn
    refine ⟨⟨_, rfl⟩, .str z, rfl, ⟨_, rfl⟩, z, Str.ofString "-", rfl, rfl, by decide +kernel, by rw [sizeLine_eq]; omega, fun p np => ?_⟩
    have s1 := same_upd (o := .lst ((Txt.split z (Str.ofString "-")).map V.str)) np
    generalize Txt.split z (Str.ofString "-") = ws at *
    have hm : (ws.map V.str).length = ws.length := List.length_map ..
    have hwl : ws.length = (splitL 45 (TL.tl z)).length := by rw [← hsp, List.length_map]
    have hws : ∀ x ∈ ws, Sm (TL.tl x) ∧ x.length ≤ 8 := fun x hx => by
      have := hsm (TL.tl x) (by rw [← hsp]; exact List.mem_map.mpr ⟨x, hx, rfl⟩)
      exact ⟨this.1, by rw [TL.len_tl]; exact this.2.2⟩
    refine ⟨p, rfl, ⟨_, .inl (.inl upd_same)⟩, fun D hD => lc_pure (fun i => (ws.map V.str).getD i .non) (fun i => .str (Txt.capitalize (ws.getD i Str.empty))) walk_listF (fun H1 sm => sm.seq (.inl (.inl upd_same))) hD (by rw [hm, sizeLine_eq]; omega) (fun i H1 Q1 hi sm q1 => ?_) (fun H1 sm e => ?_)⟩
    · rw [hm] at hi
      rw [getD_str ws i hi]
      have hxm : ws.getD i Str.empty ∈ ws := by
        rw [List.getD_eq_getElem?_getD, List.getElem?_eq_getElem hi]
        exact List.getElem_mem hi
      have := (hws _ hxm).2
      exact ⟨.str (ws.getD i Str.empty), rfl, ⟨_, rfl⟩, _, rfl, rfl, by omega, q1 _ (Same.refl _)⟩
    · rw [hm] at e
      have em : (List.range ws.length).map (fun i => V.str (Txt.capitalize (ws.getD i Str.empty))) = (ws.map Txt.capitalize).map V.str := by
        conv => rhs; rw [← LH.range_getD ws Str.empty]
        rw [List.map_map, List.map_map]
        rfl
      rw [em] at e
      have ecap : (ws.map Txt.capitalize).map TL.tl = (splitL 45 (TL.tl z)).map cap := by
        rw [← hsp, List.map_map, List.map_map]
        exact List.map_congr_left fun x hx => cap_eq x (hws x hx).1
      have eJ : TL.tl (Txt.join (Str.ofString "-") (ws.map Txt.capitalize)) = great (TL.tl z) := by
        rw [TL.join_eq, TL.tl_join, ecap, tl_dash]
        rfl
      have hb := join_len_le (sep := Str.ofString "-") (ws := ws.map Txt.capitalize) (k := 8) (n := 3) (fun x hx => by
        obtain ⟨y, hy, rfl⟩ := List.mem_map.mp hx
        rw [TL.len_tl, cap_eq y (hws y hy).1, cap_len, ← TL.len_tl]
        exact (hws y hy).2) (by rw [List.length_map]; omega)
      have hb2 : 3 * (8 + (Str.ofString "-").length) = 27 := by decide +kernel
      refine ⟨Str.ofString "-", D, ws.map Txt.capitalize, rfl, rfl, .inl (.inl (.inl e)), by omega, ?_⟩
      have : Txt.join (Str.ofString "-") (ws.map Txt.capitalize) = ⟨(great (TL.tl z)).toArray⟩ := TL.ext_tl eJ
      rw [this]
      exact q _ (s1.trans sm)
/-! ### goes_into_rows -/
abbrev s_goes_into_rows : Stmt := topS 17
abbrev N_goes_into_rows : List Str := ["word"]
abbrev P_goes_into_rows : List Str := ["word"]
theorem sc_goes_into_rows : FnScope N_goes_into_rows ["word"] (defScope s_goes_into_rows) := ⟨rfl, rfl, rfl, by decide +kernel, rfl, by decide +kernel, by decide +kernel⟩
def sp_goes : Sp := fun vs H Q _ => ∃ z : Str, vs = [.str z] ∧ z.length ≤ 100000 ∧ Tell H (.bl (decide (z.length < 60))) Q
theorem ok_goes {f : Addr} {fd : FuncData} {k : Nat} (F : Fun K "goes_into_rows" "goes_into_rows" s_goes_into_rows f fd) (T : Tx mg tk) : FnOk P w K mg base CX0 (k + 1) f fd P_goes_into_rows sp_goes := by
  refine F.ok sc_goes_into_rows (fun vs H Q E h => ?_) (fun cdv A outer s H vs Q E hr h => ?_)
  · obtain ⟨z, rfl, _⟩ := h
    rfl
  · have nd := sc_goes_into_rows.nd
    obtain ⟨z, rfl, hz, q⟩ := h
    refine ⟨_, (pss_one (ps_ret (pe_cmpR op_lt (pe_callB call_len_str (by rfl) T.n_len (by decide +kernel) (pa_cons (pv 0) pa_nil)) (pe_glob (v := .int 60) (by rfl) T.m_ROW_SIGNS ⟨_, rfl⟩) (nomark _)))), ?_⟩
    refine ⟨_, rfl, _, rfl, by rw [sizeLine_eq]; omega, _, 60, rfl, rfl, ?_⟩
    have e : decide (((z.length : Nat) : Int) < 60) = decide (z.length < 60) := decide_eq_decide.mpr (by omega)
    show Q (.bl (decide (((z.length : Nat) : Int) < 60))) _
    rw [e]
    exact q _ (Same.refl _)
/-! ### folded -/
abbrev s_folded : Stmt := topS 16
abbrev N_folded : List Str := ["name", "value", "words", "rows", "word"]
abbrev P_folded : List Str := ["name", "value"]
theorem sc_folded : FnScope N_folded ["name", "value"] (defScope s_folded) := ⟨rfl, rfl, rfl, by decide +kernel, rfl, by decide +kernel, by decide +kernel⟩
/-- words of a value -/
def WsOk (ws : List Str) : Prop := ∀ x ∈ ws, WordL (TL.tl x) ∧ x.length ≤ 59
def rowsH (l : List Nat) (ws : List Str) : List V := (strL (hrows l (ws.map TL.tl))).map V.str
def sp_folded : Sp := fun vs H Q _ => ∃ (z : Str) (ws : List Str), vs = [.str z, .str (Txt.join (Str.ofString " ") ws)] ∧ isHN (TL.tl z) = true ∧ z.length ≤ 1000 ∧ WsOk ws ∧ ws.length ≤ 100 ∧ New H (rowsH (TL.tl z) ws) Q
theorem val_len {ws : List Str} (h : WsOk ws) (hl : ws.length ≤ 100) : (Txt.join (Str.ofString " ") ws).length ≤ 6000 ∧ (ws.map (·.length)).sum + ws.length * (Str.ofString " ").length ≤ 6000 := by
  have hb := join_len_le (sep := Str.ofString " ") (k := 59) (n := 100) (fun x hx => (h x hx).2) hl
  have hb2 : 100 * (59 + (Str.ofString " ").length) = 6000 := by decide +kernel
  have := joined_len (Str.ofString " ") ws
  exact ⟨by omega, by omega⟩
theorem val_ok {ws : List Str} (h : WsOk ws) : isVal (TL.tl (Txt.join (Str.ofString " ") ws)) = true := by
  rw [TL.join_eq, TL.tl_join, tl_blank]
  unfold isVal
  rw [Bool.and_eq_true]
  constructor
  · rw [List.all_eq_true]
    intro c hc
    rcases joinL_mem _ _ c hc with h1 | ⟨p, hp, hc⟩
    · rw [List.mem_singleton.mp h1]; rfl
    · obtain ⟨x, hx, rfl⟩ := List.mem_map.mp hp
      have := (h x hx).1.2 c hc
      unfold isSign
      simp only [Bool.and_eq_true, decide_eq_true_eq, Bool.not_eq_true', decide_eq_false_iff_not]
      omega
  · cases ws with
    | nil => rfl
    | cons x r =>
      rw [splitL_join 32 _ (by simp) fun p hp => ?_]
      · rw [Bool.or_eq_true]
        right
        have : ¬ ([] : List Nat) ∈ (x :: r).map TL.tl := fun hm => by
          obtain ⟨y, hy, e⟩ := List.mem_map.mp hm
          exact (h y hy).1.1 e
        rw [decide_eq_false this]
        rfl
      · obtain ⟨y, hy, rfl⟩ := List.mem_map.mp hp
        intro hm
        have := (h y hy).1.2 32 hm
        omega
theorem ok_folded {f fH fV fG fR : Addr} {fd fdH fdV fdG fdR : FuncData} (F : Fun K "folded" "folded" s_folded f fd) (T : Tx mg tk) (D_is_header_name : Def P w K mg base "is_header_name" 2 fH fdH ["thing"] (sp_header_name K)) (D_is_value : Def P w K mg base "is_value" 2 fV fdV ["thing"] (sp_value K)) (D_great_name : Def P w K mg base "great_name" 1 fG fdG P_great_name sp_great) (D_goes_into_rows : Def P w K mg base "goes_into_rows" 1 fR fdR P_goes_into_rows sp_goes) : FnOk P w K mg base CX0 3 f fd P_folded sp_folded := by
  refine F.ok sc_folded (fun vs H Q E h => ?_) (fun cdv A outer s H vs Q E hr h => ?_)
  · obtain ⟨z, ws, rfl, _⟩ := h
    rfl
  · have nd := sc_folded.nd
    obtain ⟨z, ws, rfl, hn, hz, hw, hwl, q⟩ := h
    refine ⟨_, (pss_cons (ps_if (pt_not (pt_val (pe_def D_is_header_name (hr.mono (by decide)) (pa_cons (pv 0) pa_nil))))
        (pss_one ps_never)
        pss_nil)
      (pss_cons (ps_if (pt_not (pt_val (pe_def D_is_value (hr.mono (by decide)) (pa_cons (pv 1) pa_nil))))
        (pss_one ps_never)
        pss_nil)
      (pss_cons (ps_set (i := 2) nd rfl (.inl rfl) (pe_words (pv 1)))
      (pss_cons (ps_if (pt_not (pt_val (pe_callB (cAll K) (by rfl) T.n_all (by decide +kernel) (pa_cons (pe_lc (own := [("word", 4)]) (g := gName 4) (by rfl) nd (pi_list (pv 2)) (blkOk_by (N := N_folded) (sc := defScope s_folded) (by decide +kernel)) (fun _ _ _ _ _ => (pg_name (i := 4) nd rfl (Or.inl rfl))) (fun _ _ _ _ _ => pts_nil) (fun _ _ _ _ _ => (pe_def D_goes_into_rows (hr.mono (by decide)) (pa_cons (pv 4) pa_nil)))) pa_nil))))
        (pss_one ps_never)
        pss_nil)
      (pss_cons (ps_set (i := 3) nd rfl (.inl rfl) (pe_lst (pa_cons (pe_op op_add_str (pe_def D_great_name (hr.mono (by decide)) (pa_cons (pv 0) pa_nil)) pe_str) pa_nil)))
      (pss_cons (ps_for PassesOwn.never rfl (pi_list (pv 2)) (pg_name (i := 4) nd rfl (Or.inl rfl))
        (pss_cons (ps_if (pt_cmpR op_gt (pe_op op_add (pe_op op_add (pe_callB call_len_str (by rfl) T.n_len (by decide +kernel) (pa_cons (pe_ix (ixL K) (pv 3) (pe_un un_neg pe_int) (fun _ _ => rfl)) pa_nil)) pe_int) (pe_callB call_len_str (by rfl) T.n_len (by decide +kernel) (pa_cons (pv 4) pa_nil))) (pe_glob (v := .int 60) (by rfl) T.m_ROW_SIGNS ⟨_, rfl⟩) (nomark _))
          (pss_one (ps_expr (pe_bm PySem.F.plainAttrs_list PySem.F.slot_list_append PySem.F.type_list_append mt_append (pv 3) (pa_cons pe_str pa_nil))))
          pss_nil)
        (pss_one (ps_augS (pv 3) (pe_un un_neg pe_int) (get_listK K) (pe_op op_add_str pe_str (pv 4)) iop_add_str set_list))))
      (pss_one (ps_ret (pv 3))))))))), ?_⟩
    have hvl := val_len hw hwl
    refine ⟨.str z, rfl, _, rfl, .inl ⟨z, rfl, by omega, fun H1 s1 => ⟨_, rfl, ?_⟩⟩⟩
    rw [hn]
    refine iteF ⟨_, rfl, _, rfl, .inl ⟨_, rfl, by omega, fun H2 s2 => ⟨_, rfl, ?_⟩⟩⟩
    rw [val_ok hw]
    refine iteF ⟨_, rfl, ⟨_, rfl⟩, _, rfl, rfl, by rw [sizeLine_eq]; omega, fun p np => ?_⟩
    rw [words_join ws (fun x hx => (hw x hx).1) _ tl_blank]
    have s3 := same_upd (o := .lst (ws.map V.str)) np
    have hm : (ws.map V.str).length = ws.length := List.length_map ..
    generalize hH3 : upd H2 p (.lst (ws.map V.str)) = H3 at *
    have e3 : H3 p = some (.lst (ws.map V.str)) := by rw [← hH3, upd_same]
    refine ⟨.ref p, rfl, p, rfl, ⟨_, .inl (.inl e3)⟩, fun D hD => lc_pure (fun i => (ws.map V.str).getD i .non) (fun i => .bl true) walk_listF (fun H4 sm => sm.seq (.inl (.inl e3))) hD (by rw [hm, sizeLine_eq]; omega) (fun i H4 Q4 hi sm q4 => ?_) (fun H4 s4 e4 => ?_)⟩
    · rw [hm] at hi
      rw [getD_str ws i hi]
      have hxm : ws.getD i Str.empty ∈ ws := by
        rw [List.getD_eq_getElem?_getD, List.getElem?_eq_getElem hi]
        exact List.getElem_mem hi
      have := (hw _ hxm).2
      refine ⟨.str (ws.getD i Str.empty), rfl, _, rfl, by omega, fun H5 s5 => ?_⟩
      rw [decide_eq_true (show (ws.getD i Str.empty).length < 60 by omega)]
      exact q4 _ s5
    · refine ⟨D, (List.range ws.length).map fun _ => true, rfl, .inl (.inl (by rw [e4, hm, List.map_map]; rfl)), _, rfl, ?_⟩
      have ea : ((List.range ws.length).map fun _ => true).all id = true := by
        rw [List.all_map]
        exact List.all_eq_true.mpr fun _ _ => rfl
      rw [ea]
      have hgl := great_len hn
      have hgs : (⟨(great (TL.tl z)).toArray⟩ : Str).length = (great (TL.tl z)).length := mk_len _
      refine iteF ⟨.str z, rfl, z, rfl, hn, hz, fun H5 s5 => ⟨_, Str.ofString ":", rfl, rfl, by rw [hgs, sizeLine_eq, show (Str.ofString ":").length = 1 by decide +kernel]; omega, Nat.le_of_lt (small1000 (show 1 ≤ 1000 by decide)), fun o no => ?_⟩⟩
      have ehd : (⟨(great (TL.tl z)).toArray⟩ : Str) ++ Str.ofString ":" = ⟨(great (TL.tl z) ++ [58]).toArray⟩ := TL.ext_tl (by rw [TL.tl_append, show TL.tl (Str.ofString ":") = [58] by decide +kernel])
      rw [ehd]
      have s6 := same_upd (o := .lst [V.str ⟨(great (TL.tl z) ++ [58]).toArray⟩]) no
      have sA : Same H H5 := s1.trans (s2.trans (s3.trans (s4.trans s5)))
      have hno : H o = none := sA.free no
      have e6 := s6 _ _ (s5 _ _ (s4 _ _ e3))
      refine ⟨.ref p, rfl, p, rfl, ⟨_, .inl (.inl e6)⟩, for_it walk_list (fun i σ H' => ∃ y4, σ = [some (.str z), some (.str (Txt.join (Str.ofString " ") ws)), some (.ref p), some (.ref o), y4] ∧ Same H5 H' ∧ H' o = some (.lst ((strL (hrows (TL.tl z) ((ws.take i).map TL.tl))).map V.str)))
        ⟨none, rfl, s6, upd_same⟩ (fun i σ H' _ h => by obtain ⟨y, rfl, sm, _⟩ := h; exact .inl (.inl (sm _ _ (s5 _ _ (s4 _ _ e3))))) (fun i x σ H' H'' hi hP hy => ?_) (fun σ H' hP => ?_)⟩
      · obtain ⟨y4, rfl, sm, eo⟩ := hP
        obtain ⟨rfl, hx⟩ := hy
        rw [hm] at hi
        rw [List.getElem?_map, List.getElem?_eq_getElem hi] at hx
        obtain rfl := Option.some.inj hx
        have hwi := hw ws[i] (List.getElem_mem hi)
        have hfl := hfold_len (TL.tl z) (by omega) ((ws.take i).map TL.tl) fun x hx => by
          obtain ⟨y, hy, rfl⟩ := List.mem_map.mp hx
          rw [← TL.len_tl]
          exact (hw y (List.mem_of_mem_take hy)).2
        have hst : hrows (TL.tl z) ((ws.take (i + 1)).map TL.tl) = (hstep (hfold (TL.tl z) ((ws.take i).map TL.tl)) (TL.tl ws[i])).1 ++ [(hstep (hfold (TL.tl z) ((ws.take i).map TL.tl)) (TL.tl ws[i])).2] := by
          unfold hrows
          rw [List.take_add_one, List.getElem?_eq_getElem hi, Option.toList_some, List.map_append, List.map_singleton, hfold_snoc]
        unfold hrows at eo
        have htl : ((ws.take i).map TL.tl).length = i := by rw [List.length_map, List.length_take]; omega
        rw [htl] at hfl
        generalize hfold (TL.tl z) ((ws.take i).map TL.tl) = st at *
        obtain ⟨d, c⟩ := st
        rw [strL_app, List.map_append] at eo
        have eo : H'' o = some (.lst ((strL d).map V.str ++ [.str ⟨c.toArray⟩])) := eo
        have hdl : ((strL d).map V.str).length = d.length := by unfold strL; rw [List.length_map, List.length_map]
        have hcl : (⟨c.toArray⟩ : Str).length = c.length := mk_len _
        have hxl : ws[i].length = (TL.tl ws[i]).length := TL.len_tl _
        have ebl : Str.ofString " " ++ ws[i] = ⟨(32 :: TL.tl ws[i]).toArray⟩ := TL.ext_tl (by rw [TL.tl_append, tl_blank]; rfl)
        refine ⟨.ref o, rfl, 1, rfl, o, _, -1, .str ⟨c.toArray⟩, rfl, rfl, .inl (.inl eo), atI_last _ _, _, rfl, by rw [hcl, sizeLine_eq]; have := hfl.1; simp only at this; omega, _, 1, rfl, rfl, .str ws[i], rfl, _, rfl, by rw [sizeLine_eq]; omega, _, _, rfl, rfl, _, 60, rfl, rfl, _, rfl, ?_⟩
        have hdec : decide ((60 : Int) < ((⟨c.toArray⟩ : Str).length : Nat) + 1 + ((ws[i].length : Nat) : Int)) = decide (60 < c.length + 1 + (TL.tl ws[i]).length) := decide_eq_decide.mpr (by rw [hcl, hxl]; omega)
        show (if decide ((60 : Int) < ((⟨c.toArray⟩ : Str).length : Nat) + 1 + ((ws[i].length : Nat) : Int)) = true then _ else _)
        rw [hdec]
        unfold hstep at hst
        refine ite2 (fun hc => ?_) (fun hc => ?_)
        · have hc' := of_decide_eq_true hc
          rw [if_pos hc'] at hst
          refine ⟨.ref o, rfl, .inl ⟨rfl, _, .inl (.inl eo)⟩, o, _, _, rfl, rfl, eo, ?_, ?_⟩
          · rw [List.length_append, hdl, sizeLine_eq]
            have := hfl.2.2
            simp only at this
            show d.length + 1 < 16777216
            omega
          refine ⟨.ref o, rfl, 1, rfl, o, _, -1, .str (Str.ofString ""), rfl, rfl, .inl (.inl upd_same), atI_last _ _, .str ws[i], rfl, Str.ofString " ", ws[i], rfl, rfl, ?_, Str.ofString "", _, rfl, rfl, ?_, o, _, -1, _, rfl, rfl, upd_same, ixN_last _ _, ?_⟩
          · rw [show (Str.ofString " ").length = 1 by decide +kernel, sizeLine_eq]; omega
          · rw [len_app, show (Str.ofString " ").length = 1 by decide +kernel, show (Str.ofString "").length = 0 by decide +kernel, sizeLine_eq]; omega
          · refine ⟨_, rfl, fun b x e => ?_, ?_⟩
            · rw [upd_ne (ne_of_none e no), upd_ne (ne_of_none e no)]
              exact sm _ _ e
            · have ee : Str.ofString "" ++ (Str.ofString " " ++ ws[i]) = ⟨(32 :: TL.tl ws[i]).toArray⟩ := TL.ext_tl (by rw [TL.tl_append, tl_empty, ebl]; rfl)
              rw [upd_same, hst, set_last, ee, strL_app, strL_app, List.map_append, List.map_append]
              rfl
        · have hc' : ¬ 60 < c.length + 1 + (TL.tl ws[i]).length := fun h => hc (decide_eq_true h)
          rw [if_neg hc'] at hst
          refine ⟨.ref o, rfl, 1, rfl, o, _, -1, .str ⟨c.toArray⟩, rfl, rfl, .inl (.inl eo), atI_last _ _, .str ws[i], rfl, Str.ofString " ", ws[i], rfl, rfl, ?_, ⟨c.toArray⟩, _, rfl, rfl, ?_, o, _, -1, _, rfl, rfl, eo, ixN_last _ _, ?_⟩
          · rw [show (Str.ofString " ").length = 1 by decide +kernel, sizeLine_eq]; omega
          · rw [len_app, hcl, show (Str.ofString " ").length = 1 by decide +kernel, sizeLine_eq]; omega
          · refine ⟨_, rfl, fun b x e => ?_, ?_⟩
            · rw [upd_ne (ne_of_none e no)]
              exact sm _ _ e
            · have ee : (⟨c.toArray⟩ : Str) ++ (Str.ofString " " ++ ws[i]) = ⟨(c ++ 32 :: TL.tl ws[i]).toArray⟩ := TL.ext_tl (by rw [TL.tl_append, ebl])
              rw [upd_same, hst, set_last, ee, strL_app, List.map_append]
              rfl
      · obtain ⟨y4, rfl, sm, eo⟩ := hP
        rw [hm, List.take_length] at eo
        exact ⟨.ref o, rfl, q H' o (sA.trans sm) hno eo⟩
end
end K01

namespace K01
open PySem PySem.Spec PyProof.Rows L2 LH
section
variable {P : Program} {w : World} {K : PySem.W.Frag} {mg : Str → Option Value} {base : Heap} {tk : Nat → Tok}
/-! ### names and words of the law -/
theorem smallW_of {l : List Nat} {m : Nat} (h : ∀ c ∈ l, isSmall c = true) (h1 : 1 ≤ l.length) (h2 : l.length ≤ m) : smallW l m = true := by
  unfold smallW
  rw [decide_eq_true h1, decide_eq_true h2, List.all_eq_true.mpr h]
  rfl
theorem hn_join {ws : List Str} (hne : ws ≠ []) (hl : ws.length ≤ 3) (h : ∀ x ∈ ws, (∀ c ∈ TL.tl x, isSmall c = true) ∧ 1 ≤ x.length ∧ x.length ≤ 8) : isHN (TL.tl (Txt.join (Str.ofString "-") ws)) = true := by
  rw [TL.join_eq, TL.tl_join, tl_dash]
  unfold isHN
  rw [splitL_join 45 _ (by simpa using hne) fun p hp => ?_]
  · rw [List.length_map, decide_eq_true hl, Bool.true_and, List.all_map, List.all_eq_true]
    intro x hx
    have := h x hx
    exact smallW_of this.1 (by rw [← TL.len_tl]; exact this.2.1) (by rw [← TL.len_tl]; exact this.2.2)
  · obtain ⟨y, hy, rfl⟩ := List.mem_map.mp hp
    intro hm
    have := (isSmall_iff 45).mp ((h y hy).1 45 hm)
    omega
/-! ### _law_name -/
abbrev s__law_name : Stmt := topS 24
abbrev N__law_name : List Str := ["_law_number", "_law_words_here", "_law_k", "_law_more", "_law_size", "_law_j"]
abbrev P__law_name : List Str := ["_law_number"]
theorem sc__law_name : FnScope N__law_name ["_law_number"] (defScope s__law_name) := ⟨rfl, rfl, rfl, by decide +kernel, rfl, by decide +kernel, by decide +kernel⟩
def sp_lname : Sp := fun vs H Q _ => ∃ (n : Int), vs = [.int n] ∧ 0 ≤ n ∧ n < 2147483648 ∧ ∀ z : Str, isHN (TL.tl z) = true → z.length ≤ 30 → Tell H (.str z) Q
theorem ok_lname {f fN : Addr} {fd fdN : FuncData} (F : Fun K "_law_name" "_law_name" s__law_name f fd) (T : Tx mg tk) (D__law_next : Def P w K mg base "_law_next" 1 fN fdN P__law_next sp_next) : FnOk P w K mg base CX0 2 f fd P__law_name sp_lname := by
  refine F.ok sc__law_name (fun vs H Q E h => ?_) (fun cdv A outer s H vs Q E hr h => ?_)
  · obtain ⟨n, rfl, _⟩ := h
    rfl
  · have nd := sc__law_name.nd
    obtain ⟨n, rfl, h0, h1, q⟩ := h
    refine ⟨_, (pss_cons (ps_set (i := 1) nd rfl (.inl rfl) (pe_lst pa_nil))
      (pss_cons (ps_for PassesOwn.never rfl (pi_range1 (by rfl) T.n_range (pa_cons (pe_op op_add pe_int (pe_op op_mod (pv 0) pe_int)) pa_nil)) (pg_name (i := 2) nd rfl (Or.inl rfl))
        (pss_cons (ps_set (i := 3) nd rfl (.inr rfl) (pe_def D__law_next (hr.mono (by decide)) (pa_cons (pv 0) (pa_cons (pv 2) pa_nil))))
        (pss_cons (ps_set (i := 4) nd rfl (.inl rfl) (pe_ix (ixL K) (pe_lst (pa_cons (pe_op op_add pe_int (pe_op op_mod (pe_op op_fdiv (pv 3) pe_int) pe_int)) (pa_cons pe_int pa_nil))) (pe_callTy call_int1 (by rfl) T.n_int (by decide +kernel) (pa_cons (pe_cmpR op_lt (pe_op op_mod (pv 3) pe_int) pe_int (nomark _)) pa_nil)) (fun _ _ => rfl)))
        (pss_one (ps_expr (pe_bm PySem.F.plainAttrs_list PySem.F.slot_list_append PySem.F.type_list_append mt_append (pv 1) (pa_cons (pe_join pe_str (pe_lc (own := [("_law_j", 5)]) (g := gName 5) (by rfl) nd (pi_range1 (by rfl) T.n_range (pa_cons (pv 4) pa_nil)) (blkOk_by (N := N__law_name) (sc := defScope s__law_name) (by decide +kernel)) (fun _ _ _ _ _ => (pg_name (i := 5) nd rfl (Or.inl rfl))) (fun _ _ _ _ _ => pts_nil) (fun _ _ _ _ _ => (pe_ix ix_str pe_str (pe_op op_mod (pe_op op_fdiv (pe_def D__law_next (hr.mono (by decide)) (pa_cons (pv 3) (pa_cons (pv 5) pa_nil))) pe_int) pe_int) (fun _ _ => rfl))))) pa_nil)))))))
      (pss_one (ps_ret (pe_join pe_str (pv 1)))))), ?_⟩
    have hm : 0 ≤ n % 3 ∧ n % 3 < 3 := ⟨Int.emod_nonneg _ (by decide), Int.emod_lt_of_pos _ (by decide)⟩
    refine ⟨Nat.zero_le _, fun o no => ?_⟩
    refine ⟨.int n, rfl, n, 3, rfl, rfl, (show (0 : Int) < 3 by decide), 1, _, rfl, rfl, 1 + n % 3, rfl, by omega, by omega, for_it walk_range (fun i σ H' => ∃ (y2 y3 y4 y5 : Option V) (ws : List Str), σ = [some (.int n), some (.ref o), y2, y3, y4, y5] ∧ Same H H' ∧ H' o = some (.lst (ws.map V.str)) ∧ ws.length = i ∧ ∀ x ∈ ws, (∀ c ∈ TL.tl x, isSmall c = true) ∧ 1 ≤ x.length ∧ x.length ≤ 8)
      ⟨none, none, none, none, [], rfl, same_upd no, upd_same, rfl, (fun _ h => by cases h)⟩ (fun _ _ _ _ _ => trivial) (fun i x σ H' H'' hi hP hy => ?_) (fun σ H' hP => ?_)⟩
    · obtain ⟨y2, y3, y4, y5, ws, rfl, sm, eo, hl, hw⟩ := hP
      obtain ⟨rfl, rfl⟩ := hy
      refine ⟨.int n, rfl, _, rfl, n, 0 + (i : Int), rfl, h0, h1, by omega, by omega, fun H2 s2 => ?_⟩
      have hN := nextN_lt n (0 + (i : Int))
      generalize nextN n (0 + (i : Int)) = R at hN
      have hr8 : 0 ≤ R / 7 % 8 ∧ R / 7 % 8 < 8 := ⟨Int.emod_nonneg _ (by decide), Int.emod_lt_of_pos _ (by decide)⟩
      have key : ∀ b : Bool, ∃ t : Nat, atI [V.int (1 + R / 7 % 8), .int 8] (if b then 1 else 0) = some (.int t) ∧ 1 ≤ t ∧ t ≤ 8 := fun b => by
        cases b with
        | false =>
          refine ⟨(1 + R / 7 % 8).toNat, ?_, by omega, by omega⟩
          rw [Int.toNat_of_nonneg (by omega)]
          rfl
        | true => exact ⟨8, rfl, by decide, by decide⟩
      obtain ⟨m, em, hm1, hm8⟩ := key (decide (R % 7 < 2))
      refine ⟨.int R, rfl, R, 7, rfl, rfl, ⟨by decide, by decide⟩, _, 8, rfl, rfl, (show (0 : Int) < 8 by decide), 1, _, rfl, rfl, Nat.le_of_lt (small1000 (show 2 ≤ 1000 by decide)), fun p np => ?_⟩
      have sp := same_upd (o := .lst [V.int (1 + R / 7 % 8), .int 8]) np
      have eo2 := sp _ _ (s2 _ _ eo)
      refine ⟨.int R, rfl, R, 7, rfl, rfl, (show (0 : Int) < 7 by decide), _, 2, rfl, rfl, .inr ⟨_, rfl, p, _, _, .int m, rfl, rfl, .inl (.inl upd_same), em, ?_⟩⟩
      refine ⟨.ref o, rfl, .inl ⟨rfl, _, .inl (.inl eo2)⟩, ⟨_, rfl⟩, .int m, rfl, m, rfl, by omega, by omega, fun D hD => lc_pure (n := m) (fun i => .int (0 + (i : Int))) (fun i => .str ⟨#[smallAt (nextN R (0 + (i : Int)) / 3 % 26)]⟩) walk_range (fun _ _ => trivial) hD (by rw [sizeLine_eq]; omega) (fun j H1 Q1 hj sm q1 => ?_) (fun H3 sm3 e => ?_)⟩
      · refine ⟨.int R, rfl, .int (0 + (j : Int)), rfl, R, 0 + (j : Int), rfl, hN.1, by omega, by omega, by omega, fun H2 s2 => ?_⟩
        have hk := smallAt_at (n := nextN R (0 + (j : Int)) / 3 % 26) (Int.emod_nonneg _ (by decide)) (Int.emod_lt_of_pos _ (by decide))
        exact ⟨_, 3, rfl, rfl, ⟨by decide, by decide⟩, _, 26, rfl, rfl, (show (0 : Int) < 26 by decide), SMALL, _, _, rfl, rfl, Nat.le_of_lt (small1000 (by decide +kernel)), hk.1, q1 _ s2⟩
      · have e2 : (List.range m).map (fun i : Nat => V.str ⟨#[smallAt (nextN R (0 + (i : Int)) / 3 % 26)]⟩) = ((List.range m).map fun i : Nat => (⟨#[smallAt (nextN R (0 + (i : Int)) / 3 % 26)]⟩ : Str)).map V.str := by
          rw [List.map_map]; rfl
        rw [e2] at e
        have ones : ∀ l : List Nat, ((l.map fun i : Nat => (⟨#[smallAt (nextN R (0 + (i : Int)) / 3 % 26)]⟩ : Str)).map TL.tl).flatten = l.map fun i : Nat => smallAt (nextN R (0 + (i : Int)) / 3 % 26) := fun l => by
          rw [List.map_map]
          induction l with
          | nil => rfl
          | cons x r ih => rw [List.map_cons, List.flatten_cons, ih]; rfl
        have ej : TL.tl (Txt.join (Str.ofString "") ((List.range m).map fun i : Nat => (⟨#[smallAt (nextN R (0 + (i : Int)) / 3 % 26)]⟩ : Str))) = (List.range m).map fun i : Nat => smallAt (nextN R (0 + (i : Int)) / 3 % 26) := by
          rw [tl_join0, ones]
        refine ⟨Str.ofString "", D, _, rfl, rfl, .inl (.inl (.inl e)), ?_, ?_⟩
        · rw [sum_len, ones, List.length_map, List.length_range]
          show m + _ * 0 ≤ 16777216
          omega
        generalize Txt.join (Str.ofString "") ((List.range m).map fun i : Nat => (⟨#[smallAt (nextN R (0 + (i : Int)) / 3 % 26)]⟩ : Str)) = J at ej
        have hJ : J.length = m := by rw [TL.len_tl, ej, List.length_map, List.length_range]
        have eo3 := sm3 _ _ eo2
        refine ⟨o, _, _, rfl, rfl, eo3, ?_, ?_⟩
        · rw [List.length_map]; exact small1000 (by omega)
        · refine ⟨_, _, _, _, ws ++ [J], rfl, fun b x e => ?_, ?_, by rw [List.length_append, List.length_singleton]; omega, fun x hx => ?_⟩
          · rw [upd_ne (ne_of_none e no)]
            exact sm3 _ _ (sp _ _ (s2 _ _ (sm _ _ e)))
          · rw [upd_same, List.map_append]
            rfl
          · rcases List.mem_append.mp hx with h | h
            · exact hw x h
            · rw [List.mem_singleton.mp h]
              refine ⟨fun c hc => ?_, by omega, by omega⟩
              rw [ej] at hc
              obtain ⟨i, _, rfl⟩ := List.mem_map.mp hc
              exact (smallAt_at (Int.emod_nonneg _ (by decide)) (Int.emod_lt_of_pos _ (by decide))).2
    · obtain ⟨y2, y3, y4, y5, ws, rfl, sm, eo, hl, hw⟩ := hP
      have hb := join_len_le (sep := Str.ofString "-") (k := 8) (n := 3) (fun x hx => (hw x hx).2.2) (by omega)
      have hb2 : 3 * (8 + (Str.ofString "-").length) = 27 := by decide +kernel
      refine ⟨⟨_, rfl⟩, .ref o, rfl, Str.ofString "-", o, ws, rfl, rfl, .inl (.inl (.inl eo)), by omega, q _ (hn_join ?_ (by omega) hw) ?_ _ sm⟩
      · intro h
        rw [h] at hl
        simp only [List.length_nil] at hl
        omega
      · have := joined_len (Str.ofString "-") ws
        omega
/-! ### _law_word -/
abbrev s__law_word : Stmt := topS 25
abbrev N__law_word : List Str := ["_law_number", "_law_size", "_law_signs_here", "_law_j"]
abbrev P__law_word : List Str := ["_law_number", "_law_size"]
theorem sc__law_word : FnScope N__law_word ["_law_number", "_law_size"] (defScope s__law_word) := ⟨rfl, rfl, rfl, by decide +kernel, rfl, by decide +kernel, by decide +kernel⟩
/-- the sign of a word by its number -/
def wordAt (n : Int) : Nat := ((TL.tl SIGNS).drop 1).getD n.toNat 0
theorem word_signs : (TL.tl SIGNS).drop 1 = ((List.range 94).map fun x => x + 33).filter fun x => decide (x ≠ 37) := by
  rw [tl_SIGNS]
  decide +kernel
theorem word_signs_len : ((TL.tl SIGNS).drop 1).length = 93 := by
  rw [List.length_drop, ← TL.len_tl, SIGNS_len]
theorem wordAt_at {n : Int} (h0 : 0 ≤ n) (h1 : n < 93) : atI ((TL.tl SIGNS).drop 1) n = some (wordAt n) ∧ (33 ≤ wordAt n ∧ wordAt n ≤ 126 ∧ wordAt n ≠ 37) := by
  have hl : n.toNat < ((TL.tl SIGNS).drop 1).length := by rw [word_signs_len]; omega
  obtain ⟨m, rfl⟩ : ∃ m : Nat, n = (m : Int) := ⟨n.toNat, by omega⟩
  unfold wordAt
  rw [Int.toNat_natCast] at hl ⊢
  rw [List.getD_eq_getElem?_getD, List.getElem?_eq_getElem hl]
  refine ⟨atI_nat (List.getElem?_eq_getElem hl), ?_⟩
  have hm := List.getElem_mem hl
  rw [Option.getD_some]
  generalize ((TL.tl SIGNS).drop 1)[m] = c at hm
  rw [word_signs, List.mem_filter] at hm
  obtain ⟨a, ha, rfl⟩ := List.mem_map.mp hm.1
  have := List.mem_range.mp ha
  have h3 := of_decide_eq_true hm.2
  omega
def sp_lword : Sp := fun vs H Q _ => ∃ (n : Int) (m : Nat), vs = [.int n, .int (m : Int)] ∧ 0 ≤ n ∧ n < 2147483648 ∧ 1 ≤ m ∧ m ≤ 500 ∧ ∀ z : Str, WordL (TL.tl z) → z.length = m → Tell H (.str z) Q
theorem ok_lword {f fN fS : Addr} {fd fdN fdS : FuncData} (F : Fun K "_law_word" "_law_word" s__law_word f fd) (T : Tx mg tk) (D__law_next : Def P w K mg base "_law_next" 1 fN fdN P__law_next sp_next) (D__law_signs : Def P w K mg base "_law_signs" 1 fS fdS P__law_signs sp_signs) : FnOk P w K mg base CX0 2 f fd P__law_word sp_lword := by
  refine F.ok sc__law_word (fun vs H Q E h => ?_) (fun cdv A outer s H vs Q E hr h => ?_)
  · obtain ⟨n, m, rfl, _⟩ := h
    rfl
  · have nd := sc__law_word.nd
    obtain ⟨n, m, rfl, h0, h1, hm1, hm, q⟩ := h
    refine ⟨_, (pss_cons (ps_set (i := 2) nd rfl (.inr rfl) (pe_slice sl_str (pe_def0 D__law_signs (hr.mono (by decide))) (po_some pe_int) po_none))
      (pss_one (ps_ret (pe_join pe_str (pe_lc (own := [("_law_j", 3)]) (g := gName 3) (by rfl) nd (pi_range1 (by rfl) T.n_range (pa_cons (pv 1) pa_nil)) (blkOk_by (N := N__law_word) (sc := defScope s__law_word) (by decide +kernel)) (fun _ _ _ _ _ => (pg_name (i := 3) nd rfl (Or.inl rfl))) (fun _ _ _ _ _ => pts_nil) (fun _ _ _ _ _ => (pe_ix ix_str (pv 2) (pe_op op_mod (pe_op op_fdiv (pe_def D__law_next (hr.mono (by decide)) (pa_cons (pv 0) (pa_cons (pv 3) pa_nil))) pe_int) pe_int) (fun _ _ => rfl)))))))), ?_⟩
    have ecut : TL.tl (cutS SIGNS (some 1) none) = (TL.tl SIGNS).drop 1 := by rw [show (1 : Int) = ((1 : Nat) : Int) from rfl, cutS_from]
    refine ⟨rfl, 1, rfl, SIGNS, rfl, by rw [SIGNS_len]; exact Nat.le_of_lt (small1000 (by decide)), ?_⟩
    have hcl : (cutS SIGNS (some 1) none).length = 93 := by rw [TL.len_tl, ecut, word_signs_len]
    refine ⟨⟨_, rfl⟩, .int m, rfl, m, rfl, by omega, by omega, fun D hD => lc_pure (n := m) (fun i => .int (0 + (i : Int))) (fun i => .str ⟨#[wordAt (nextN n (0 + (i : Int)) / 5 % 93)]⟩) walk_range (fun _ _ => trivial) hD (by rw [sizeLine_eq]; omega) (fun i H1 Q1 hi sm q1 => ?_) (fun H1 sm e => ?_)⟩
    · refine ⟨.str (cutS SIGNS (some 1) none), rfl, .int n, rfl, .int (0 + (i : Int)), rfl, n, 0 + (i : Int), rfl, h0, h1, by omega, by omega, fun H2 s2 => ?_⟩
      have hk := wordAt_at (n := nextN n (0 + (i : Int)) / 5 % 93) (Int.emod_nonneg _ (by decide)) (Int.emod_lt_of_pos _ (by decide))
      refine ⟨_, 5, rfl, rfl, ⟨by decide, by decide⟩, _, 93, rfl, rfl, (show (0 : Int) < 93 by decide), _, _, _, rfl, rfl, by rw [hcl]; exact Nat.le_of_lt (small1000 (by decide)), ?_, q1 _ s2⟩
      have := hk.1
      rw [← ecut] at this
      exact this
    · have e2 : (List.range m).map (fun i : Nat => V.str ⟨#[wordAt (nextN n (0 + (i : Int)) / 5 % 93)]⟩) = ((List.range m).map fun i : Nat => (⟨#[wordAt (nextN n (0 + (i : Int)) / 5 % 93)]⟩ : Str)).map V.str := by
        rw [List.map_map]; rfl
      rw [e2] at e
      have ones : ∀ l : List Nat, ((l.map fun i : Nat => (⟨#[wordAt (nextN n (0 + (i : Int)) / 5 % 93)]⟩ : Str)).map TL.tl).flatten = l.map fun i : Nat => wordAt (nextN n (0 + (i : Int)) / 5 % 93) := fun l => by
        rw [List.map_map]
        induction l with
        | nil => rfl
        | cons x r ih => rw [List.map_cons, List.flatten_cons, ih]; rfl
      have ej : TL.tl (Txt.join (Str.ofString "") ((List.range m).map fun i : Nat => (⟨#[wordAt (nextN n (0 + (i : Int)) / 5 % 93)]⟩ : Str))) = (List.range m).map fun i : Nat => wordAt (nextN n (0 + (i : Int)) / 5 % 93) := by
        rw [tl_join0, ones]
      refine ⟨Str.ofString "", D, _, rfl, rfl, .inl (.inl (.inl e)), ?_, ?_⟩
      · rw [sum_len, ones, List.length_map, List.length_range]
        show m + _ * 0 ≤ 16777216
        omega
      · refine q _ ⟨fun h => ?_, fun c hc => ?_⟩ ?_ _ sm
        · have := congrArg List.length (ej.symm.trans h)
          rw [List.length_map, List.length_range, List.length_nil] at this
          omega
        · rw [ej] at hc
          obtain ⟨i, _, rfl⟩ := List.mem_map.mp hc
          exact (wordAt_at (Int.emod_nonneg _ (by decide)) (Int.emod_lt_of_pos _ (by decide))).2
        · rw [TL.len_tl, ej, List.length_map, List.length_range]
end
end K01

namespace K01
open PySem PySem.Spec PyProof.Rows L2 LH
section
variable {P : Program} {w : World} {K : PySem.W.Frag} {mg : Str → Option Value} {base : Heap} {tk : Nat → Tok}
/-! ### _law_rows -/
abbrev s__law_rows : Stmt := topS 26
abbrev N__law_rows : List Str := ["_law_name_here", "_law_words_here", "_law_row", "_law_rows_here", "_law_word_here"]
abbrev P__law_rows : List Str := ["_law_name_here", "_law_words_here"]
theorem sc__law_rows : FnScope N__law_rows ["_law_name_here", "_law_words_here"] (defScope s__law_rows) := ⟨rfl, rfl, rfl, by decide +kernel, rfl, by decide +kernel, by decide +kernel⟩
def sp_lrows : Sp := fun vs H Q _ => ∃ (z : Str) (b : Addr) (ws : List Str), vs = [.str z, .ref b] ∧ H b = some (.lst (ws.map V.str)) ∧ isHN (TL.tl z) = true ∧ z.length ≤ 1000 ∧ WsOk ws ∧ ws.length ≤ 100 ∧ New H (rowsH (TL.tl z) ws) Q
theorem ok_lrows {f : Addr} {fd : FuncData} {k : Nat} (F : Fun K "_law_rows" "_law_rows" s__law_rows f fd) (T : Tx mg tk) : FnOk P w K mg base CX0 (k + 1) f fd P__law_rows sp_lrows := by
  refine F.ok sc__law_rows (fun vs H Q E h => ?_) (fun cdv A outer s H vs Q E hr h => ?_)
  · obtain ⟨z, b, ws, rfl, _⟩ := h
    rfl
  · have nd := sc__law_rows.nd
    obtain ⟨z, b, ws, rfl, hB, hn, hz, hw, hwl, q⟩ := h
    refine ⟨_, (pss_cons (ps_set (i := 2) nd rfl (.inl rfl) (pe_op op_add_str (pe_join pe_str (pe_lc (own := [("_law_word_here", 4)]) (g := gName 4) (by rfl) nd (pi_list (pe_split (pv 0) pe_str)) (blkOk_by (N := N__law_rows) (sc := defScope s__law_rows) (by decide +kernel)) (fun _ _ _ _ _ => (pg_name (i := 4) nd rfl (Or.inl rfl))) (fun _ _ _ _ _ => pts_nil) (fun _ _ _ _ _ => (pe_op op_add_str (pe_upper (pe_slice sl_str (pv 4) po_none (po_some pe_int))) (pe_slice sl_str (pv 4) (po_some pe_int) po_none))))) pe_str))
      (pss_cons (ps_set (i := 3) nd rfl (.inl rfl) (pe_lst pa_nil))
      (pss_cons (ps_for PassesOwn.never rfl (pi_list (pv 1)) (pg_name (i := 4) nd rfl (Or.inl rfl))
        (pss_one (ps_if (pt_cmpR op_gt (pe_callB call_len_str (by rfl) T.n_len (by decide +kernel) (pa_cons (pe_op op_add_str (pe_op op_add_str (pv 2) pe_str) (pv 4)) pa_nil)) pe_int (nomark _))
          (pss_cons (ps_expr (pe_bm PySem.F.plainAttrs_list PySem.F.slot_list_append PySem.F.type_list_append mt_append (pv 3) (pa_cons (pv 2) pa_nil)))
          (pss_one (ps_set (i := 2) nd rfl (.inl rfl) (pe_op op_add_str pe_str (pv 4)))))
          (pss_one (ps_set (i := 2) nd rfl (.inl rfl) (pe_op op_add_str (pe_op op_add_str (pv 2) pe_str) (pv 4)))))))
      (pss_cons (ps_expr (pe_bm PySem.F.plainAttrs_list PySem.F.slot_list_append PySem.F.type_list_append mt_append (pv 3) (pa_cons (pv 2) pa_nil)))
      (pss_one (ps_ret (pv 3))))))), ?_⟩
    have hm : (ws.map V.str).length = ws.length := List.length_map ..
    have hsp := split_tl (x := z) (y := Str.ofString "-") (s := 45) tl_dash (by decide)
    have hsm := hn_small hn
    have hmy := hn_many hn
    refine ⟨⟨_, rfl⟩, .str z, rfl, ⟨_, rfl⟩, z, Str.ofString "-", rfl, rfl, by decide +kernel, by rw [sizeLine_eq]; omega, fun p np => ?_⟩
    have s1 := same_upd (o := .lst ((Txt.split z (Str.ofString "-")).map V.str)) np
    generalize Txt.split z (Str.ofString "-") = us at *
    have hum : (us.map V.str).length = us.length := List.length_map ..
    have hul : us.length = (splitL 45 (TL.tl z)).length := by rw [← hsp, List.length_map]
    have hus : ∀ x ∈ us, Sm (TL.tl x) ∧ x.length ≤ 8 := fun x hx => by
      have := hsm (TL.tl x) (by rw [← hsp]; exact List.mem_map.mpr ⟨x, hx, rfl⟩)
      exact ⟨this.1, by rw [TL.len_tl]; exact this.2.2⟩
    refine ⟨p, rfl, ⟨_, .inl (.inl upd_same)⟩, fun D hD => lc_pure (fun i => (us.map V.str).getD i .non) (fun i => .str (Txt.upper (cutS (us.getD i Str.empty) none (some 1)) ++ cutS (us.getD i Str.empty) (some 1) none)) walk_listF (fun H1 sm => sm.seq (.inl (.inl upd_same))) hD (by rw [hum, sizeLine_eq]; omega) (fun i H1 Q1 hi sm q1 => ?_) (fun H1 sm e => ?_)⟩
    · rw [hum] at hi
      rw [getD_str us i hi]
      have hxm : us.getD i Str.empty ∈ us := by
        rw [List.getD_eq_getElem?_getD, List.getElem?_eq_getElem hi]
        exact List.getElem_mem hi
      generalize us.getD i Str.empty = x at *
      have hx := hus x hxm
      have l1 := cutS_length x none (some 1)
      have l2 := cutS_length x (some 1) none
      have eu := upper_eq (cutS x none (some 1)) (fun c hc => hx.1 c (List.mem_of_mem_drop (List.mem_of_mem_take hc)))
      have lu : (Txt.upper (cutS x none (some 1))).length = (cutS x none (some 1)).length := by rw [TL.len_tl, eu, List.length_map, ← TL.len_tl]
      exact ⟨.str x, rfl, 1, rfl, x, rfl, by rw [sizeLine_eq]; omega, ⟨_, rfl⟩, _, rfl, rfl, by omega, .str x, rfl, 1, rfl, x, rfl, by rw [sizeLine_eq]; omega, _, _, rfl, rfl, by rw [lu, sizeLine_eq]; omega, q1 _ (Same.refl _)⟩
    · rw [hum] at e
      have em : (List.range us.length).map (fun i => V.str (Txt.upper (cutS (us.getD i Str.empty) none (some 1)) ++ cutS (us.getD i Str.empty) (some 1) none)) = (us.map fun x => Txt.upper (cutS x none (some 1)) ++ cutS x (some 1) none).map V.str := by
        conv => rhs; rw [← LH.range_getD us Str.empty]
        rw [List.map_map, List.map_map]
        rfl
      rw [em] at e
      have ecap : (us.map fun x => Txt.upper (cutS x none (some 1)) ++ cutS x (some 1) none).map TL.tl = (splitL 45 (TL.tl z)).map cap := by
        rw [← hsp, List.map_map, List.map_map]
        exact List.map_congr_left fun x hx => upper_cap x (hus x hx).1
      have eJ : TL.tl (Txt.join (Str.ofString "-") (us.map fun x => Txt.upper (cutS x none (some 1)) ++ cutS x (some 1) none)) = great (TL.tl z) := by
        rw [TL.join_eq, TL.tl_join, ecap, tl_dash]
        rfl
      have hb := join_len_le (sep := Str.ofString "-") (ws := us.map fun x => Txt.upper (cutS x none (some 1)) ++ cutS x (some 1) none) (k := 8) (n := 3) (fun x hx => by
        obtain ⟨y, hy, rfl⟩ := List.mem_map.mp hx
        rw [TL.len_tl, upper_cap y (hus y hy).1, cap_len, ← TL.len_tl]
        exact (hus y hy).2) (by rw [List.length_map]; omega)
      have hb2 : 3 * (8 + (Str.ofString "-").length) = 27 := by decide +kernel
      have hgl := great_len hn
      refine ⟨Str.ofString "-", D, _, rfl, rfl, .inl (.inl (.inl e)), by omega, ?_⟩
      have ej2 : Txt.join (Str.ofString "-") (us.map fun x => Txt.upper (cutS x none (some 1)) ++ cutS x (some 1) none) = ⟨(great (TL.tl z)).toArray⟩ := TL.ext_tl eJ
      rw [ej2]
      have hgs : (⟨(great (TL.tl z)).toArray⟩ : Str).length = (great (TL.tl z)).length := mk_len _
      refine ⟨_, Str.ofString ":", rfl, rfl, by rw [hgs, sizeLine_eq, show (Str.ofString ":").length = 1 by decide +kernel]; omega, Nat.zero_le _, fun o no => ?_⟩
      have ehd : (⟨(great (TL.tl z)).toArray⟩ : Str) ++ Str.ofString ":" = ⟨(great (TL.tl z) ++ [58]).toArray⟩ := TL.ext_tl (by rw [TL.tl_append, show TL.tl (Str.ofString ":") = [58] by decide +kernel])
      rw [ehd]
      have s6 := same_upd (o := .lst []) no
      have sA : Same H H1 := s1.trans sm
      have hno : H o = none := sA.free no
      have eB := s6 _ _ (sA _ _ hB)
      refine ⟨.ref b, rfl, b, rfl, ⟨_, .inl (.inl eB)⟩, for_it walk_list (fun i σ H' => ∃ y4, σ = [some (.str z), some (.ref b), some (.str ⟨(hfold (TL.tl z) ((ws.take i).map TL.tl)).2.toArray⟩), some (.ref o), y4] ∧ Same H1 H' ∧ H' o = some (.lst ((strL (hfold (TL.tl z) ((ws.take i).map TL.tl)).1).map V.str)))
        ⟨none, rfl, s6, upd_same⟩ (fun i σ H' _ h => by obtain ⟨y, rfl, sm, _⟩ := h; exact .inl (.inl (sm _ _ (sA _ _ hB)))) (fun i x σ H' H'' hi hP hy => ?_) (fun σ H' hP => ?_)⟩
      · obtain ⟨y4, rfl, sm, eo⟩ := hP
        obtain ⟨rfl, hx⟩ := hy
        rw [hm] at hi
        rw [List.getElem?_map, List.getElem?_eq_getElem hi] at hx
        obtain rfl := Option.some.inj hx
        have hwi := hw ws[i] (List.getElem_mem hi)
        have hfl := hfold_len (TL.tl z) (by omega) ((ws.take i).map TL.tl) fun x hx => by
          obtain ⟨y, hy, rfl⟩ := List.mem_map.mp hx
          rw [← TL.len_tl]
          exact (hw y (List.mem_of_mem_take hy)).2
        have hst : hfold (TL.tl z) ((ws.take (i + 1)).map TL.tl) = hstep (hfold (TL.tl z) ((ws.take i).map TL.tl)) (TL.tl ws[i]) := by
          rw [List.take_add_one, List.getElem?_eq_getElem hi, Option.toList_some, List.map_append, List.map_singleton, hfold_snoc]
        have htl : ((ws.take i).map TL.tl).length = i := by rw [List.length_map, List.length_take]; omega
        rw [htl] at hfl
        rw [hst]
        generalize hfold (TL.tl z) ((ws.take i).map TL.tl) = st at *
        obtain ⟨d, c⟩ := st
        have hdl : ((strL d).map V.str).length = d.length := by unfold strL; rw [List.length_map, List.length_map]
        have hcl : (⟨c.toArray⟩ : Str).length = c.length := mk_len _
        have hc60 : c.length ≤ 60 := hfl.1
        have hd100 : d.length ≤ i := hfl.2.2
        have hxl : ws[i].length = (TL.tl ws[i]).length := TL.len_tl _
        have ebl : Str.ofString " " ++ ws[i] = ⟨(32 :: TL.tl ws[i]).toArray⟩ := TL.ext_tl (by rw [TL.tl_append, tl_blank]; rfl)
        have ecb : (⟨c.toArray⟩ : Str) ++ Str.ofString " " ++ ws[i] = ⟨(c ++ 32 :: TL.tl ws[i]).toArray⟩ := TL.ext_tl (by rw [TL.tl_append, TL.tl_append, tl_blank]; simp [TL.tl])
        have hbl : (Str.ofString " ").length = 1 := by decide +kernel
        refine ⟨.str ⟨c.toArray⟩, rfl, _, Str.ofString " ", rfl, rfl, by rw [hcl, hbl, sizeLine_eq]; omega, .str ws[i], rfl, _, _, rfl, rfl, by rw [len_app, hcl, hbl, sizeLine_eq]; omega, _, rfl, by rw [len_app, len_app, hcl, hbl, sizeLine_eq]; omega, _, 60, rfl, rfl, _, rfl, ?_⟩
        have hdec : decide ((60 : Int) < (((⟨c.toArray⟩ : Str) ++ Str.ofString " " ++ ws[i]).length : Nat)) = decide (60 < c.length + 1 + (TL.tl ws[i]).length) := decide_eq_decide.mpr (by rw [len_app, len_app, hcl, hbl, hxl]; omega)
        show (if decide ((60 : Int) < (((⟨c.toArray⟩ : Str) ++ Str.ofString " " ++ ws[i]).length : Nat)) = true then _ else _)
        rw [hdec]
        unfold hstep
        refine ite2 (fun hc => ?_) (fun hc => ?_)
        · have hc' := of_decide_eq_true hc
          rw [if_pos hc']
          refine ⟨.ref o, rfl, .inl ⟨rfl, _, .inl (.inl eo)⟩, .str ⟨c.toArray⟩, rfl, o, _, _, rfl, rfl, eo, by rw [hdl, sizeLine_eq]; omega, ?_⟩
          refine ⟨.str ws[i], rfl, Str.ofString " ", ws[i], rfl, rfl, by rw [hbl, sizeLine_eq]; omega, some (.str ws[i]), ?_, fun b' x e => ?_, ?_⟩
          · rw [ebl]; rfl
          · rw [upd_ne (ne_of_none e no)]
            exact sm _ _ e
          · rw [upd_same, strL_app, List.map_append]
            rfl
        · have hc' : ¬ 60 < c.length + 1 + (TL.tl ws[i]).length := fun h => hc (decide_eq_true h)
          rw [if_neg hc']
          refine ⟨.str ⟨c.toArray⟩, rfl, _, Str.ofString " ", rfl, rfl, by rw [hcl, hbl, sizeLine_eq]; omega, .str ws[i], rfl, _, _, rfl, rfl, by rw [len_app, hcl, hbl, sizeLine_eq]; omega, some (.str ws[i]), ?_, sm, eo⟩
          rw [ecb]; rfl
      · obtain ⟨y4, rfl, sm, eo⟩ := hP
        rw [hm, List.take_length] at eo
        rw [hm, List.take_length]
        have hfl := hfold_len (TL.tl z) (by omega) (ws.map TL.tl) fun x hx => by
          obtain ⟨y, hy, rfl⟩ := List.mem_map.mp hx
          rw [← TL.len_tl]
          exact (hw y hy).2
        refine ⟨.ref o, rfl, .inl ⟨rfl, _, .inl (.inl eo)⟩, _, rfl, o, _, _, rfl, rfl, eo, ?_, ?_⟩
        · unfold strL
          rw [List.length_map, List.length_map, sizeLine_eq]
          have := hfl.2.2
          rw [List.length_map] at this
          omega
        · refine ⟨.ref o, rfl, q _ o (fun b' x e => ?_) hno ?_⟩
          · rw [upd_ne (ne_of_none (sA _ _ e) no)]
            exact sm _ _ (sA _ _ e)
          · rw [upd_same]
            unfold rowsH hrows
            rw [strL_app, List.map_append]
            rfl
end
end K01

namespace K01
open PySem PySem.Spec PyProof.Rows L2 LH
section
variable {P : Program} {w : World} {K : PySem.W.Frag} {mg : Str → Option Value} {base : Heap} {tk : Nat → Tok}
theorem rowsH_last (l : List Nat) (ws : List Str) : atI (rowsH l ws) (-1) = some (.str ⟨(hfold l (ws.map TL.tl)).2.toArray⟩) := by
  unfold rowsH hrows
  rw [strL_app, List.map_append]
  exact atI_last _ _
theorem ws_len {ws : List Str} (hw : WsOk ws) : ∀ x ∈ ws.map TL.tl, x.length ≤ 59 := fun x hx => by
  obtain ⟨y, hy, rfl⟩ := List.mem_map.mp hx
  rw [← TL.len_tl]
  exact (hw y hy).2
/-! ### _law_words -/
abbrev s__law_words : Stmt := topS 27
abbrev N__law_words : List Str := ["_law_script", "_law_name_here", "_law_words_here", "_law_k", "_law_cell_here", "_law_number", "_law_room", "_law_some", "_law_size"]
abbrev P__law_words : List Str := ["_law_script", "_law_name_here"]
theorem sc__law_words : FnScope N__law_words ["_law_script", "_law_name_here"] (defScope s__law_words) := ⟨rfl, rfl, rfl, by decide +kernel, rfl, by decide +kernel, by decide +kernel⟩
def sp_lwords (K : PySem.W.Frag) : Sp := fun vs H Q _ => ∃ (a : Addr) (z : Str) (ns : List Int), vs = [.ref a, .str z] ∧ SqL K H a (ns.map V.int) ∧ ns.length ≤ 63 ∧ isHN (TL.tl z) = true ∧ z.length ≤ 1000 ∧ ∀ ws : List Str, WsOk ws → ws.length ≤ 63 → New H (ws.map V.str) Q
theorem ok_lwords {f fM fR fW : Addr} {fd fdM fdR fdW : FuncData} (F : Fun K "_law_words" "_law_words" s__law_words f fd) (T : Tx mg tk) (D__law_mixed : Def P w K mg base "_law_mixed" 1 fM fdM P__law_mixed sp_mixed) (D__law_rows : Def P w K mg base "_law_rows" 1 fR fdR P__law_rows sp_lrows) (D__law_word : Def P w K mg base "_law_word" 2 fW fdW P__law_word sp_lword) : FnOk P w K mg base CX0 3 f fd P__law_words (sp_lwords K) := by
  refine F.ok sc__law_words (fun vs H Q E h => ?_) (fun cdv A outer s H vs Q E hr h => ?_)
  · obtain ⟨a, z, ns, rfl, _⟩ := h
    rfl
  · have nd := sc__law_words.nd
    obtain ⟨a, z, ns, rfl, hS, hlen, hn, hz, q⟩ := h
    refine ⟨_, (pss_cons (ps_set (i := 2) nd rfl (.inl rfl) (pe_lst pa_nil))
      (pss_cons (ps_for PassesOwn.never rfl (pi_enum (by rfl) T.n_enumerate (pa_cons (pe_slice (slL K) (pv 0) (po_some pe_int) (po_some pe_int)) pa_nil)) (pg_tup rfl (pgs_cons (pg_name (i := 3) nd rfl (Or.inl rfl)) (pgs_cons (pg_name (i := 4) nd rfl (Or.inl rfl)) pgs_nil)))
        (pss_cons (ps_set (i := 5) nd rfl (.inl rfl) (pe_def D__law_mixed (hr.mono (by decide)) (pa_cons (pv 4) (pa_cons (pv 3) pa_nil))))
        (pss_cons (ps_set (i := 6) nd rfl (.inl rfl) (pe_op op_sub pe_int (pe_callB call_len_str (by rfl) T.n_len (by decide +kernel) (pa_cons (pe_ix (ixL K) (pe_def D__law_rows (hr.mono (by decide)) (pa_cons (pv 1) (pa_cons (pv 2) pa_nil))) (pe_un un_neg pe_int) (fun _ _ => rfl)) pa_nil))))
        (pss_cons (ps_set (i := 7) nd rfl (.inl rfl) (pe_lst (pa_cons (pe_op op_add pe_int (pe_op op_mod (pe_op op_fdiv (pv 5) pe_int) pe_int)) (pa_cons (pv 6) (pa_cons (pe_op op_add (pv 6) pe_int) (pa_cons (pe_op op_sub (pv 6) pe_int) (pa_cons pe_int (pa_cons (pe_op op_add pe_int (pe_op op_mod (pe_op op_fdiv (pv 5) pe_int) pe_int)) pa_nil))))))))
        (pss_cons (ps_set (i := 8) nd rfl (.inl rfl) (pe_ix (ixL K) (pv 7) (pe_callB (call_min2 rfl) (by rfl) T.n_min (by decide +kernel) (pa_cons pe_int (pa_cons (pe_op op_mod (pv 5) pe_int) pa_nil))) (fun _ _ => rfl)))
        (pss_one (ps_expr (pe_bm PySem.F.plainAttrs_list PySem.F.slot_list_append PySem.F.type_list_append mt_append (pv 2) (pa_cons (pe_def D__law_word (hr.mono (by decide)) (pa_cons (pv 5) (pa_cons (pe_callB (call_max2 rfl) (by rfl) T.n_max (by decide +kernel) (pa_cons pe_int (pa_cons (pe_callB (call_min2 rfl) (by rfl) T.n_min (by decide +kernel) (pa_cons pe_int (pa_cons (pv 8) pa_nil))) pa_nil))) pa_nil))) pa_nil)))))))))
      (pss_one (ps_ret (pv 2))))), ?_⟩
    have hgl := great_len hn
    refine ⟨Nat.zero_le _, fun o no => ?_⟩
    have s1 := same_upd (o := .lst []) no
    refine ⟨.ref a, rfl, 1, rfl, 63, rfl, a, _, rfl, s1.seq hS, fun c nc => ?_⟩
    have ecut : cutV (ns.map V.int) (some 1) (some 63) = (ns.drop 1).map V.int := by
      rw [show (1 : Int) = ((1 : Nat) : Int) from rfl, show (63 : Int) = ((63 : Nat) : Int) from rfl, cutV_at, List.map_drop, List.take_of_length_le (by rw [List.length_drop, List.length_map]; omega)]
    rw [ecut]
    have hms : (ns.drop 1).length ≤ 62 := by rw [List.length_drop]; omega
    generalize ns.drop 1 = ms at *
    have s2 := same_upd (o := .lst (ms.map V.int)) nc
    have nco : c ≠ o := fun e => by
      rw [e, upd_same] at nc
      cases nc
    refine ⟨c, ms.map V.int, rfl, .inl (.inl upd_same), for_it walk_enum (fun i σ H' => ∃ (y3 y4 y5 y6 y7 y8 : Option V) (ws : List Str), σ = [some (.ref a), some (.str z), some (.ref o), y3, y4, y5, y6, y7, y8] ∧ Same H H' ∧ H' c = some (.lst (ms.map V.int)) ∧ H' o = some (.lst (ws.map V.str)) ∧ WsOk ws ∧ ws.length ≤ i)
      ⟨none, none, none, none, none, none, [], rfl, s1.trans s2, upd_same, by rw [upd_ne nco.symm, upd_same]; rfl, (fun _ h => by cases h), Nat.le_refl _⟩
      (fun i σ H' _ h => by obtain ⟨_, _, _, _, _, _, _, rfl, _, e, _⟩ := h; exact .inl (.inl e)) (fun i x σ H' H'' hi hP hy => ?_) (fun σ H' hP => ?_)⟩
    · obtain ⟨y3, y4, y5, y6, y7, y8, ws, rfl, sm, ec, eo, hw, hwl⟩ := hP
      obtain ⟨U, x1, x2, rfl, nU, rfl, f1, f2⟩ := hy
      rw [List.length_map] at hi
      have f2 : (ms.map V.int)[i]? = some x2 := f2
      rw [List.getElem?_map, List.getElem?_eq_getElem hi] at f2
      obtain rfl := Option.some.inj f1
      obtain rfl := Option.some.inj f2
      have sU := same_upd (o := .tup [.int (i : Nat), .int ms[i]]) nU
      refine ⟨U, _, rfl, .inl (.inl upd_same), rfl, _, _, rfl, _, _, rfl, rfl, ?_⟩
      refine ⟨_, rfl, _, rfl, ms[i], (i : Int), rfl, by omega, by omega, fun H2 s2' => ?_⟩
      have hM := mixed_lt ms[i] (i : Int)
      generalize mixed ms[i] (i : Int) = M at hM
      have eo2 := s2' _ _ (sU _ _ eo)
      have hfl := hfold_len (TL.tl z) (by omega) (ws.map TL.tl) (ws_len hw)
      refine ⟨.str z, rfl, .ref o, rfl, z, o, ws, rfl, eo2, hn, hz, hw, by omega, fun H3 r s3 nr e3 => ?_⟩
      refine ⟨1, rfl, r, _, -1, _, rfl, rfl, .inl (.inl e3), rowsH_last _ _, _, rfl, by rw [mk_len, sizeLine_eq]; omega, 59, _, rfl, rfl, ?_⟩
      have hcl : (⟨(hfold (TL.tl z) (ws.map TL.tl)).2.toArray⟩ : Str).length = (hfold (TL.tl z) (ws.map TL.tl)).2.length := mk_len _
      rw [hcl]
      generalize hL : (hfold (TL.tl z) (ws.map TL.tl)).2.length = L at *
      refine ⟨.int M, rfl, M, 8, rfl, rfl, ⟨by decide, by decide⟩, _, 59, rfl, rfl, (show (0 : Int) < 59 by decide), 1, _, rfl, rfl, .int (59 - (L : Nat)), rfl, .int (59 - (L : Nat)), rfl, _, 1, rfl, rfl, .int (59 - (L : Nat)), rfl, _, 1, rfl, rfl, .int M, rfl, M, 8, rfl, rfl, ⟨by decide, by decide⟩, _, 9, rfl, rfl, (show (0 : Int) < 9 by decide), 1, _, rfl, rfl, Nat.le_of_lt (small1000 (show 6 ≤ 1000 by decide)), fun p np => ?_⟩
      have sp := same_upd (o := .lst [V.int (1 + M / 8 % 59), .int (59 - (L : Nat)), .int (59 - (L : Nat) + 1), .int (59 - (L : Nat) - 1), .int 59, .int (1 + M / 8 % 9)]) np
      have hm8 : 0 ≤ M % 8 ∧ M % 8 < 8 := ⟨Int.emod_nonneg _ (by decide), Int.emod_lt_of_pos _ (by decide)⟩
      have hidx : 0 ≤ (if M % 8 < 5 then M % 8 else 5) ∧ (if M % 8 < 5 then M % 8 else 5) < 6 := by split <;> omega
      obtain ⟨x, hx, ex⟩ := pickL [V.int (1 + M / 8 % 59), .int (59 - (L : Nat)), .int (59 - (L : Nat) + 1), .int (59 - (L : Nat) - 1), .int 59, .int (1 + M / 8 % 9)] (if M % 8 < 5 then M % 8 else 5) hidx.1 hidx.2
      obtain ⟨y, rfl⟩ : ∃ y : Int, x = .int y := by
        simp only [List.mem_cons, List.mem_nil_iff, or_false] at hx
        rcases hx with rfl | rfl | rfl | rfl | rfl | rfl <;> exact ⟨_, rfl⟩
      refine ⟨.ref p, rfl, .int M, rfl, M, 8, rfl, rfl, (show (0 : Int) < 8 by decide), 5, M % 8, rfl, p, _, _, .int y, rfl, rfl, .inl (.inl upd_same), ex, ?_⟩
      have eo3 := sp _ _ (s3 _ _ eo2)
      refine ⟨.ref o, rfl, .inl ⟨rfl, _, .inl (.inl eo3)⟩, .int M, rfl, .int y, rfl, 59, y, rfl, 1, _, rfl, ?_⟩
      obtain ⟨m, hm⟩ : ∃ m : Nat, (if (if y < 59 then y else 59) > 1 then (if y < 59 then y else 59) else (1 : Int)) = (m : Int) := ⟨(if (if y < 59 then y else 59) > 1 then (if y < 59 then y else 59) else (1 : Int)).toNat, by split <;> split <;> omega⟩
      have hmr : 1 ≤ m ∧ m ≤ 59 := by
        revert hm
        split <;> split <;> intro hm <;> omega
      refine ⟨M, m, by rw [hm]; rfl, hM.1, by omega, hmr.1, by omega, fun t ht htl H4 s4 => ?_⟩
      have eo4 := s4 _ _ eo3
      refine ⟨o, _, _, rfl, rfl, eo4, by rw [List.length_map, sizeLine_eq]; omega, ?_⟩
      refine ⟨_, _, _, _, _, _, ws ++ [t], rfl, fun b x e => ?_, ?_, ?_, fun x hx => ?_, by rw [List.length_append, List.length_singleton]; omega⟩
      · rw [upd_ne (ne_of_none e no)]
        exact s4 _ _ (sp _ _ (s3 _ _ (s2' _ _ (sU _ _ (sm _ _ e)))))
      · rw [upd_ne nco]
        exact s4 _ _ (sp _ _ (s3 _ _ (s2' _ _ (sU _ _ ec))))
      · rw [upd_same, List.map_append]
        rfl
      · rcases List.mem_append.mp hx with h | h
        · exact hw x h
        · rw [List.mem_singleton.mp h]
          exact ⟨ht, by omega⟩
    · obtain ⟨y3, y4, y5, y6, y7, y8, ws, rfl, sm, ec, eo, hw, hwl⟩ := hP
      rw [List.length_map] at hwl
      exact ⟨.ref o, rfl, q ws hw (by omega) H' o sm no eo⟩
/-! ### law -/
abbrev s_law : Stmt := topS 28
abbrev N_law : List Str := ["_law_script", "_law_name_here", "_law_words_here", "_law_value", "_law_due", "_law_turn", "_law_found", "_law_row"]
abbrev P_law : List Str := ["_law_script"]
theorem sc_law : FnScope N_law ["_law_script"] (defScope s_law) := ⟨rfl, rfl, rfl, by decide +kernel, rfl, by decide +kernel, by decide +kernel⟩
def spLaw (K : PySem.W.Frag) : Sp := fun vs H Q _ => ∃ (a : Addr) (ns : List Int), vs = [.ref a] ∧ SqL K H a (ns.map V.int) ∧ ns.length ≤ 63 ∧ ∀ H', Q (.bl true) H'
theorem rowsS_okH {l : List Nat} {ws : List Str} (hn : isHN l = true) (hw : WsOk ws) : ∀ x ∈ strL (hrows l (ws.map TL.tl)), OkS x := fun x hx => by
  obtain ⟨r, hr, rfl⟩ := List.mem_map.mp hx
  have h := hfold_ok l (great_ok hn) (ws.map TL.tl) fun u hu => by
    obtain ⟨y, hy, rfl⟩ := List.mem_map.mp hu
    intro c hc
    have := (hw y hy).1.2 c hc
    omega
  intro c hc
  rcases List.mem_append.mp (show r ∈ (hfold l (ws.map TL.tl)).1 ++ [(hfold l (ws.map TL.tl)).2] from hr) with h1 | h1
  · exact h.2 r h1 c hc
  · rw [List.mem_singleton.mp h1] at hc
    exact h.1 c hc
theorem rows_lens {l : List Nat} {ws : List Str} (hn : isHN l = true) (hw : WsOk ws) : ∀ x ∈ strL (hrows l (ws.map TL.tl)), x.length ≤ 60 := fun x hx => by
  obtain ⟨r, hr, rfl⟩ := List.mem_map.mp hx
  have hgl := great_len hn
  have h := hfold_len l (by omega) (ws.map TL.tl) (ws_len hw)
  rw [mk_len]
  rcases List.mem_append.mp (show r ∈ (hfold l (ws.map TL.tl)).1 ++ [(hfold l (ws.map TL.tl)).2] from hr) with h1 | h1
  · exact h.2.1 r h1
  · rw [List.mem_singleton.mp h1]
    exact h.1
theorem rows_many {l : List Nat} {ws : List Str} (hn : isHN l = true) (hw : WsOk ws) : (strL (hrows l (ws.map TL.tl))).length ≤ ws.length + 1 := by
  have hgl := great_len hn
  have h := hfold_len l (by omega) (ws.map TL.tl) (ws_len hw)
  rw [List.length_map] at h
  unfold strL hrows
  rw [List.length_map, List.length_append, List.length_singleton]
  omega
end
end K01

namespace K01
open PySem PySem.Spec PyProof.Rows L2 LH
section
variable {P : Program} {w : World} {K : PySem.W.Frag} {mg : Str → Option Value} {base : Heap} {tk : Nat → Tok}
theorem join_nil : Txt.join (Str.ofString " ") [] = Str.ofString "" := TL.ext_tl (by rw [TL.join_eq, TL.tl_join, tl_empty]; rfl)
theorem filt_none {α : Type} (n : Nat) (f : Nat → α) (b : Nat → Bool) (h : ∀ i, i < n → b i = false) : ((List.range n).filter b).map f = [] := by
  rw [List.map_eq_nil_iff, List.filter_eq_nil_iff]
  intro i hi
  rw [h i (List.mem_range.mp hi)]
  exact Bool.false_ne_true
theorem ok_law {f fM fC fN fW fR fH fV fF : Addr} {fd fdM fdC fdN fdW fdR fdH fdV fdF : FuncData} (F : Fun K "law" "law" s_law f fd) (T : Tx mg tk)
    (D__law_mixed : Def P w K mg base "_law_mixed" 1 fM fdM P__law_mixed sp_mixed) (D__law_cell : Def P w K mg base "_law_cell" 1 fC fdC P__law_cell (sp_cell K)) (D__law_name : Def P w K mg base "_law_name" 2 fN fdN P__law_name sp_lname)
    (D__law_words : Def P w K mg base "_law_words" 3 fW fdW P__law_words (sp_lwords K)) (D__law_rows : Def P w K mg base "_law_rows" 1 fR fdR P__law_rows sp_lrows) (D_is_header_name : Def P w K mg base "is_header_name" 2 fH fdH ["thing"] (sp_header_name K)) (D_is_value : Def P w K mg base "is_value" 2 fV fdV ["thing"] (sp_value K)) (D_folded : Def P w K mg base "folded" 3 fF fdF P_folded sp_folded) :
    FnOk P w K mg base CX0 4 f fd ["_law_script"] (spLaw K) := by
  refine F.ok sc_law (fun vs H Q E h => ?_) (fun cdv A outer s H vs Q E hr h => ?_)
  · obtain ⟨a, ns, rfl, _⟩ := h
    rfl
  · have nd := sc_law.nd
    obtain ⟨a, ns, rfl, hS, hlen, q⟩ := h
    refine ⟨_, (pss_cons (ps_set (i := 1) nd rfl (.inl rfl) (pe_def D__law_name (hr.mono (by decide)) (pa_cons (pe_def D__law_mixed (hr.mono (by decide)) (pa_cons (pe_def D__law_cell (hr.mono (by decide)) (pa_cons (pv 0) (pa_cons pe_int pa_nil))) (pa_cons pe_int pa_nil))) pa_nil)))
      (pss_cons (ps_set (i := 2) nd rfl (.inl rfl) (pe_def D__law_words (hr.mono (by decide)) (pa_cons (pv 0) (pa_cons (pv 1) pa_nil))))
      (pss_cons (ps_set (i := 3) nd rfl (.inl rfl) (pe_join pe_str (pv 2)))
      (pss_cons (ps_set (i := 4) nd rfl (.inl rfl) (pe_def D__law_rows (hr.mono (by decide)) (pa_cons (pv 1) (pa_cons (pv 2) pa_nil))))
      (pss_cons (ps_if (PW.pt (pw_or (pt_cmpR op_notBl (pe_def D_is_header_name (hr.mono (by decide)) (pa_cons (pv 1) pa_nil)) pe_bl (nomark _)) (pw_or1 (pt_cmpR op_notBl (pe_def D_is_value (hr.mono (by decide)) (pa_cons (pv 3) pa_nil)) pe_bl (nomark _)))))
        (pss_one (ps_ret pe_bl))
        pss_nil)
      (pss_cons (ps_for PassesOwn.never rfl (pi_range1 (by rfl) T.n_range (pa_cons pe_int pa_nil)) (pg_name (i := 5) nd rfl (Or.inl rfl))
        (pss_cons (ps_set (i := 6) nd rfl (.inl rfl) (pe_def D_folded (hr.mono (by decide)) (pa_cons (pv 1) (pa_cons (pv 3) pa_nil))))
        (pss_cons (ps_if (PW.pt (pw_or (pt_not (pt_val (pe_callB (cIsi K) (by rfl) T.n_isinstance (by decide +kernel) (pa_cons (pv 6) (pa_cons (pe_bltn (v := .ty "list") (by rfl) T.n_list (by decide +kernel) rfl) pa_nil))))) (pw_or (pt_cmpR (oNeD K hr.units) (pv 6) (pv 4) (nomark _)) (pw_or1 (pt_not (pt_val (pe_callB (cAll K) (by rfl) T.n_all (by decide +kernel) (pa_cons (pe_lc (own := [("_law_row", 7)]) (g := gName 7) (by rfl) nd (pi_list (pv 6)) (blkOk_by (N := N_law) (sc := defScope s_law) (by decide +kernel)) (fun _ _ _ _ _ => (pg_name (i := 7) nd rfl (Or.inl rfl))) (fun _ _ _ _ _ => pts_nil) (fun _ _ _ _ _ => (pe_callB (cIsi K) (by rfl) T.n_isinstance (by decide +kernel) (pa_cons (pv 7) (pa_cons (pe_bltn (v := .ty "str") (by rfl) T.n_str (by decide +kernel) rfl) pa_nil))))) pa_nil))))))))
          (pss_one (ps_ret pe_bl))
          pss_nil)
        (pss_one (ps_expr (pe_bm PySem.F.plainAttrs_list PySem.F.slot_list_append PySem.F.type_list_append mt_append (pv 6) (pa_cons pe_str pa_nil)))))))
      (pss_one (ps_ret (pe_and (pe_cmpR (oEqD K hr.units) (pe_lc (own := [("_law_row", 7)]) (g := gName 7) (by rfl) nd (pi_list (pv 4)) (blkOk_by (N := N_law) (sc := defScope s_law) (by decide +kernel)) (fun _ _ _ _ _ => (pg_name (i := 7) nd rfl (Or.inl rfl))) (fun _ _ _ _ _ => (pts_one (pt_cmpR op_gt (pe_callB call_len_str (by rfl) T.n_len (by decide +kernel) (pa_cons (pv 7) pa_nil)) pe_int (nomark _)))) (fun _ _ _ _ _ => (pv 7))) (pe_lst pa_nil) (nomark _)) (pe_one (pe_cmpR (oEqD K hr.units) (pe_def D_folded (hr.mono (by decide)) (pa_cons (pv 1) (pa_cons pe_str pa_nil))) (pe_def D__law_rows (hr.mono (by decide)) (pa_cons (pv 1) (pa_cons (pe_lst pa_nil) pa_nil))) (nomark _)))))))))))), ?_⟩
    refine ⟨.ref a, rfl, a, ns, 0, rfl, hS, fun H1 s1 => ⟨_, 0, rfl, by decide, by decide, fun H2 s2 => ?_⟩⟩
    have hM := mixed_lt (ns.getD 0 0) 0
    refine ⟨_, rfl, hM.1, by omega, fun z hn hz H3 s3 => ?_⟩
    have sA := s1.trans (s2.trans s3)
    refine ⟨.ref a, rfl, .str z, rfl, a, z, ns, rfl, sA.seq hS, hlen, hn, by omega, fun ws hw hwl H4 wa s4 nwa e4 => ?_⟩
    have hvl := val_len hw (by omega)
    refine ⟨⟨_, rfl⟩, .ref wa, rfl, Str.ofString " ", wa, ws, rfl, rfl, .inl (.inl (.inl e4)), by omega, ?_⟩
    refine ⟨.str z, rfl, .ref wa, rfl, z, wa, ws, rfl, e4, hn, by omega, hw, by omega, fun H5 du s5 ndu e5 => ?_⟩
    refine ⟨.str z, rfl, _, rfl, .inl ⟨z, rfl, by omega, fun H6 s6 => ⟨_, true, rfl, rfl, _, rfl, ?_⟩⟩⟩
    rw [hn]
    refine iteF ⟨_, rfl, _, rfl, .inl ⟨_, rfl, by omega, fun H7 s7 => ⟨_, true, rfl, rfl, _, rfl, ?_⟩⟩⟩
    rw [val_ok hw]
    refine iteF ?_
    have e7 := s7 _ _ (s6 _ _ e5)
    have hok := rowsS_okH hn hw
    have hlens := rows_lens hn hw
    have hmany := rows_many hn hw
    unfold rowsH at e7
    refine ⟨2, rfl, by decide, by decide, for_it walk_range (fun i σ H' => ∃ y5 y6, σ = [some (.ref a), some (.str z), some (.ref wa), some (.str (Txt.join (Str.ofString " ") ws)), some (.ref du), y5, y6, none] ∧ Same H7 H') ⟨_, _, rfl, Same.refl _⟩
      (fun _ _ _ _ _ => trivial) (fun i x σ H8 H9 hi hP hy => ?_) (fun σ H8 hP => ?_)⟩
    · obtain ⟨y5, y6, rfl, sm⟩ := hP
      obtain ⟨rfl, rfl⟩ := hy
      refine ⟨.str z, rfl, _, rfl, z, ws, rfl, hn, by omega, hw, by omega, fun H10 fo s10 nfo e10 => ?_⟩
      unfold rowsH at e10
      have e10d := s10 _ _ (sm _ _ e7)
      generalize strL (hrows (TL.tl z) (ws.map TL.tl)) = R at *
      have hRm : (R.map V.str).length = R.length := List.length_map ..
      refine ⟨.ref fo, rfl, .ref fo, .ty "list", _, _, true, rfl, .ty _, .base (.lst e10), kit_ty (by decide +kernel), true, rfl, iteF ?_⟩
      refine ⟨.ref fo, rfl, .ref du, rfl, _, _, dp_strs (.inl (.inl e10)), dp_strs (.inl (.inl e10d)), shaped_strs R hok, shaped_strs R hok, false, ?_, iteF ?_⟩
      · rw [eqv_strsL, decide_eq_true rfl]
        rfl
      refine ⟨.ref fo, rfl, fo, rfl, ⟨_, .inl (.inl e10)⟩, fun D hD => lc_pure (fun i => (R.map V.str).getD i .non) (fun i => .bl true) walk_listF (fun H11 s11 => s11.seq (.inl (.inl e10))) hD (by rw [hRm, sizeLine_eq]; omega) (fun j H11 Q1 hj s11 q1 => ?_) (fun H11 s11 e11 => ?_)⟩
      · rw [hRm] at hj
        rw [getD_str R j hj]
        exact ⟨_, rfl, _, .ty "str", _, _, true, rfl, .ty _, .base (.str _), kit_ty (by decide +kernel), q1 _ (Same.refl _)⟩
      · refine ⟨D, (List.range (R.map V.str).length).map fun _ => true, rfl, .inl (.inl (by rw [e11, List.map_map]; rfl)), _, rfl, ?_⟩
        rw [map_true]
        refine iteF ⟨.ref fo, rfl, .inl ⟨rfl, _, .inl (.inl (s11 _ _ e10))⟩, fo, _, _, rfl, rfl, s11 _ _ e10, by rw [hRm, sizeLine_eq]; omega, _, _, rfl, fun b x e => ?_⟩
        have hbf : b ≠ fo := ne_of_none (sm _ _ e) nfo
        rw [upd_ne hbf]
        exact s11 _ _ (s10 _ _ (sm _ _ e))
    · obtain ⟨y5, y6, rfl, sm⟩ := hP
      dsimp only [tRet]
      refine andV true true (fun Q' q' => ?_) (fun _ H9 Q' s9 q' => ?_) (fun H9 _ => q H9)
      · have e8 := sm _ _ e7
        generalize strL (hrows (TL.tl z) (ws.map TL.tl)) = R at *
        have hRm : (R.map V.str).length = R.length := List.length_map ..
        refine ⟨.ref du, rfl, du, rfl, ⟨_, .inl (.inl e8)⟩, fun D hD => lc_filt (fun i => (R.map V.str).getD i .non) (fun i => (R.map V.str).getD i .non) (fun _ => false) walk_listF (fun H11 s11 => s11.seq (.inl (.inl e8))) hD (by rw [hRm, sizeLine_eq]; omega) (fun j H11 Q1 hj s11 q1 => ?_) (fun j H11 Q1 hj s11 hb q1 => nomatch hb) (fun H11 s11 e11 => ?_)⟩
        · rw [hRm] at hj
          rw [getD_str R j hj]
          have hxm : R.getD j Str.empty ∈ R := by
            rw [List.getD_eq_getElem?_getD, List.getElem?_eq_getElem hj]
            exact List.getElem_mem hj
          have hl := hlens _ hxm
          refine ⟨_, rfl, _, rfl, by rw [sizeLine_eq]; omega, _, 60, rfl, rfl, _, rfl, ?_⟩
          show Q1 (decide ((60 : Int) < (((R.getD j Str.empty).length : Nat) : Int))) _
          rw [decide_eq_false (by omega)]
          exact q1 _ (Same.refl _)
        · rw [filt_none _ _ _ (fun _ _ => rfl)] at e11
          refine ⟨Nat.zero_le _, fun p np => ?_⟩
          have s12 := same_upd (o := .lst []) np
          refine ⟨.list (([] : List Str).map PyData.str), .list (([] : List Str).map PyData.str), dp_strs (.inl (.inl (s12 _ _ e11))), dp_strs (.inl (.inl upd_same)), shaped_strs [] (fun _ h => by cases h), shaped_strs [] (fun _ h => by cases h), ?_⟩
          rw [eqv_strsL, decide_eq_true rfl]
          exact q' _ (s11.trans s12)
      · refine ⟨.str z, rfl, z, [], ?_, hn, by omega, (fun _ h => by cases h), by decide, fun H10 fo s10 nfo e10 => ?_⟩
        · rw [join_nil]; rfl
        refine ⟨.str z, rfl, Nat.zero_le _, fun p np => ⟨z, p, [], rfl, upd_same, hn, by omega, (fun _ h => by cases h), by decide, fun H11 ro s11 nro e11 => ?_⟩⟩
        have s12 := same_upd (o := .lst []) np
        have hok0 := rowsS_okH (ws := []) hn (fun _ h => by cases h)
        unfold rowsH at e10 e11
        refine ⟨_, _, dp_strs (.inl (.inl (s11 _ _ (s12 _ _ e10)))), dp_strs (.inl (.inl e11)), shaped_strs _ hok0, shaped_strs _ hok0, ?_⟩
        rw [eqv_strsL, decide_eq_true rfl]
        exact q' _ (s10.trans (s12.trans s11))
end
end K01

namespace K01
open PySem PySem.Spec PyProof.Rows L2 LH
theorem all_mk {l : PySem.W.OpenLaw} {w : World} {K : PySem.W.Frag} {h : Heap} {mg : Str → Option Value} {fa : Addr} {f0 f1 f2 f3 f4 f5 f6 f7 f8 f9 f10 f11 f12 f13 f14 f15 : Addr} {t1 t2 t3 t4 t5 : Tok} (X : K.In h) (G : h.Ns mainGlobals mg) (hfa : mg "law" = some (.ref fa))
    {od0 an0 : Option Addr} {sl0 : Array (Option Value)} {oc0 kV0 dc0 pm0 cd0 ct0 : Value}
    (a0 : PySem.W.nsIn K mainGlobals "_law_mixed" = some (some (.ref f0))) (l0 : K.lookup f0 = some ⟨oc0, od0, .func (PySem.W.fnOf "_law_mixed" "_law_mixed" (defArgs s__law_mixed) (defBody s__law_mixed) (defScope s__law_mixed) .none kV0 dc0 pm0 an0 cd0 ct0), sl0⟩) (c0 : PySem.W.codeIn K cd0 "_law_mixed" = true) (k0 : PySem.W.keepIn K (.ref f0) = true)
    {od1 an1 : Option Addr} {sl1 : Array (Option Value)} {oc1 kV1 dc1 pm1 cd1 ct1 : Value}
    (a1 : PySem.W.nsIn K mainGlobals "_law_cell" = some (some (.ref f1))) (l1 : K.lookup f1 = some ⟨oc1, od1, .func (PySem.W.fnOf "_law_cell" "_law_cell" (defArgs s__law_cell) (defBody s__law_cell) (defScope s__law_cell) .none kV1 dc1 pm1 an1 cd1 ct1), sl1⟩) (c1 : PySem.W.codeIn K cd1 "_law_cell" = true) (k1 : PySem.W.keepIn K (.ref f1) = true)
    {od2 an2 : Option Addr} {sl2 : Array (Option Value)} {oc2 kV2 dc2 pm2 cd2 ct2 : Value}
    (a2 : PySem.W.nsIn K mainGlobals "_law_next" = some (some (.ref f2))) (l2 : K.lookup f2 = some ⟨oc2, od2, .func (PySem.W.fnOf "_law_next" "_law_next" (defArgs s__law_next) (defBody s__law_next) (defScope s__law_next) .none kV2 dc2 pm2 an2 cd2 ct2), sl2⟩) (c2 : PySem.W.codeIn K cd2 "_law_next" = true) (k2 : PySem.W.keepIn K (.ref f2) = true)
    {od3 an3 : Option Addr} {sl3 : Array (Option Value)} {oc3 kV3 dc3 pm3 cd3 ct3 : Value}
    (a3 : PySem.W.nsIn K mainGlobals "_law_name" = some (some (.ref f3))) (l3 : K.lookup f3 = some ⟨oc3, od3, .func (PySem.W.fnOf "_law_name" "_law_name" (defArgs s__law_name) (defBody s__law_name) (defScope s__law_name) .none kV3 dc3 pm3 an3 cd3 ct3), sl3⟩) (c3 : PySem.W.codeIn K cd3 "_law_name" = true) (k3 : PySem.W.keepIn K (.ref f3) = true)
    {od4 an4 : Option Addr} {sl4 : Array (Option Value)} {oc4 kV4 dc4 pm4 cd4 ct4 : Value}
    (a4 : PySem.W.nsIn K mainGlobals "_law_rows" = some (some (.ref f4))) (l4 : K.lookup f4 = some ⟨oc4, od4, .func (PySem.W.fnOf "_law_rows" "_law_rows" (defArgs s__law_rows) (defBody s__law_rows) (defScope s__law_rows) .none kV4 dc4 pm4 an4 cd4 ct4), sl4⟩) (c4 : PySem.W.codeIn K cd4 "_law_rows" = true) (k4 : PySem.W.keepIn K (.ref f4) = true)
    {od5 an5 : Option Addr} {sl5 : Array (Option Value)} {oc5 kV5 dc5 pm5 cd5 ct5 : Value}
    (a5 : PySem.W.nsIn K mainGlobals "_law_signs" = some (some (.ref f5))) (l5 : K.lookup f5 = some ⟨oc5, od5, .func (PySem.W.fnOf "_law_signs" "_law_signs" (defArgs s__law_signs) (defBody s__law_signs) (defScope s__law_signs) .none kV5 dc5 pm5 an5 cd5 ct5), sl5⟩) (c5 : PySem.W.codeIn K cd5 "_law_signs" = true) (k5 : PySem.W.keepIn K (.ref f5) = true)
    {od6 an6 : Option Addr} {sl6 : Array (Option Value)} {oc6 kV6 dc6 pm6 cd6 ct6 : Value}
    (a6 : PySem.W.nsIn K mainGlobals "_law_word" = some (some (.ref f6))) (l6 : K.lookup f6 = some ⟨oc6, od6, .func (PySem.W.fnOf "_law_word" "_law_word" (defArgs s__law_word) (defBody s__law_word) (defScope s__law_word) .none kV6 dc6 pm6 an6 cd6 ct6), sl6⟩) (c6 : PySem.W.codeIn K cd6 "_law_word" = true) (k6 : PySem.W.keepIn K (.ref f6) = true)
    {od7 an7 : Option Addr} {sl7 : Array (Option Value)} {oc7 kV7 dc7 pm7 cd7 ct7 : Value}
    (a7 : PySem.W.nsIn K mainGlobals "_law_words" = some (some (.ref f7))) (l7 : K.lookup f7 = some ⟨oc7, od7, .func (PySem.W.fnOf "_law_words" "_law_words" (defArgs s__law_words) (defBody s__law_words) (defScope s__law_words) .none kV7 dc7 pm7 an7 cd7 ct7), sl7⟩) (c7 : PySem.W.codeIn K cd7 "_law_words" = true) (k7 : PySem.W.keepIn K (.ref f7) = true)
    {od8 an8 : Option Addr} {sl8 : Array (Option Value)} {oc8 kV8 dc8 pm8 cd8 ct8 : Value}
    (a8 : PySem.W.nsIn K mainGlobals "is_small_word" = some (some (.ref f8))) (l8 : K.lookup f8 = some ⟨oc8, od8, .func (PySem.W.fnOf "is_small_word" "is_small_word" (defArgs s_is_small_word) (defBody s_is_small_word) (defScope s_is_small_word) .none kV8 dc8 pm8 an8 cd8 ct8), sl8⟩) (c8 : PySem.W.codeIn K cd8 "is_small_word" = true) (k8 : PySem.W.keepIn K (.ref f8) = true)
    {od9 an9 : Option Addr} {sl9 : Array (Option Value)} {oc9 kV9 dc9 pm9 cd9 ct9 : Value}
    (a9 : PySem.W.nsIn K mainGlobals "is_header_name" = some (some (.ref f9))) (l9 : K.lookup f9 = some ⟨oc9, od9, .func (PySem.W.fnOf "is_header_name" "is_header_name" (defArgs s_is_header_name) (defBody s_is_header_name) (defScope s_is_header_name) .none kV9 dc9 pm9 an9 cd9 ct9), sl9⟩) (c9 : PySem.W.codeIn K cd9 "is_header_name" = true) (k9 : PySem.W.keepIn K (.ref f9) = true)
    {od10 an10 : Option Addr} {sl10 : Array (Option Value)} {oc10 kV10 dc10 pm10 cd10 ct10 : Value}
    (a10 : PySem.W.nsIn K mainGlobals "is_sign" = some (some (.ref f10))) (l10 : K.lookup f10 = some ⟨oc10, od10, .func (PySem.W.fnOf "is_sign" "is_sign" (defArgs s_is_sign) (defBody s_is_sign) (defScope s_is_sign) .none kV10 dc10 pm10 an10 cd10 ct10), sl10⟩) (c10 : PySem.W.codeIn K cd10 "is_sign" = true) (k10 : PySem.W.keepIn K (.ref f10) = true)
    {od11 an11 : Option Addr} {sl11 : Array (Option Value)} {oc11 kV11 dc11 pm11 cd11 ct11 : Value}
    (a11 : PySem.W.nsIn K mainGlobals "is_value" = some (some (.ref f11))) (l11 : K.lookup f11 = some ⟨oc11, od11, .func (PySem.W.fnOf "is_value" "is_value" (defArgs s_is_value) (defBody s_is_value) (defScope s_is_value) .none kV11 dc11 pm11 an11 cd11 ct11), sl11⟩) (c11 : PySem.W.codeIn K cd11 "is_value" = true) (k11 : PySem.W.keepIn K (.ref f11) = true)
    {od12 an12 : Option Addr} {sl12 : Array (Option Value)} {oc12 kV12 dc12 pm12 cd12 ct12 : Value}
    (a12 : PySem.W.nsIn K mainGlobals "great_name" = some (some (.ref f12))) (l12 : K.lookup f12 = some ⟨oc12, od12, .func (PySem.W.fnOf "great_name" "great_name" (defArgs s_great_name) (defBody s_great_name) (defScope s_great_name) .none kV12 dc12 pm12 an12 cd12 ct12), sl12⟩) (c12 : PySem.W.codeIn K cd12 "great_name" = true) (k12 : PySem.W.keepIn K (.ref f12) = true)
    {od13 an13 : Option Addr} {sl13 : Array (Option Value)} {oc13 kV13 dc13 pm13 cd13 ct13 : Value}
    (a13 : PySem.W.nsIn K mainGlobals "goes_into_rows" = some (some (.ref f13))) (l13 : K.lookup f13 = some ⟨oc13, od13, .func (PySem.W.fnOf "goes_into_rows" "goes_into_rows" (defArgs s_goes_into_rows) (defBody s_goes_into_rows) (defScope s_goes_into_rows) .none kV13 dc13 pm13 an13 cd13 ct13), sl13⟩) (c13 : PySem.W.codeIn K cd13 "goes_into_rows" = true) (k13 : PySem.W.keepIn K (.ref f13) = true)
    {od14 an14 : Option Addr} {sl14 : Array (Option Value)} {oc14 kV14 dc14 pm14 cd14 ct14 : Value}
    (a14 : PySem.W.nsIn K mainGlobals "folded" = some (some (.ref f14))) (l14 : K.lookup f14 = some ⟨oc14, od14, .func (PySem.W.fnOf "folded" "folded" (defArgs s_folded) (defBody s_folded) (defScope s_folded) .none kV14 dc14 pm14 an14 cd14 ct14), sl14⟩) (c14 : PySem.W.codeIn K cd14 "folded" = true) (k14 : PySem.W.keepIn K (.ref f14) = true)
    {od15 an15 : Option Addr} {sl15 : Array (Option Value)} {oc15 kV15 dc15 pm15 cd15 ct15 : Value}
    (a15 : PySem.W.nsIn K mainGlobals "law" = some (some (.ref f15))) (l15 : K.lookup f15 = some ⟨oc15, od15, .func (PySem.W.fnOf "law" "law" (defArgs s_law) (defBody s_law) (defScope s_law) .none kV15 dc15 pm15 an15 cd15 ct15), sl15⟩) (c15 : PySem.W.codeIn K cd15 "law" = true) (k15 : PySem.W.keepIn K (.ref f15) = true)
    (z0 : PySem.W.nsIn K mainGlobals "all" = some none)
    (z1 : PySem.W.nsIn K mainGlobals "any" = some none)
    (z2 : PySem.W.nsIn K mainGlobals "enumerate" = some none)
    (z3 : PySem.W.nsIn K mainGlobals "int" = some none)
    (z4 : PySem.W.nsIn K mainGlobals "isinstance" = some none)
    (z5 : PySem.W.nsIn K mainGlobals "len" = some none)
    (z6 : PySem.W.nsIn K mainGlobals "list" = some none)
    (z7 : PySem.W.nsIn K mainGlobals "max" = some none)
    (z8 : PySem.W.nsIn K mainGlobals "min" = some none)
    (z9 : PySem.W.nsIn K mainGlobals "ord" = some none)
    (z10 : PySem.W.nsIn K mainGlobals "range" = some none)
    (z11 : PySem.W.nsIn K mainGlobals "str" = some none)
    (v0 : PySem.W.nsIn K mainGlobals "PERCENT" = some (some (.int 37 t1)))
    (v1 : PySem.W.nsIn K mainGlobals "SMALL" = some (some (.str SMALL t2)))
    (v2 : PySem.W.nsIn K mainGlobals "ROW_SIGNS" = some (some (.int 60 t3)))
    (v3 : PySem.W.nsIn K mainGlobals "HEADER_WORDS" = some (some (.int 3 t4)))
    (v4 : PySem.W.nsIn K mainGlobals "HEADER_LETTERS" = some (some (.int 8 t5))) :
    ∃ fd : FuncData, (∀ (s : Shared) (v : Value), BindsTo s fd ⟨[v], []⟩ [("_law_script", v)]) ∧ ∀ base : Heap, K.In base → base.Ns mainGlobals mg → FnOk l.prog w K mg base CX0 4 fa fd ["_law_script"] (spLaw K) := by
  have e := hfa.symm.trans (PySem.W.mg_of X G a15)
  cases e
  have F0 := fun_mk (st := s__law_mixed) l0 c0 k0
  have b0 := F0.binds (ps := ["_law_cell_here", "_law_k"]) fun _ _ _ _ _ _ us hl => match us, hl with | [_, _], _ => rfl
  have F1 := fun_mk (st := s__law_cell) l1 c1 k1
  have b1 := F1.binds (ps := ["_law_script", "_law_k"]) fun _ _ _ _ _ _ us hl => match us, hl with | [_, _], _ => rfl
  have F2 := fun_mk (st := s__law_next) l2 c2 k2
  have b2 := F2.binds (ps := ["_law_number", "_law_k"]) fun _ _ _ _ _ _ us hl => match us, hl with | [_, _], _ => rfl
  have F3 := fun_mk (st := s__law_name) l3 c3 k3
  have b3 := F3.binds (ps := ["_law_number"]) fun _ _ _ _ _ _ us hl => match us, hl with | [_], _ => rfl
  have F4 := fun_mk (st := s__law_rows) l4 c4 k4
  have b4 := F4.binds (ps := ["_law_name_here", "_law_words_here"]) fun _ _ _ _ _ _ us hl => match us, hl with | [_, _], _ => rfl
  have F5 := fun_mk (st := s__law_signs) l5 c5 k5
  have b5 := F5.binds (ps := []) fun _ _ _ _ _ _ us hl => match us, hl with | [], _ => rfl
  have F6 := fun_mk (st := s__law_word) l6 c6 k6
  have b6 := F6.binds (ps := ["_law_number", "_law_size"]) fun _ _ _ _ _ _ us hl => match us, hl with | [_, _], _ => rfl
  have F7 := fun_mk (st := s__law_words) l7 c7 k7
  have b7 := F7.binds (ps := ["_law_script", "_law_name_here"]) fun _ _ _ _ _ _ us hl => match us, hl with | [_, _], _ => rfl
  have F8 := fun_mk (st := s_is_small_word) l8 c8 k8
  have b8 := F8.binds (ps := ["text", "most"]) fun _ _ _ _ _ _ us hl => match us, hl with | [_, _], _ => rfl
  have F9 := fun_mk (st := s_is_header_name) l9 c9 k9
  have b9 := F9.binds (ps := ["thing"]) fun _ _ _ _ _ _ us hl => match us, hl with | [_], _ => rfl
  have F10 := fun_mk (st := s_is_sign) l10 c10 k10
  have b10 := F10.binds (ps := ["sign"]) fun _ _ _ _ _ _ us hl => match us, hl with | [_], _ => rfl
  have F11 := fun_mk (st := s_is_value) l11 c11 k11
  have b11 := F11.binds (ps := ["thing"]) fun _ _ _ _ _ _ us hl => match us, hl with | [_], _ => rfl
  have F12 := fun_mk (st := s_great_name) l12 c12 k12
  have b12 := F12.binds (ps := ["name"]) fun _ _ _ _ _ _ us hl => match us, hl with | [_], _ => rfl
  have F13 := fun_mk (st := s_goes_into_rows) l13 c13 k13
  have b13 := F13.binds (ps := ["word"]) fun _ _ _ _ _ _ us hl => match us, hl with | [_], _ => rfl
  have F14 := fun_mk (st := s_folded) l14 c14 k14
  have b14 := F14.binds (ps := ["name", "value"]) fun _ _ _ _ _ _ us hl => match us, hl with | [_, _], _ => rfl
  have F15 := fun_mk (st := s_law) l15 c15 k15
  have T : Tx mg (fun i => [t1, t2, t3, t4, t5].getD i t1) := ⟨PySem.W.mg_none_of X G z0, PySem.W.mg_none_of X G z1, PySem.W.mg_none_of X G z2, PySem.W.mg_none_of X G z3, PySem.W.mg_none_of X G z4, PySem.W.mg_none_of X G z5, PySem.W.mg_none_of X G z6, PySem.W.mg_none_of X G z7, PySem.W.mg_none_of X G z8, PySem.W.mg_none_of X G z9, PySem.W.mg_none_of X G z10, PySem.W.mg_none_of X G z11, PySem.W.mg_of X G v0, PySem.W.mg_of X G v1, PySem.W.mg_of X G v2, PySem.W.mg_of X G v3, PySem.W.mg_of X G v4⟩
  refine ⟨PySem.W.fnOf "law" "law" (defArgs s_law) (defBody s_law) (defScope s_law) .none kV15 dc15 pm15 an15 cd15 ct15, fun s v => .of_eq rfl, fun base _ _ => ?_⟩
  have D0 : Def l.prog w K mg base "_law_mixed" 1 f0 _ ["_law_cell_here", "_law_k"] sp_mixed := ⟨ok_mixed F0, PySem.W.mg_of X G a0, F0.kp, b0⟩
  have D1 : Def l.prog w K mg base "_law_cell" 1 f1 _ ["_law_script", "_law_k"] (sp_cell K) := ⟨ok_cell F1 T, PySem.W.mg_of X G a1, F1.kp, b1⟩
  have D2 : Def l.prog w K mg base "_law_next" 1 f2 _ ["_law_number", "_law_k"] sp_next := ⟨ok_next F2, PySem.W.mg_of X G a2, F2.kp, b2⟩
  have D3 : Def l.prog w K mg base "_law_name" 2 f3 _ ["_law_number"] sp_lname := ⟨ok_lname F3 T D2, PySem.W.mg_of X G a3, F3.kp, b3⟩
  have D4 : Def l.prog w K mg base "_law_rows" 1 f4 _ ["_law_name_here", "_law_words_here"] sp_lrows := ⟨ok_lrows F4 T, PySem.W.mg_of X G a4, F4.kp, b4⟩
  have D5 : Def l.prog w K mg base "_law_signs" 1 f5 _ [] sp_signs := ⟨ok_signs F5, PySem.W.mg_of X G a5, F5.kp, b5⟩
  have D6 : Def l.prog w K mg base "_law_word" 2 f6 _ ["_law_number", "_law_size"] sp_lword := ⟨ok_lword F6 T D2 D5, PySem.W.mg_of X G a6, F6.kp, b6⟩
  have D7 : Def l.prog w K mg base "_law_words" 3 f7 _ ["_law_script", "_law_name_here"] (sp_lwords K) := ⟨ok_lwords F7 T D0 D4 D6, PySem.W.mg_of X G a7, F7.kp, b7⟩
  have D8 : Def l.prog w K mg base "is_small_word" 1 f8 _ ["text", "most"] sp_small_word := ⟨ok_small_word F8 T, PySem.W.mg_of X G a8, F8.kp, b8⟩
  have D9 : Def l.prog w K mg base "is_header_name" 2 f9 _ ["thing"] (sp_header_name K) := ⟨ok_header_name F9 T D8, PySem.W.mg_of X G a9, F9.kp, b9⟩
  have D10 : Def l.prog w K mg base "is_sign" 1 f10 _ ["sign"] sp_is_sign := ⟨ok_is_sign F10 T, PySem.W.mg_of X G a10, F10.kp, b10⟩
  have D11 : Def l.prog w K mg base "is_value" 2 f11 _ ["thing"] (sp_value K) := ⟨ok_value F11 T D10, PySem.W.mg_of X G a11, F11.kp, b11⟩
  have D12 : Def l.prog w K mg base "great_name" 1 f12 _ ["name"] sp_great := ⟨ok_great F12, PySem.W.mg_of X G a12, F12.kp, b12⟩
  have D13 : Def l.prog w K mg base "goes_into_rows" 1 f13 _ ["word"] sp_goes := ⟨ok_goes F13 T, PySem.W.mg_of X G a13, F13.kp, b13⟩
  have D14 : Def l.prog w K mg base "folded" 3 f14 _ ["name", "value"] sp_folded := ⟨ok_folded F14 T D9 D11 D12 D13, PySem.W.mg_of X G a14, F14.kp, b14⟩
  exact ok_law F15 T D0 D1 D3 D7 D4 D9 D11 D14
end K01
open PySem PySem.W PyProof.Rows
set_option maxHeartbeats 0 in
theorem PySem.Challenge.cw_letterhouse_k01_headers_folded_holds : PySem.Challenge.rw_letterhouse_k01_headers_folded.Holds := by
  w_on; o_law; k_head; (case hw => w_witness2)
  k_fill
  refine L2.walk_of (l := PySem.Challenge.rw_letterhouse_k01_headers_folded) (n := 63) (k := 4) (x := "_law_script") (CX := fun _ => L2.CX0) (sp := fun w => K01.spLaw _) rfl (by decide) rfl ⟨rfl, by decide, by decide⟩ (fun w h Y => PySem.W.kIn_of Y) ?F (fun _ _ a ns hl _ hS => ⟨a, ns, rfl, hS, hl, fun _ => rfl⟩) (fun _ _ _ _ _ h => h)
  case F =>
    intro w mg fa h KX G hmg
    refine' K01.all_mk KX G hmg ?a0 ?l0 ?c0 ?k0 ?a1 ?l1 ?c1 ?k1 ?a2 ?l2 ?c2 ?k2 ?a3 ?l3 ?c3 ?k3 ?a4 ?l4 ?c4 ?k4 ?a5 ?l5 ?c5 ?k5 ?a6 ?l6 ?c6 ?k6 ?a7 ?l7 ?c7 ?k7 ?a8 ?l8 ?c8 ?k8 ?a9 ?l9 ?c9 ?k9 ?a10 ?l10 ?c10 ?k10 ?a11 ?l11 ?c11 ?k11 ?a12 ?l12 ?c12 ?k12 ?a13 ?l13 ?c13 ?k13 ?a14 ?l14 ?c14 ?k14 ?a15 ?l15 ?c15 ?k15 ?z0 ?z1 ?z2 ?z3 ?z4 ?z5 ?z6 ?z7 ?z8 ?z9 ?z10 ?z11 ?v0 ?v1 ?v2 ?v3 ?v4
    (case a0 => k_is); (case l0 => k_is); (case c0 => k_is); (case k0 => k_is); (case a1 => k_is); (case l1 => k_is); (case c1 => k_is); (case k1 => k_is); (case a2 => k_is); (case l2 => k_is); (case c2 => k_is); (case k2 => k_is); (case a3 => k_is); (case l3 => k_is); (case c3 => k_is); (case k3 => k_is); (case a4 => k_is); (case l4 => k_is); (case c4 => k_is); (case k4 => k_is); (case a5 => k_is); (case l5 => k_is); (case c5 => k_is); (case k5 => k_is); (case a6 => k_is); (case l6 => k_is); (case c6 => k_is); (case k6 => k_is); (case a7 => k_is); (case l7 => k_is); (case c7 => k_is); (case k7 => k_is); (case a8 => k_is); (case l8 => k_is); (case c8 => k_is); (case k8 => k_is); (case a9 => k_is); (case l9 => k_is); (case c9 => k_is); (case k9 => k_is); (case a10 => k_is); (case l10 => k_is); (case c10 => k_is); (case k10 => k_is); (case a11 => k_is); (case l11 => k_is); (case c11 => k_is); (case k11 => k_is); (case a12 => k_is); (case l12 => k_is); (case c12 => k_is); (case k12 => k_is); (case a13 => k_is); (case l13 => k_is); (case c13 => k_is); (case k13 => k_is); (case a14 => k_is); (case l14 => k_is); (case c14 => k_is); (case k14 => k_is); (case a15 => k_is); (case l15 => k_is); (case c15 => k_is); (case k15 => k_is); (case z0 => k_is); (case z1 => k_is); (case z2 => k_is); (case z3 => k_is); (case z4 => k_is); (case z5 => k_is); (case z6 => k_is); (case z7 => k_is); (case z8 => k_is); (case z9 => k_is); (case z10 => k_is); (case z11 => k_is); (case v0 => k_is); (case v1 => k_is); (case v2 => k_is); (case v3 => k_is); (case v4 => k_is)

