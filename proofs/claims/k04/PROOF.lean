import PyProof.Rows.All
import Wide.All
import OpenK.AllK
import Wide.FinOn
import HandS.ForMost
import HandS.Walk
import HandS.IsInst
import HandS.MapJoin
import HandS.Style
import HandS.ForExc
import HandS.ExcIs
import HandS.Ends
import HandS.JoinGen
import KE.KExcLine
import KE.KExcIs
import KE.KTypeName
import HandS.StrMore
import PySem.Challenge.RW_letterhouse_k04_whole_headers_there_and
set_option Elab.async false
set_option linter.all false
set_option maxRecDepth 100000
namespace LH
open PySem PySem.Spec PyProof.Rows L2
/-! ### heaps -/
theorem same_upd {H : Hp} {p : Addr} {o : HO} (h : H p = none) : Same H (upd H p o) := fun b x e => by
  rw [upd_ne (ne_of_none e h)]
  exact e
theorem seqT {K : PySem.W.Frag} {H H' : Hp} {a : Addr} {xs : List V} (e : Same H H') (h : SqT K H a xs) : SqT K H' a xs := by
  rcases h with (h | ⟨o, h⟩) | h
  · exact .inl (.inl (e _ _ h))
  · exact .inl (.inr ⟨o, e _ _ h⟩)
  · exact .inr h
/-- a list that is told new, in a heap that keeps all that stood -/
def New (H : Hp) (xs : List V) (Q : VK) : Prop := ∀ H' p, Same H H' → H p = none → H' p = some (.lst xs) → Q (.ref p) H'
/-- a value that is told in a heap that keeps all that stood -/
def Tell (H : Hp) (v : V) (Q : VK) : Prop := ∀ H', Same H H' → Q v H'
/-! ### a comprehension over anything that yields xs 0 .. xs (n - 1), its element f i -/
theorem lc_pure {J : It} {n : Nat} {G : Hp → Prop} {te : TE} {c : Nat} {σ : L2.St} {H1 : Hp} {D : Addr} {Qd : Hp → Prop} (xs f : Nat → V) (w : Walk J n G (YFn xs)) (hG : ∀ H, Same H1 H → G H) (hD : H1 D = none) (hn : n ≤ sizeLine)
    (he : ∀ i H Q, i < n → Same H1 H → Tell H (f i) Q → te ((σ.set c none).set c (some (xs i))) H Q)
    (hd : ∀ H, Same H1 H → H D = some (.lst ((List.range n).map f)) → Qd H) :
    ∃ W : Nat → Nat → Hp → Prop, (∃ m, W 0 m (upd H1 D (.lst []))) ∧ ∀ i m H, W i m H →
      (J.stop i H ∧ Qd H) ∨ (J.go i H ∧ ∃ Nx : Hp → Prop, (∀ H', Nx H' → ∃ m', m' < m ∧ W (i + 1) m' H') ∧ ∀ x H', J.yld i H x H' → gName c x (wipe σ [c]) H' fun σ2 H2 => wipe σ2 [c] = wipe σ [c] ∧ tYes σ2 H2 fun b H3 =>
        if b = true then te σ2 H3 fun y H4 => ∃ acc, H4 D = some (.lst acc) ∧ acc.length < sizeLine ∧ Nx (upd H4 D (.lst (acc ++ [y]))) else Nx H3) := by
  refine lc_it w (fun i H => Same H1 H ∧ H D = some (.lst ((List.range i).map f))) ⟨same_upd hD, upd_same⟩ (fun i H _ h => hG H h.1) (fun i x H H' hi hP hy => ?_) (fun H h => hd H h.1 h.2)
  obtain ⟨sm, eD⟩ := hP
  obtain ⟨rfl, rfl⟩ := hy
  refine ⟨?_, ?_⟩
  rotate_left
  · show (if true = true then te ((σ.set c none).set c (some (xs i))) H' fun y H4 => ∃ acc, H4 D = some (.lst acc) ∧ acc.length < sizeLine ∧ Same H1 (upd H4 D (.lst (acc ++ [y]))) ∧ upd H4 D (.lst (acc ++ [y])) D = some (.lst ((List.range (i + 1)).map f)) else (Same H1 H' ∧ H' D = some (.lst ((List.range (i + 1)).map f))))
    rw [if_pos rfl]
    refine he i H' _ hi sm fun H2 s2 => ⟨_, s2 _ _ eD, ?_, ?_, ?_⟩
    · rw [List.length_map, List.length_range]
      omega
    · intro b o hb
      rw [upd_ne (ne_of_none hb hD)]
      exact s2 _ _ (sm _ _ hb)
    · rw [upd_same, List.range_succ, List.map_append]
      rfl
  · show (((σ.set c none).set c (some (xs i))).set c none) = σ.set c none
    rw [List.set_set, List.set_set]
/-! ### a def as its callers see it -/
structure Def (P : Program) (w : World) (K : PySem.W.Frag) (mg : Str → Option Value) (base : Heap) (x : Str) (k : Nat) (f : Addr) (fd : FuncData) (ps : List Str) (sp : Sp) : Prop where
  ok : FnOk P w K mg base CX0 k f fd ps sp
  mg : mg x = some (.ref f)
  kp : PySem.W.keepIn K (.ref f) = true
  bd : Binds K fd ps []
section
variable {X : Cx} {x : Str} {k j : Nat} {f : Addr} {fd : FuncData} {ps : List Str} {sp : Sp} {e : Expr} {es : List Expr} {t : TA} {p pos : Pos}
theorem pe_def (D : Def X.prog X.w X.K X.mg X.base x k f fd ps sp) (hr : Room k X.A) (ha : PA X (e :: es) t) (hg : Gl X x := by rfl) (hdb : (x == ("__debug__" : Str)) = false := by decide)
    (he : starEach (e :: es) X.env = (false, eval e X.env) :: starEach es X.env := by rfl) (hpl : (backTo pos (starEach es X.env)).any (·.1) = false := by rfl) : PE X (.Call (.Name x p) (e :: es) [] pos) (tCall sp [] E0 t) :=
  pe_call D.ok hr hg D.mg D.kp D.bd .nil pass0 ha hdb he hpl
theorem pe_def0 (D : Def X.prog X.w X.K X.mg X.base x k f fd ps sp) (hr : Room k X.A) (hg : Gl X x := by rfl) (hdb : (x == ("__debug__" : Str)) = false := by decide) : PE X (.Call (.Name x p) [] [] pos) (tCall sp [] E0 tNil) :=
  pe_call0 D.ok hr hg D.mg D.kp D.bd .nil pass0 hdb
end
/-! ### a text times a number -/
section
variable {X : Cx}
def repS (x : Str) (n : Int) : Str := ⟨(List.replicate n.toNat x.cps.toList).flatten.toArray⟩
theorem foldl_app (l : List (Array Nat)) : ∀ a : Array Nat, (l.foldl (· ++ ·) a).toList = a.toList ++ (l.map (·.toList)).flatten := by
  induction l with
  | nil => intro a; simp
  | cons x r ih => intro a; simp [ih]
theorem mul_rep (x : Str) (n : Int) : Txt.mul x n = repS x n := by
  unfold Txt.mul repS
  by_cases h : n < 1
  · rw [if_pos h, show n.toNat = 0 by omega]
    rfl
  · rw [if_neg h]
    by_cases h2 : (n == 1 || x.length == 0) = true
    · rw [if_pos h2]
      refine TL.ext_tl ?_
      show x.cps.toList = (List.replicate n.toNat x.cps.toList).flatten
      rcases (Bool.or_eq_true _ _).mp h2 with e | e
      · have : n = 1 := eq_of_beq e
        subst this
        simp
      · have : x.cps.toList = [] := by
          have e' : x.length = 0 := eq_of_beq e
          have e3 : x.cps.toList.length = 0 := by simpa [Str.length] using e'
          exact List.length_eq_zero_iff.mp e3
        rw [this]
        simp
    · rw [if_neg h2]
      refine TL.ext_tl ?_
      show ((List.replicate n.toNat x.cps).foldl (· ++ ·) #[]).toList = (List.replicate n.toNat x.cps.toList).flatten
      rw [foldl_app]
      simp
theorem op_mul_str : OpR X (binaryOp .Mult) (fun x y H Q => ∃ z n, x = .str z ∧ y = .int n ∧ -(2 ^ 63) ≤ n ∧ n ≤ 4096 ∧ z.length ≤ 4096 ∧ Q (.str (repS z n)) H) := by
  intro pins s σ H x y v u Q I rx ry h
  obtain ⟨z, n, rfl, rfl, h0, h1, h2, q⟩ := h
  obtain ⟨t, rfl⟩ := rx
  obtain ⟨t', rfl⟩ := ry
  refine SB.mul (mulOk_of 4096 4096 h2 (by exact_mod_cast h1) h0 (by decide) (by decide)) fun t2 k => ?_
  rw [mul_rep]
  exact ⟨.str (repS z n), H, I.tok _, ⟨_, rfl⟩, q⟩
end
/-! ### chunks -/
def chunks {α : Type} (k : Nat) (t : List α) : List (List α) := (List.range ((t.length + (k - 1)) / k)).map fun i => (t.drop (i * k)).take k
theorem chunks_nil {α : Type} {k : Nat} (hk : 0 < k) : chunks k ([] : List α) = [] := by
  unfold chunks
  rw [show (([] : List α).length + (k - 1)) / k = 0 from Nat.div_eq_of_lt (by simp; omega)]
  rfl
theorem chunks_cons {α : Type} {k : Nat} (hk : 0 < k) {t : List α} (ht : t ≠ []) : chunks k t = t.take k :: chunks k (t.drop k) := by
  unfold chunks
  have hl : 0 < t.length := List.length_pos_iff.mpr ht
  have e : (t.length + (k - 1)) / k = ((t.drop k).length + (k - 1)) / k + 1 := by
    rw [List.length_drop]
    by_cases h : t.length ≤ k
    · rw [show t.length - k = 0 by omega, show (0 + (k - 1)) / k = 0 from Nat.div_eq_of_lt (by omega)]
      exact Nat.div_eq_of_lt_le (by omega) (by omega)
    · rw [show t.length + (k - 1) = (t.length - k + (k - 1)) + k by omega, Nat.add_div_right _ hk]
  rw [e, List.range_succ_eq_map, List.map_cons, List.map_map]
  congr 1
  · simp
  · refine List.map_congr_left fun i _ => ?_
    show (t.drop ((i + 1) * k)).take k = ((t.drop k).drop (i * k)).take k
    rw [List.drop_drop, Nat.succ_mul, Nat.add_comm]
/-! ### slices and ranges -/
theorem cutS_at (z : Str) (a b : Nat) : cutS z (some (a : Int)) (some (b : Int)) = ⟨((TL.tl z).drop a |>.take (b - a)).toArray⟩ := by
  unfold cutS
  rw [HT.sIx_nat, HT.sIx_nat]
  refine TL.ext_tl ?_
  show ((TL.tl z).drop (min a z.length)).take (min b z.length - min a z.length) = ((TL.tl z).drop a).take (b - a)
  have hz : z.length = (TL.tl z).length := TL.len_tl z
  rw [hz]
  generalize TL.tl z = l
  by_cases h : a ≤ l.length
  · rw [Nat.min_eq_left h]
    by_cases h2 : b ≤ l.length
    · rw [Nat.min_eq_left h2]
    · rw [Nat.min_eq_right (by omega), List.take_of_length_le (by rw [List.length_drop]; omega), List.take_of_length_le (by rw [List.length_drop]; omega)]
  · have h' : l.length ≤ a := by omega
    rw [Nat.min_eq_right h', List.drop_of_length_le (Nat.le_refl _), List.drop_of_length_le h']
    simp
theorem cutV_at (z : List V) (a b : Nat) : cutV z (some (a : Int)) (some (b : Int)) = (z.drop a).take (b - a) := by
  unfold cutV
  rw [HT.sIx_nat, HT.sIx_nat]
  by_cases h : a ≤ z.length
  · rw [Nat.min_eq_left h]
    by_cases h2 : b ≤ z.length
    · rw [Nat.min_eq_left h2]
    · rw [Nat.min_eq_right (by omega), List.take_of_length_le (by rw [List.length_drop]; omega), List.take_of_length_le (by rw [List.length_drop]; omega)]
  · have h' : z.length ≤ a := by omega
    rw [Nat.min_eq_right h', List.drop_of_length_le (Nat.le_refl _), List.drop_of_length_le h']
    simp
theorem cutV_to (z : List V) (b : Nat) : cutV z none (some (b : Int)) = z.take b := by
  unfold cutV
  rw [HT.sIx_nat, HT.sIx_none]
  by_cases h2 : b ≤ z.length
  · rw [Nat.min_eq_left h2]; simp
  · rw [Nat.min_eq_right (by omega), List.take_of_length_le (by simp), List.take_of_length_le (by omega)]; simp
theorem cutS_to (z : Str) (b : Nat) : cutS z none (some (b : Int)) = ⟨((TL.tl z).take b).toArray⟩ := by
  have := cutS_at z 0 b
  have e : cutS z none (some (b : Int)) = cutS z (some ((0 : Nat) : Int)) (some (b : Int)) := by
    unfold cutS
    rw [HT.sIx_none, HT.sIx_nat, HT.sIx_nat, Nat.zero_min]
  rw [e, this]
  simp
theorem cutS_from (z : Str) (a : Nat) : cutS z (some (a : Int)) none = ⟨((TL.tl z).drop a).toArray⟩ := by
  have e : cutS z (some (a : Int)) none = cutS z (some (a : Int)) (some ((z.length : Nat) : Int)) := by
    unfold cutS
    rw [HT.sIx_none, HT.sIx_nat, HT.sIx_nat]
    simp
  rw [e, cutS_at, TL.len_tl, List.take_of_length_le (by simp)]
theorem rgC (n k : Nat) (hk : 0 < k) (hk2 : k < 1000) (hn : n < 2 ^ 40) : RgC 0 (n : Int) (k : Int) ((n + (k - 1)) / k) := by
  refine ⟨by omega, by omega, ?_, ?_⟩
  · have e := rangeSize_pos (len := (n : Int)) (c := (k : Int)) (by omega) (by omega)
    have q : ((n : Int) + (k : Int) - 1) / (k : Int) ≤ (n : Int) + (k : Int) - 1 := Int.ediv_le_self _ (by omega)
    have q0 : 0 ≤ ((n : Int) + (k : Int) - 1) / (k : Int) := Int.ediv_nonneg (by omega) (by omega)
    unfold Builtin.Range.small
    rw [e]
    simp only [Builtin.Range.rangeFitsLong, Bool.and_eq_true, Bool.or_eq_true, decide_eq_true_eq, beq_iff_eq, show ((k : Int) > 0) by omega, if_true]
    have p1 : (0:Int) < 2 ^ 63 := by decide
    omega
  · rw [rangeSize_pos (by omega) (by omega)]
    rw [show (n : Int) + (k : Int) - 1 = ((n + (k - 1) : Nat) : Int) by omega]
    exact (Int.natCast_ediv _ _).symm
end LH
namespace LH
open PySem PySem.Spec PyProof.Rows L2
theorem walk_listF {K : PySem.W.Frag} {a : Addr} {xs : List V} : Walk (Itl K a) xs.length (fun H => SqL K H a xs) (YFn fun i => xs.getD i .non) :=
  walk_list.mono (fun _ h => h) fun i H x H' hi _ y => ⟨y.1, by show x = xs.getD i .non; rw [List.getD_eq_getElem?_getD, y.2]; rfl⟩
theorem walk_tupF {K : PySem.W.Frag} {a : Addr} {xs : List V} : Walk (Itt K a) xs.length (fun H => SqT K H a xs) (YFn fun i => xs.getD i .non) :=
  walk_tup.mono (fun _ h => h) fun i H x H' hi _ y => ⟨y.1, by show x = xs.getD i .non; rw [List.getD_eq_getElem?_getD, y.2]; rfl⟩
theorem getD_map_int (bs : List Int) (i : Nat) (h : i < bs.length) : (bs.map V.int).getD i .non = .int (bs.getD i 0) := by
  rw [List.getD_eq_getElem?_getD, List.getElem?_map, List.getElem?_eq_getElem h, List.getD_eq_getElem?_getD, List.getElem?_eq_getElem h]
  rfl
theorem range_getD {α : Type} (xs : List α) (d : α) : (List.range xs.length).map (fun i => xs.getD i d) = xs := by
  apply List.ext_getElem?
  intro i
  rw [List.getElem?_map]
  by_cases h : i < xs.length
  · rw [List.getElem?_range h]
    show some (xs.getD i d) = _
    rw [List.getD_eq_getElem?_getD, List.getElem?_eq_getElem h]
    rfl
  · rw [List.getElem?_eq_none (by rw [List.length_range]; omega), List.getElem?_eq_none (by omega)]
    rfl
section
variable {X : Cx}
theorem ixL (K : PySem.W.Frag) (h : X.K = K := by rfl) : IxR X (rIxL K) := h ▸ ix_list
theorem ixT (K : PySem.W.Frag) (h : X.K = K := by rfl) : IxR X (rIxT K) := h ▸ ix_tup
theorem slL (K : PySem.W.Frag) (h : X.K = K := by rfl) : SlR X (rSlL K) := h ▸ sl_list
theorem slT (K : PySem.W.Frag) (h : X.K = K := by rfl) : SlR X (rSlT K) := h ▸ sl_tup
theorem cIsi (K : PySem.W.Frag) (h : X.K = K := by rfl) : CallR X (.builtin "isinstance") (rIsi K) := h ▸ call_isi
def rLenS (K : PySem.W.Frag) : List V → Hp → VK → Prop := fun xs H Q => ∃ p ys, xs = [.ref p] ∧ (SqL K H p ys ∨ SqT K H p ys) ∧ Q (.int ys.length) H
theorem cLen (K : PySem.W.Frag) (h : X.K = K := by rfl) : CallR X (.builtin "len") (rLenS K) := h ▸ call_len_seq
theorem cAll (K : PySem.W.Frag) (h : X.K = K := by rfl) (hc : X.calm = true := by rfl) : CallR X (.builtin "all") (rAll K) := h ▸ cr_all hc
theorem cAny (K : PySem.W.Frag) (h : X.K = K := by rfl) (hc : X.calm = true := by rfl) : CallR X (.builtin "any") (rAny K) := h ▸ cr_any hc
theorem oIn (K : PySem.W.Frag) (h : X.K = K := by rfl) : OpR X (compareOp .In) (rIn K false) := h ▸ op_in_seq
theorem oNotIn (K : PySem.W.Frag) (h : X.K = K := by rfl) : OpR X (compareOp .NotIn) (rIn K true) := h ▸ op_notIn_seq
theorem oEqD (K : PySem.W.Frag) (hu : X.A.units + 64 < cLine) (h : X.K = K := by rfl) : OpR X (compareOp .Eq) (rEqD K) := h ▸ op_eqD hu
theorem oNeD (K : PySem.W.Frag) (hu : X.A.units + 64 < cLine) (h : X.K = K := by rfl) : OpR X (compareOp .NotEq) (rNeD K) := h ▸ op_neD hu
end
end LH
namespace LH
open PySem PySem.Spec PyProof.Rows L2
/-! ### data: flat lists compared -/
def OkS (x : Str) : Prop := ∀ c ∈ TL.tl x, c < 1114112
theorem strOk_of (x : Str) (h : OkS x) : PyData.strOk x = true := by
  unfold PyData.strOk
  rw [Array.all_eq_true']
  intro c hc
  exact decide_eq_true (h c (Array.mem_toList_iff.mpr hc))
theorem dpAll_ints {K : PySem.W.Frag} {H : Hp} : ∀ bs : List Int, DpAll K H (bs.map V.int) (bs.map PyData.int)
  | [] => .nil
  | b :: r => .cons (.int b) (dpAll_ints r)
theorem dpAll_strs {K : PySem.W.Frag} {H : Hp} : ∀ bs : List Str, DpAll K H (bs.map V.str) (bs.map PyData.str)
  | [] => .nil
  | b :: r => .cons (.str b) (dpAll_strs r)
theorem dp_ints {K : PySem.W.Frag} {H : Hp} {a : Addr} {bs : List Int} (h : SqL K H a (bs.map V.int)) : Dp K H (.ref a) (.list (bs.map PyData.int)) := .lst h (dpAll_ints bs)
theorem dp_strs {K : PySem.W.Frag} {H : Hp} {a : Addr} {bs : List Str} (h : SqL K H a (bs.map V.str)) : Dp K H (.ref a) (.list (bs.map PyData.str)) := .lst h (dpAll_strs bs)
theorem lay_strs : ∀ bs : List Str, (∀ x ∈ bs, OkS x) → PyData.canLayAll0 (bs.map PyData.str) = true
  | [], _ => by simp [PyData.canLayAll0]
  | b :: r, h => by simp [PyData.canLayAll0, PyData.canLay0, strOk_of b (h b (by simp)), lay_strs r fun x hx => h x (by simp [hx])]
theorem depth_strs : ∀ bs : List Str, PyData.depthAll (bs.map PyData.str) = 0
  | [] => rfl
  | _ :: r => by simp [PyData.depthAll, PyData.depth, depth_strs r]
theorem shaped_strs (bs : List Str) (h : ∀ x ∈ bs, OkS x) : SeqAt.shaped (.list (bs.map PyData.str)) = true := by
  simp [SeqAt.shaped, PyData.canLay0, PyData.depth, lay_strs bs h, depth_strs]
theorem shaped_intsL (bs : List Int) : SeqAt.shaped (.list (bs.map PyData.int)) = true := PySem.W.ke_shaped_ints bs
theorem eqv_ints : ∀ bs cs : List Int, PyData.eqvAll (bs.map PyData.int) (cs.map PyData.int) = decide (bs = cs)
  | [], [] => by simp [PyData.eqvAll]
  | [], _ :: _ => by simp [PyData.eqvAll]
  | _ :: _, [] => by simp [PyData.eqvAll]
  | b :: r, c :: q => by
    rw [List.map_cons, List.map_cons, PyData.eqvAll, PyData.eqv, eqv_ints r q]
    by_cases h : b = c <;> simp [h]
theorem eqv_strs : ∀ bs cs : List Str, PyData.eqvAll (bs.map PyData.str) (cs.map PyData.str) = decide (bs = cs)
  | [], [] => by simp [PyData.eqvAll]
  | [], _ :: _ => by simp [PyData.eqvAll]
  | _ :: _, [] => by simp [PyData.eqvAll]
  | b :: r, c :: q => by
    rw [List.map_cons, List.map_cons, PyData.eqvAll, PyData.eqv, eqv_strs r q]
    by_cases h : b = c <;> simp [h]
theorem eqv_intsL (bs cs : List Int) : PyData.eqv (.list (bs.map PyData.int)) (.list (cs.map PyData.int)) = decide (bs = cs) := by rw [PyData.eqv, eqv_ints]
theorem eqv_strsL (bs cs : List Str) : PyData.eqv (.list (bs.map PyData.str)) (.list (cs.map PyData.str)) = decide (bs = cs) := by rw [PyData.eqv, eqv_strs]
theorem map_true {α : Type} (l : List α) : (l.map fun _ => true).all id = true := by
  induction l with
  | nil => rfl
  | cons x r ih => simpa using ih
end LH

namespace LH
open PySem PySem.Spec PyProof.Rows L2
/-! ### a comprehension with a test -/
theorem lc_filt {J : It} {n : Nat} {G : Hp → Prop} {tt : TT} {te : TE} {c : Nat} {σ : L2.St} {H1 : Hp} {D : Addr} {Qd : Hp → Prop} (xs f : Nat → V) (b : Nat → Bool) (w : Walk J n G (YFn xs)) (hG : ∀ H, Same H1 H → G H) (hD : H1 D = none) (hn : n ≤ sizeLine)
    (ht : ∀ (i : Nat) (H : Hp) (Q : Bool → Hp → Prop), i < n → Same H1 H → (∀ H', Same H H' → Q (b i) H') → tt ((σ.set c none).set c (some (xs i))) H Q)
    (he : ∀ i H Q, i < n → Same H1 H → b i = true → Tell H (f i) Q → te ((σ.set c none).set c (some (xs i))) H Q)
    (hd : ∀ H, Same H1 H → H D = some (.lst (((List.range n).filter b).map f)) → Qd H) :
    ∃ W : Nat → Nat → Hp → Prop, (∃ m, W 0 m (upd H1 D (.lst []))) ∧ ∀ i m H, W i m H →
      (J.stop i H ∧ Qd H) ∨ (J.go i H ∧ ∃ Nx : Hp → Prop, (∀ H', Nx H' → ∃ m', m' < m ∧ W (i + 1) m' H') ∧ ∀ x H', J.yld i H x H' → gName c x (wipe σ [c]) H' fun σ2 H2 => wipe σ2 [c] = wipe σ [c] ∧ tt σ2 H2 fun b H3 =>
        if b = true then te σ2 H3 fun y H4 => ∃ acc, H4 D = some (.lst acc) ∧ acc.length < sizeLine ∧ Nx (upd H4 D (.lst (acc ++ [y]))) else Nx H3) := by
  refine lc_it w (fun i H => Same H1 H ∧ H D = some (.lst (((List.range i).filter b).map f))) ⟨same_upd hD, upd_same⟩ (fun i H _ h => hG H h.1) (fun i x H H' hi hP hy => ?_) (fun H h => hd H h.1 h.2)
  obtain ⟨sm, eD⟩ := hP
  obtain ⟨rfl, rfl⟩ := hy
  refine ⟨?_, ?_⟩
  rotate_left
  · refine ht i H' _ hi sm fun H2 s2 => ?_
    cases hb : b i with
    | true =>
      rw [if_pos rfl]
      refine he i H2 _ hi (sm.trans s2) hb fun H3 s3 => ⟨_, s3 _ _ (s2 _ _ eD), ?_, ?_, ?_⟩
      · rw [List.length_map]
        have := List.length_filter_le b (List.range i)
        rw [List.length_range] at this
        omega
      · intro b' o hb'
        rw [upd_ne (ne_of_none hb' hD)]
        exact s3 _ _ (s2 _ _ (sm _ _ hb'))
      · rw [upd_same, List.range_succ, List.filter_append, List.map_append]
        simp [hb]
    | false =>
      rw [if_neg Bool.false_ne_true]
      refine ⟨sm.trans s2, ?_⟩
      rw [s2 _ _ eD, List.range_succ, List.filter_append, List.map_append]
      simp [hb]
  · show (((σ.set c none).set c (some (xs i))).set c none) = σ.set c none
    rw [List.set_set, List.set_set]
/-! ### the signs of a text -/
theorem walk_strF {z : Str} : Walk (Its z) (TL.tl z).length (fun _ => True) (YFn fun i => .str ⟨#[(TL.tl z).getD i 0]⟩) := by
  have e : (TL.tl z).length = z.cps.size := Array.length_toList
  rw [e]
  refine walk_str.mono (fun _ h => h) fun i H x H' hi _ y => ⟨y.1, ?_⟩
  obtain ⟨_, c, hc, rfl⟩ := y
  show V.str ⟨#[c]⟩ = .str ⟨#[(TL.tl z).getD i 0]⟩
  have : (TL.tl z)[i]? = some c := by rw [← hc]; exact Array.getElem?_toList
  rw [List.getD_eq_getElem?_getD, this]
  rfl
theorem lall_range {α : Type} (l : List α) (d : α) (p : α → Bool) : ((List.range l.length).map fun i => p (l.getD i d)).all id = l.all p := by
  have e : ((List.range l.length).map fun i => p (l.getD i d)) = ((List.range l.length).map fun i => l.getD i d).map p := by rw [List.map_map]; rfl
  rw [e, range_getD, List.all_map]
  rfl
/-! ### one sign's split -/
def splitL (s : Nat) : List Nat → List (List Nat)
  | [] => [[]]
  | c :: r => if c = s then [] :: splitL s r else (c :: (splitL s r).headD []) :: (splitL s r).tail
theorem splitL_ne (s : Nat) (l : List Nat) : splitL s l ≠ [] := by
  cases l with
  | nil => simp [splitL]
  | cons c r => unfold splitL; split <;> simp
theorem splitL_eta (s : Nat) (l : List Nat) : splitL s l = (splitL s l).headD [] :: (splitL s l).tail := by
  cases h : splitL s l with
  | nil => exact absurd h (splitL_ne s l)
  | cons x r => rfl
theorem spl_one (s : Nat) : ∀ (l acc : List Nat), TL.spl [s] 0 acc l = (acc ++ (splitL s l).headD []) :: (splitL s l).tail
  | [], acc => by rw [TL.spl_nil]; simp [splitL]
  | c :: r, acc => by
    by_cases h : c = s
    · subst h
      rw [TL.spl_hit (show TL.pre [c] (c :: r) = true by simp [TL.pre])]
      show acc :: TL.spl [c] 0 [] r = _
      rw [spl_one c r []]
      have e : splitL c (c :: r) = [] :: splitL c r := by
        conv => lhs; unfold splitL
        rw [if_pos rfl]
      rw [e]
      simp only [List.headD_cons, List.tail_cons, List.append_nil, List.nil_append]
      rw [← splitL_eta]
    · rw [TL.spl_miss (show TL.pre [s] (c :: r) = false by simp [TL.pre]; exact h), spl_one s r]
      conv => rhs; unfold splitL
      rw [if_neg h]
      simp
theorem split_tl {x y : Str} {s : Nat} (hy : TL.tl y = [s]) (hs : s < 256) : (Txt.split x y).map TL.tl = splitL s (TL.tl x) := by
  rw [TL.split_spl x y (by rw [hy]; simp) (TL.kind_ok ?_), hy, spl_one, List.nil_append, ← splitL_eta]
  rw [Array.all_eq_true']
  intro c hc
  have : c ∈ TL.tl y := Array.mem_toList_iff.mpr hc
  rw [hy] at this
  exact decide_eq_true (by rw [List.mem_singleton.mp this]; exact hs)
theorem splitL_len (s : Nat) : ∀ l : List Nat, (splitL s l).length ≤ l.length + 1
  | [] => Nat.le_refl _
  | c :: r => by
    have ih := splitL_len s r
    unfold splitL
    split
    · simp only [List.length_cons]; omega
    · have := splitL_eta s r
      have h2 := congrArg List.length this
      simp only [List.length_cons] at h2 ⊢
      omega
theorem splitL_mem (s : Nat) : ∀ (l : List Nat) (w : List Nat), w ∈ splitL s l → ∀ c ∈ w, c ∈ l
  | [], w, h, c, hc => by
    simp [splitL] at h
    rw [h] at hc
    cases hc
  | d :: r, w, h, c, hc => by
    unfold splitL at h
    have e := splitL_eta s r
    split at h
    · rcases List.mem_cons.mp h with rfl | h
      · cases hc
      · exact List.mem_cons_of_mem _ (splitL_mem s r w h c hc)
    · rcases List.mem_cons.mp h with rfl | h
      · rcases List.mem_cons.mp hc with rfl | hc
        · exact List.mem_cons_self
        · exact List.mem_cons_of_mem _ (splitL_mem s r _ (by rw [e]; exact List.mem_cons_self) c hc)
      · exact List.mem_cons_of_mem _ (splitL_mem s r w (by rw [e]; exact List.mem_cons_of_mem _ h) c hc)
theorem splitL_le (s : Nat) : ∀ (l : List Nat) (w : List Nat), w ∈ splitL s l → w.length ≤ l.length
  | [], w, h => by
    simp [splitL] at h
    rw [h]
    exact Nat.le_refl _
  | d :: r, w, h => by
    unfold splitL at h
    have e := splitL_eta s r
    have mem1 : (splitL s r).headD [] ∈ splitL s r := by rw [e]; exact List.mem_cons_self
    have mem2 : ∀ x ∈ (splitL s r).tail, x ∈ splitL s r := fun x hx => by rw [e]; exact List.mem_cons_of_mem _ hx
    split at h
    · rcases List.mem_cons.mp h with rfl | h
      · exact Nat.zero_le _
      · exact Nat.le_succ_of_le (splitL_le s r w h)
    · rcases List.mem_cons.mp h with rfl | h
      · exact Nat.succ_le_succ (splitL_le s r _ mem1)
      · exact Nat.le_succ_of_le (splitL_le s r w (mem2 w h))
theorem mk_len (l : List Nat) : (⟨l.toArray⟩ : Str).length = l.length := by rw [TL.len_tl]
theorem str_eq_iff (x y : Str) : x = y ↔ TL.tl x = TL.tl y := ⟨fun h => by rw [h], TL.ext_tl⟩
end LH
namespace LH
open PySem PySem.Spec PyProof.Rows L2
/-! ### an empty part in a split: a sign at an end, or two side by side -/
def Gap (s : Nat) (l : List Nat) : Prop := ∃ i, l[i]? = some s ∧ (l[i + 1]? = none ∨ l[i + 1]? = some s)
theorem gap_nil (s : Nat) : ¬ Gap s [] := fun ⟨i, h, _⟩ => by simp at h
theorem gap_cons (s c : Nat) (r : List Nat) : Gap s (c :: r) ↔ (c = s ∧ (r = [] ∨ r[0]? = some s)) ∨ Gap s r := by
  constructor
  · rintro ⟨i, h1, h2⟩
    cases i with
    | zero =>
      left
      have : c = s := by simpa using h1
      refine ⟨this, ?_⟩
      rcases h2 with h2 | h2
      · left
        have : r[0]? = none := by simpa using h2
        cases r with
        | nil => rfl
        | cons x r => simp at this
      · right; simpa using h2
    | succ i => exact .inr ⟨i, by simpa using h1, by simpa using h2⟩
  · rintro (⟨rfl, h⟩ | ⟨i, h1, h2⟩)
    · refine ⟨0, by simp, ?_⟩
      rcases h with rfl | h
      · left; rfl
      · right; simpa using h
    · exact ⟨i + 1, by simpa using h1, by simpa using h2⟩
theorem split_head (s : Nat) (l : List Nat) : (splitL s l).headD [] = [] ↔ l = [] ∨ l[0]? = some s := by
  cases l with
  | nil => simp [splitL]
  | cons c r =>
    unfold splitL
    by_cases h : c = s
    · rw [if_pos h]; simp [h]
    · rw [if_neg h]; simp [h]
theorem split_tail (s : Nat) : ∀ l : List Nat, [] ∈ (splitL s l).tail ↔ Gap s l
  | [] => by simp [splitL, gap_nil]
  | c :: r => by
    rw [gap_cons, ← split_tail s r]
    by_cases h : c = s
    · have e : splitL s (c :: r) = [] :: splitL s r := by
        conv => lhs; unfold splitL
        rw [if_pos h]
      rw [e, List.tail_cons, splitL_eta s r, List.mem_cons, eq_comm, split_head]
      simp [h]
    · have e : splitL s (c :: r) = (c :: (splitL s r).headD []) :: (splitL s r).tail := by
        conv => lhs; unfold splitL
        rw [if_neg h]
      rw [e, List.tail_cons]
      simp [h]
theorem split_gap (s : Nat) (l : List Nat) : [] ∈ splitL s l ↔ l = [] ∨ l[0]? = some s ∨ Gap s l := by
  rw [splitL_eta s l, List.mem_cons, eq_comm, split_head, split_tail, or_assoc]
theorem joinL_nil (l : List (List Nat)) : TL.joinL [] l = l.flatten := by
  induction l with
  | nil => rfl
  | cons x r ih =>
    cases r with
    | nil => simp [TL.joinL]
    | cons y r => rw [TL.joinL, ih]; simp
theorem tl_empty : TL.tl (Str.ofString "") = [] := by decide +kernel
theorem tl_join0 (ys : List Str) : TL.tl (Txt.join (Str.ofString "") ys) = (ys.map TL.tl).flatten := by
  rw [TL.join_eq, TL.tl_join, tl_empty, joinL_nil]
theorem flatten_le {α : Type} {k : Nat} : ∀ l : List (List α), (∀ x ∈ l, x.length ≤ k) → l.flatten.length ≤ k * l.length
  | [], _ => Nat.le_refl _
  | x :: r, h => by
    have ih := flatten_le r fun y hy => h y (List.mem_cons_of_mem _ hy)
    have hx := h x (by simp)
    rw [List.flatten_cons, List.length_append, List.length_cons, Nat.mul_succ]
    omega
theorem chunks_len {α : Type} (k : Nat) (t : List α) : (chunks k t).length = (t.length + (k - 1)) / k := by
  unfold chunks
  rw [List.length_map, List.length_range]
theorem sum_len (ys : List Str) : (ys.map (·.length)).sum = ((ys.map TL.tl).flatten).length := by
  rw [List.length_flatten, List.map_map]
  rfl
/-! ### texts and their signs -/
theorem okS_app {x y : Str} (hx : OkS x) (hy : OkS y) : OkS (x ++ y) := fun c hc => by
  rw [TL.tl_append] at hc
  rcases List.mem_append.mp hc with h | h
  · exact hx c h
  · exact hy c h
theorem len_app (x y : Str) : (x ++ y).length = x.length + y.length := by
  rw [TL.len_tl, TL.tl_append, List.length_append, ← TL.len_tl, ← TL.len_tl]
theorem okS_cut {x : Str} (hx : OkS x) (lo hi : Option Int) : OkS (cutS x lo hi) := fun c hc => hx c (List.mem_of_mem_drop (List.mem_of_mem_take hc))
theorem okS_one {c : Nat} (h : c < 1114112) : OkS ⟨#[c]⟩ := fun d hd => by
  have : d = c := by simpa [TL.tl] using hd
  rw [this]; exact h
theorem joinL_mem (S : List Nat) : ∀ (ps : List (List Nat)) (c : Nat), c ∈ TL.joinL S ps → c ∈ S ∨ ∃ p ∈ ps, c ∈ p
  | [], c, h => by cases h
  | [p], c, h => .inr ⟨p, by simp, h⟩
  | p :: q :: r, c, h => by
    rw [TL.joinL] at h
    rcases List.mem_append.mp h with h | h
    · exact .inr ⟨p, by simp, h⟩
    · rcases List.mem_append.mp h with h | h
      · exact .inl h
      · rcases joinL_mem S (q :: r) c h with h | ⟨x, hx, hc⟩
        · exact .inl h
        · exact .inr ⟨x, List.mem_cons_of_mem _ hx, hc⟩
theorem joinL_len (S : List Nat) : ∀ (ps : List (List Nat)), (TL.joinL S ps).length ≤ (ps.map List.length).sum + ps.length * S.length
  | [] => by simp [TL.joinL]
  | [p] => by simp [TL.joinL]
  | p :: q :: r => by
    have ih := joinL_len S (q :: r)
    rw [TL.joinL, List.length_append, List.length_append, List.map_cons, List.sum_cons, List.length_cons, Nat.succ_mul]
    omega
theorem sum_le (k : Nat) : ∀ l : List Nat, (∀ x ∈ l, x ≤ k) → l.sum ≤ l.length * k
  | [], _ => by simp
  | x :: r, h => by
    have ih := sum_le k r fun y hy => h y (List.mem_cons_of_mem _ hy)
    have hx := h x (by simp)
    rw [List.sum_cons, List.length_cons, Nat.succ_mul]
    omega
theorem join_len_le {sep : Str} {ws : List Str} {k n : Nat} (hw : ∀ x ∈ ws, x.length ≤ k) (hn : ws.length ≤ n) : (ws.map (·.length)).sum + ws.length * sep.length ≤ n * (k + sep.length) := by
  have h1 := sum_le k (ws.map (·.length)) fun x hx => by
    obtain ⟨y, hy, rfl⟩ := List.mem_map.mp hx
    exact hw y hy
  rw [List.length_map] at h1
  calc (ws.map (·.length)).sum + ws.length * sep.length ≤ ws.length * k + ws.length * sep.length := Nat.add_le_add_right h1 _
    _ = ws.length * (k + sep.length) := (Nat.mul_add _ _ _).symm
    _ ≤ n * (k + sep.length) := Nat.mul_le_mul_right _ hn
theorem joined_len (sep : Str) (ws : List Str) : (Txt.join sep ws).length ≤ (ws.map (·.length)).sum + ws.length * sep.length := by
  rw [TL.len_tl, TL.join_eq, TL.tl_join]
  refine Nat.le_trans (joinL_len _ _) ?_
  rw [List.map_map, List.length_map, ← TL.len_tl]
  have : (ws.map (List.length ∘ TL.tl)) = ws.map (·.length) := List.map_congr_left fun x _ => (TL.len_tl x).symm
  rw [this]
  exact Nat.le_refl _
theorem okS_join {sep : Str} {ws : List Str} (hs : OkS sep) (hw : ∀ x ∈ ws, OkS x) : OkS (Txt.join sep ws) := fun c hc => by
  rw [TL.join_eq, TL.tl_join] at hc
  rcases joinL_mem _ _ c hc with h | ⟨p, hp, hc⟩
  · exact hs c h
  · obtain ⟨x, hx, rfl⟩ := List.mem_map.mp hp
    exact hw x hx c hc
/-- lists of truth values compared -/
theorem dpAll_bls {K : PySem.W.Frag} {H : Hp} : ∀ bs : List Bool, DpAll K H (bs.map V.bl) (bs.map PyData.bool)
  | [] => .nil
  | b :: r => .cons (.bl b) (dpAll_bls r)
theorem dp_bls {K : PySem.W.Frag} {H : Hp} {a : Addr} {bs : List Bool} (h : SqL K H a (bs.map V.bl)) : Dp K H (.ref a) (.list (bs.map PyData.bool)) := .lst h (dpAll_bls bs)
theorem lay_bls : ∀ bs : List Bool, PyData.canLayAll0 (bs.map PyData.bool) = true
  | [] => by simp [PyData.canLayAll0]
  | b :: r => by simp [PyData.canLayAll0, PyData.canLay0, lay_bls r]
theorem depth_bls : ∀ bs : List Bool, PyData.depthAll (bs.map PyData.bool) = 0
  | [] => rfl
  | _ :: r => by simp [PyData.depthAll, PyData.depth, depth_bls r]
theorem shaped_bls (bs : List Bool) : SeqAt.shaped (.list (bs.map PyData.bool)) = true := by
  simp [SeqAt.shaped, PyData.canLay0, PyData.depth, lay_bls bs, depth_bls]
theorem eqv_bls : ∀ bs cs : List Bool, PyData.eqvAll (bs.map PyData.bool) (cs.map PyData.bool) = decide (bs = cs)
  | [], [] => by simp [PyData.eqvAll]
  | [], _ :: _ => by simp [PyData.eqvAll]
  | _ :: _, [] => by simp [PyData.eqvAll]
  | b :: r, c :: q => by
    rw [List.map_cons, List.map_cons, PyData.eqvAll, PyData.eqv, eqv_bls r q]
    by_cases h : b = c <;> simp [h]
theorem eqv_blsL (bs cs : List Bool) : PyData.eqv (.list (bs.map PyData.bool)) (.list (cs.map PyData.bool)) = decide (bs = cs) := by rw [PyData.eqv, eqv_bls]
theorem lat_of {α : Type} {xs : List α} {z : Int} {j : Nat} {v : α} (e : z = (j : Int)) (h : xs[j]? = some v) : atI xs z = some v := by
  rw [e]
  exact atI_nat h
theorem getD_str (ws : List Str) (i : Nat) (hi : i < ws.length) : (ws.map V.str).getD i .non = .str (ws.getD i Str.empty) := by
  rw [List.getD_eq_getElem?_getD, List.getElem?_map, List.getElem?_eq_getElem hi, List.getD_eq_getElem?_getD, List.getElem?_eq_getElem hi]
  rfl
end LH
namespace LH
open PySem PySem.Spec PyProof.Rows L2
/-! ### and, or of values, each part told by its truth -/
theorem andV {ta tb : TE} {σ : L2.St} {H : Hp} {Q : VK} (c d : Bool) (ha : ∀ Q' : VK, Tell H (.bl c) Q' → ta σ H Q') (hb : c = true → ∀ (H1 : Hp) (Q' : VK), Same H H1 → Tell H1 (.bl d) Q' → tb σ H1 Q') (q : Tell H (.bl (c && d)) Q) : tAndV ta tb σ H Q := by
  refine ha _ fun H1 s1 => ⟨c, rfl, ?_⟩
  cases c with
  | true => exact iteT (hb rfl H1 Q s1 fun H2 s2 => q H2 (s1.trans s2))
  | false => exact iteF (q H1 s1)
theorem orV {ta tb : TE} {σ : L2.St} {H : Hp} {Q : VK} (c d : Bool) (ha : ∀ Q' : VK, Tell H (.bl c) Q' → ta σ H Q') (hb : c = false → ∀ (H1 : Hp) (Q' : VK), Same H H1 → Tell H1 (.bl d) Q' → tb σ H1 Q') (q : Tell H (.bl (c || d)) Q) : tOrV ta tb σ H Q := by
  refine ha _ fun H1 s1 => ⟨c, rfl, ?_⟩
  cases c with
  | true => exact iteT (q H1 s1)
  | false => exact iteF (hb rfl H1 Q s1 fun H2 s2 => q H2 (s1.trans s2))
/-- two blanks side by side -/
def dbl (s : Nat) (l : List Nat) : Bool := (List.range l.length).any fun i => decide (l[i]? = some s) && decide (l[i + 1]? = some s)
theorem dbl_iff (s : Nat) (l : List Nat) : dbl s l = true ↔ ∃ i, l[i]? = some s ∧ l[i + 1]? = some s := by
  unfold dbl
  rw [List.any_eq_true]
  constructor
  · rintro ⟨i, _, h⟩
    rw [Bool.and_eq_true, decide_eq_true_eq, decide_eq_true_eq] at h
    exact ⟨i, h⟩
  · rintro ⟨i, h1, h2⟩
    refine ⟨i, List.mem_range.mpr (List.getElem?_eq_some_iff.mp h1).1, ?_⟩
    rw [Bool.and_eq_true, decide_eq_true_eq, decide_eq_true_eq]
    exact ⟨h1, h2⟩
theorem take2 (s : Nat) : ∀ (l : List Nat) (i : Nat), (l.drop i).take 2 = [s, s] ↔ l[i]? = some s ∧ l[i + 1]? = some s
  | [], i => by simp
  | c :: r, 0 => by cases r <;> simp
  | c :: r, i + 1 => by simpa using take2 s r i
theorem in_two {x y : Str} {s : Nat} (hy : TL.tl y = [s, s]) : (!(Builtin.Str.occurrences x y 0 x.length 1).isEmpty) = dbl s (TL.tl x) := by
  rw [Bool.eq_iff_iff, PySem.StrLaws.found_iff, dbl_iff]
  have hyl : y.length = 2 := by rw [TL.len_tl, hy]; rfl
  constructor
  · rintro ⟨i, h1, h2⟩
    rw [PySem.StrLaws.subAt_eq, hyl] at h2
    exact ⟨i, (take2 s _ i).mp ((eq_of_beq h2).trans hy)⟩
  · rintro ⟨i, h⟩
    have hl := (List.getElem?_eq_some_iff.mp h.2).1
    refine ⟨i, by rw [hyl, TL.len_tl]; omega, ?_⟩
    rw [PySem.StrLaws.subAt_eq, hyl]
    refine beq_iff_eq.mpr ?_
    rw [show x.cps.toList = TL.tl x from rfl, (take2 s _ i).mpr h]
    exact hy.symm
theorem take1 (s : Nat) (l : List Nat) : l.take 1 = [s] ↔ l[0]? = some s := by cases l <;> simp
theorem dropL (s : Nat) (l : List Nat) : l.drop (l.length - 1) = [s] ↔ ∃ i, l[i]? = some s ∧ l[i + 1]? = none := by
  constructor
  · intro h
    refine ⟨l.length - 1, ?_, ?_⟩
    · have := congrArg (fun m : List Nat => m[0]?) h
      simpa using this
    · rw [List.getElem?_eq_none_iff]; omega
  · rintro ⟨i, h1, h2⟩
    obtain ⟨hl, e⟩ := List.getElem?_eq_some_iff.mp h1
    have hl2 := List.getElem?_eq_none_iff.mp h2
    have : i = l.length - 1 := by omega
    subst this
    rw [List.drop_eq_getElem_cons hl, e, List.drop_of_length_le (by omega)]
theorem blanks_iff (s : Nat) (l : List Nat) (h0 : l ≠ []) : (decide (l.take 1 = [s]) || (decide (l.drop (l.length - 1) = [s]) || dbl s l)) = decide ([] ∈ splitL s l) := by
  rw [Bool.eq_iff_iff, Bool.or_eq_true, Bool.or_eq_true, decide_eq_true_eq, decide_eq_true_eq, dbl_iff, decide_eq_true_eq, split_gap, take1, dropL]
  constructor
  · rintro (h | ⟨i, h1, h2⟩ | ⟨i, h1, h2⟩)
    · exact .inr (.inl h)
    · exact .inr (.inr ⟨i, h1, .inl h2⟩)
    · exact .inr (.inr ⟨i, h1, .inr h2⟩)
  · rintro (h | h | ⟨i, h1, h2 | h2⟩)
    · exact absurd h h0
    · exact .inl h
    · exact .inr (.inl ⟨i, h1, h2⟩)
    · exact .inr (.inr ⟨i, h1, h2⟩)
theorem cutS_last (z : Str) : TL.tl (cutS z (some (-1)) none) = (TL.tl z).drop ((TL.tl z).length - 1) := by
  unfold cutS
  rw [HT.sIx_none]
  have e : HT.sIx z.length 0 (some (-1)) = z.length - 1 := by
    show (if (-1 : Int) < 0 then (-1 + ((z.length : Nat) : Int)).toNat else min (-1 : Int).toNat z.length) = _
    rw [if_pos (by decide)]
    omega
  rw [e]
  show ((TL.tl z).drop (z.length - 1)).take (z.length - (z.length - 1)) = _
  rw [TL.len_tl]
  exact List.take_of_length_le (by rw [List.length_drop]; exact Nat.le_refl _)
end LH
namespace LH
open PySem PySem.Spec PyProof.Rows L2
theorem pickL {α : Type} (xs : List α) (m : Int) (h0 : 0 ≤ m) (h1 : m < xs.length) : ∃ x, x ∈ xs ∧ atI xs m = some x := by
  obtain ⟨j, rfl⟩ : ∃ j : Nat, m = (j : Int) := ⟨m.toNat, by omega⟩
  have hj : j < xs.length := by omega
  exact ⟨xs[j], List.getElem_mem hj, atI_nat (List.getElem?_eq_getElem hj)⟩
/-- a thing that is no text -/
def Odd (H : Hp) (x : V) : Prop := x = .non ∨ (∃ i, x = .int i) ∨ (∃ b, x = .bl b) ∨ ∃ a, x = .ref a ∧ ((∃ xs, H a = some (.lst xs)) ∨ (∃ xs, H a = some (.tup xs)) ∨ ∃ kvs, H a = some (.dK kvs))
theorem Odd.same {H H' : Hp} {x : V} (s : Same H H') (h : Odd H x) : Odd H' x := by
  rcases h with h | h | h | ⟨a, e, h⟩
  · exact .inl h
  · exact .inr (.inl h)
  · exact .inr (.inr (.inl h))
  · refine .inr (.inr (.inr ⟨a, e, ?_⟩))
    rcases h with ⟨xs, h⟩ | ⟨xs, h⟩ | ⟨xs, h⟩
    · exact .inl ⟨xs, s _ _ h⟩
    · exact .inr (.inl ⟨xs, s _ _ h⟩)
    · exact .inr (.inr ⟨xs, s _ _ h⟩)
theorem Odd.ty {K : PySem.W.Frag} {H : Hp} {x : V} (h : Odd H x) : ∃ t, TyX K H x t ∧ PySem.W.kitOne K t (.type "str") = some false := by
  rcases h with rfl | ⟨i, rfl⟩ | ⟨b, rfl⟩ | ⟨a, rfl, ⟨xs, h⟩ | ⟨xs, h⟩ | ⟨xs, h⟩⟩
  · exact ⟨_, .base .non, kit_ty (by decide +kernel)⟩
  · exact ⟨_, .base (.int i), kit_ty (by decide +kernel)⟩
  · exact ⟨_, .base (.bl b), kit_ty (by decide +kernel)⟩
  · exact ⟨_, .base (.lst h), kit_ty (by decide +kernel)⟩
  · exact ⟨_, .base (.tup h), kit_ty (by decide +kernel)⟩
  · exact ⟨_, .base (.dK h), kit_ty (by decide +kernel)⟩
end LH

namespace LH
open PySem PySem.Spec PyProof.Rows L2
/-! ### o[i] op= e of a list -/
def rGetL (K : PySem.W.Frag) : V → V → Hp → VK → Prop := fun o i H Q => ∃ p xs k v, o = .ref p ∧ i = .int k ∧ SqL K H p xs ∧ atI xs k = some v ∧ Q v H
theorem get_list {X : Cx} : PGet X (rGetL X.K) := by
  intro pins s σ H x y v u Q I rx ry h
  obtain ⟨p, xs, i, z, rfl, rfl, hq, he, q⟩ := h
  cases rx
  obtain ⟨t, rfl⟩ := ry
  obtain ⟨its, r, pl, hz⟩ := I.list hq
  obtain ⟨j, h1, h2, h3, h4, h5⟩ := atI_get he
  obtain ⟨w, ew, rw'⟩ := r.get h2
  have hl := r.length
  have hn := line63
  have fin : EP X pins σ Q w s := ⟨z, H, I, rw', q⟩
  by_cases h0 : 0 ≤ i
  · have hj : i.toNat = j := by
      rw [seqIndex_of h0 h5] at h1
      exact Option.some.inj h1
    exact wpAny_getItem_list pl.isList h0 (by omega) (by rw [hj]; simpa using ew) fin
  · have hj : (i + (its.toArray.size : Int)).toNat = j := by
      rw [seqIndex_neg (by omega) h4] at h1
      rw [List.size_toArray, ← hl]
      exact Option.some.inj h1
    exact wpAny_getItem_list_neg pl.isList (by omega) (by rw [List.size_toArray] <;> omega) (by omega) (by rw [hj]; simpa using ew) fin
theorem get_listK {X : Cx} (K : PySem.W.Frag) (h : X.K = K := by rfl) : PGet X (rGetL K) := h ▸ get_list
theorem ixN_last {α : Type} (xs : List α) (v : α) : ixN (xs ++ [v]).length (-1) = some xs.length := by
  have hl : (xs ++ [v]).length = xs.length + 1 := by simp
  unfold ixN
  rw [hl, if_neg (by decide), if_pos (by omega)]
  congr 1
  omega
theorem set_last {α : Type} (xs : List α) (v u : α) : (xs ++ [v]).set xs.length u = xs ++ [u] := by
  rw [List.set_append_right _ _ (Nat.le_refl _), Nat.sub_self]
  rfl
/-! ### small letters made great -/
def Sm (l : List Nat) : Prop := ∀ c ∈ l, 97 ≤ c ∧ c ≤ 122
def cap : List Nat → List Nat
  | [] => []
  | c :: r => (c - 32) :: r
theorem title_small {c : Nat} (h : 97 ≤ c ∧ c ≤ 122) : Unicode.titleOf c = [c - 32] := by
  have : ∀ d : Fin 26, Unicode.titleOf (97 + d.val) = [97 + d.val - 32] := by decide +kernel
  have e := this ⟨c - 97, by omega⟩
  rwa [show 97 + (c - 97) = c by omega] at e
theorem upper_small {c : Nat} (h : 97 ≤ c ∧ c ≤ 122) : Unicode.upperOf c = [c - 32] := by
  have : ∀ d : Fin 26, Unicode.upperOf (97 + d.val) = [97 + d.val - 32] := by decide +kernel
  have e := this ⟨c - 97, by omega⟩
  rwa [show 97 + (c - 97) = c by omega] at e
theorem lower_small {c : Nat} (h : 97 ≤ c ∧ c ≤ 122) : Unicode.lowerOf c = [c] := by
  have : ∀ d : Fin 26, Unicode.lowerOf (97 + d.val) = [97 + d.val] := by decide +kernel
  have e := this ⟨c - 97, by omega⟩
  rwa [show 97 + (c - 97) = c by omega] at e
theorem tl_placed (x : Str) (f : Nat → Nat → List Nat) : TL.tl ⟨placed x f⟩ = ((TL.tl x).mapIdx f).flatten := by
  unfold placed TL.tl
  simp only [Array.toList_flatten, Array.toList_mapIdx]
  congr 1
  apply List.ext_getElem?
  intro i
  rw [List.getElem?_map, List.getElem?_mapIdx, List.getElem?_mapIdx]
  cases x.cps.toList[i]? <;> rfl
theorem mapIdx_same {f g : Nat → Nat → List Nat} : ∀ l : List Nat, (∀ i c, l[i]? = some c → f i c = g i c) → l.mapIdx f = l.mapIdx g := fun l h => by
  apply List.ext_getElem?
  intro i
  rw [List.getElem?_mapIdx, List.getElem?_mapIdx]
  cases e : l[i]? with
  | none => rfl
  | some c => exact congrArg some (h i c e)
theorem flat_one : ∀ l : List Nat, (l.mapIdx fun _ c => [c]).flatten = l := by
  intro l
  rw [List.mapIdx_eq_zipIdx_map]
  induction l with
  | nil => rfl
  | cons c r ih =>
    have : ∀ (l : List Nat) (n : Nat), ((l.zipIdx n).map fun (p : Nat × Nat) => [p.1]).flatten = l := by
      intro l
      induction l with
      | nil => intro n; rfl
      | cons c r ih => intro n; rw [List.zipIdx_cons, List.map_cons, List.flatten_cons, ih]; rfl
    exact this _ 0
theorem cap_eq (x : Str) (h : Sm (TL.tl x)) : TL.tl (Txt.capitalize x) = cap (TL.tl x) := by
  unfold Txt.capitalize
  by_cases h0 : (x.length == 0) = true
  · rw [if_pos h0]
    have : TL.tl x = [] := by
      have e := eq_of_beq h0
      rw [TL.len_tl] at e
      exact List.length_eq_zero_iff.mp e
    rw [this]
    rfl
  · rw [if_neg h0]
    unfold Txt.capitalized
    rw [tl_placed, mapIdx_same (g := fun i c => if i = 0 then [c - 32] else [c]) _ fun i c hc => ?_]
    · cases e : TL.tl x with
      | nil => rfl
      | cons c r =>
        rw [List.mapIdx_cons, List.flatten_cons]
        show [c - 32] ++ _ = (c - 32) :: r
        have : (r.mapIdx fun i c => if i + 1 = 0 then [c - 32] else [c]) = r.mapIdx fun _ c => [c] := mapIdx_same r fun i c _ => if_neg (by omega)
        rw [this, flat_one]
        rfl
    · have hm := h c (List.mem_of_getElem? hc)
      by_cases hi : i = 0
      · subst hi
        exact title_small hm
      · have hb : (i == 0) = false := by simpa using hi
        rw [if_neg hi]
        show (if (i == 0) = true then Unicode.titleOf c else Unicode.lowerAt x.cps i) = [c]
        rw [hb, if_neg Bool.false_ne_true]
        unfold Unicode.lowerAt
        have ec : x.cps[i]? = some c := by rw [← hc]; exact Array.getElem?_toList.symm
        rw [ec]
        show (if (c == 0x3A3 && Unicode.endsWord x.cps i) = true then [0x3C2] else Unicode.lowerOf c) = [c]
        have hb2 : (c == 0x3A3) = false := by simp; omega
        rw [hb2, Bool.false_and, if_neg Bool.false_ne_true]
        exact lower_small hm
theorem upper_eq (x : Str) (h : Sm (TL.tl x)) : TL.tl (Txt.upper x) = (TL.tl x).map fun c => c - 32 := by
  unfold Txt.upper
  rw [tl_placed, mapIdx_same (g := fun _ c => [c - 32]) _ fun i c hc => upper_small (h c (List.mem_of_getElem? hc))]
  generalize TL.tl x = l
  have : (l.mapIdx fun _ c => [c - 32]) = (l.map fun c => c - 32).mapIdx fun _ c => [c] := by
    apply List.ext_getElem?
    intro i
    rw [List.getElem?_mapIdx, List.getElem?_mapIdx, List.getElem?_map]
    cases l[i]? <;> rfl
  rw [this, flat_one]
theorem upper_cap (x : Str) (h : Sm (TL.tl x)) : TL.tl (Txt.upper (cutS x none (some 1)) ++ cutS x (some 1) none) = cap (TL.tl x) := by
  have e1 : TL.tl (cutS x none (some 1)) = (TL.tl x).take 1 := by rw [show (1 : Int) = ((1 : Nat) : Int) from rfl, cutS_to]
  have e2 : TL.tl (cutS x (some 1) none) = (TL.tl x).drop 1 := by rw [show (1 : Int) = ((1 : Nat) : Int) from rfl, cutS_from]
  rw [TL.tl_append, upper_eq _ (by rw [e1]; exact fun c hc => h c (List.mem_of_mem_take hc)), e1, e2]
  cases TL.tl x with
  | nil => rfl
  | cons c r => simp [cap]
theorem cap_len (l : List Nat) : (cap l).length = l.length := by cases l <;> rfl
/-! ### words of a text -/
/-- a word's signs: none of them a blank -/
def WordL (l : List Nat) : Prop := l ≠ [] ∧ ∀ c ∈ l, 33 ≤ c ∧ c ≤ 126 ∧ c ≠ 37
theorem space_no {c : Nat} (h : 33 ≤ c ∧ c ≤ 126) : Unicode.isSpace c = false := by
  have : ∀ d : Fin 94, Unicode.isSpace (33 + d.val) = false := by decide +kernel
  have e := this ⟨c - 33, by omega⟩
  rwa [show 33 + (c - 33) = c by omega] at e
theorem words_join (ws : List Str) (h : ∀ x ∈ ws, WordL (TL.tl x)) (sp : Str) (hs : TL.tl sp = [32]) : Txt.words (Txt.join sp ws) = ws := by
  refine TL.map_tl_inj ?_
  rw [TL.words_tl, TL.join_eq, TL.tl_join, hs]
  cases ws with
  | nil => rfl
  | cons x r =>
    rw [TL.wfold_join _ _ (by simp) fun p hp => ?_, List.nil_append]
    obtain ⟨y, hy, rfl⟩ := List.mem_map.mp hp
    exact ⟨(h y hy).1, fun c hc => space_no ⟨((h y hy).2 c hc).1, ((h y hy).2 c hc).2.1⟩⟩
/-! ### joined by a sign and split there again -/
theorem splitL_app (s : Nat) (w r : List Nat) (hw : s ∉ w) : splitL s (w ++ s :: r) = w :: splitL s r := by
  induction w with
  | nil => simp [splitL]
  | cons c w ih =>
    have hc : c ≠ s := fun h => hw (by rw [h]; exact List.mem_cons_self)
    have ih' := ih fun h => hw (List.mem_cons_of_mem _ h)
    show splitL s (c :: (w ++ s :: r)) = _
    rw [splitL, if_neg hc, ih']
    rfl
theorem splitL_self (s : Nat) (w : List Nat) (hw : s ∉ w) : splitL s w = [w] := by
  induction w with
  | nil => rfl
  | cons c w ih =>
    have hc : c ≠ s := fun h => hw (by rw [h]; exact List.mem_cons_self)
    rw [splitL, if_neg hc, ih fun h => hw (List.mem_cons_of_mem _ h)]
    rfl
theorem splitL_join (s : Nat) : ∀ ps : List (List Nat), ps ≠ [] → (∀ p ∈ ps, s ∉ p) → splitL s (TL.joinL [s] ps) = ps
  | [], h, _ => absurd rfl h
  | [p], _, h => splitL_self s p (h p (by simp))
  | p :: q :: r, _, h => by
    rw [TL.joinL]
    show splitL s (p ++ s :: TL.joinL [s] (q :: r)) = _
    rw [splitL_app s p _ (h p (by simp)), splitL_join s (q :: r) (by simp) fun x hx => h x (List.mem_cons_of_mem _ hx)]
/-! ### a header's rows -/
def hstep (st : List (List Nat) × List Nat) (w : List Nat) : List (List Nat) × List Nat :=
  if 60 < st.2.length + 1 + w.length then (st.1 ++ [st.2], 32 :: w) else (st.1, st.2 ++ 32 :: w)
def great (l : List Nat) : List Nat := TL.joinL [45] ((splitL 45 l).map cap)
def hfold (l : List Nat) (ws : List (List Nat)) : List (List Nat) × List Nat := ws.foldl hstep ([], great l ++ [58])
def hrows (l : List Nat) (ws : List (List Nat)) : List (List Nat) := (hfold l ws).1 ++ [(hfold l ws).2]
def strL (ls : List (List Nat)) : List Str := ls.map fun l => ⟨l.toArray⟩
theorem strL_app (a b : List (List Nat)) : strL (a ++ b) = strL a ++ strL b := by unfold strL; rw [List.map_append]
theorem hfold_snoc (l : List Nat) (ws : List (List Nat)) (w : List Nat) : hfold l (ws ++ [w]) = hstep (hfold l ws) w := by
  unfold hfold
  rw [List.foldl_append]
  rfl
theorem foldl_rev_ind {P : List (List Nat) → Prop} (h0 : P []) (hs : ∀ ws w, P ws → P (ws ++ [w])) : ∀ ws, P ws := by
  intro ws
  have key : ∀ r : List (List Nat), P r.reverse := by
    intro r
    induction r with
    | nil => exact h0
    | cons w r ih => rw [List.reverse_cons]; exact hs _ _ ih
  have := key ws.reverse
  rwa [List.reverse_reverse] at this
theorem hfold_len (l : List Nat) (hl : (great l).length ≤ 59) : ∀ ws : List (List Nat), (∀ w ∈ ws, w.length ≤ 59) → (hfold l ws).2.length ≤ 60 ∧ (∀ r ∈ (hfold l ws).1, r.length ≤ 60) ∧ (hfold l ws).1.length ≤ ws.length := by
  refine foldl_rev_ind (P := fun ws => (∀ w ∈ ws, w.length ≤ 59) → (hfold l ws).2.length ≤ 60 ∧ (∀ r ∈ (hfold l ws).1, r.length ≤ 60) ∧ (hfold l ws).1.length ≤ ws.length) ?_ ?_
  · intro _
    refine ⟨?_, (fun r hr => by cases hr), Nat.le_refl _⟩
    show (great l ++ [58]).length ≤ 60
    rw [List.length_append, List.length_singleton]
    omega
  · intro ws w ih h
    obtain ⟨h1, h2, h3⟩ := ih fun x hx => h x (by simp [hx])
    have hw := h w (by simp)
    rw [hfold_snoc]
    unfold hstep
    split
    · refine ⟨by simp only [List.length_cons]; omega, fun r hr => ?_, by simp only [List.length_append, List.length_singleton]; omega⟩
      rcases List.mem_append.mp hr with hr | hr
      · exact h2 r hr
      · rw [List.mem_singleton.mp hr]; exact h1
    · refine ⟨by simp only [List.length_append, List.length_cons]; omega, h2, by simp only [List.length_append, List.length_singleton]; omega⟩
theorem hfold_ok (l : List Nat) (hl : ∀ c ∈ great l, c < 1114112) : ∀ ws : List (List Nat), (∀ w ∈ ws, ∀ c ∈ w, c < 1114112) → (∀ c ∈ (hfold l ws).2, c < 1114112) ∧ ∀ r ∈ (hfold l ws).1, ∀ c ∈ r, c < 1114112 := by
  refine foldl_rev_ind (P := fun ws => (∀ w ∈ ws, ∀ c ∈ w, c < 1114112) → (∀ c ∈ (hfold l ws).2, c < 1114112) ∧ ∀ r ∈ (hfold l ws).1, ∀ c ∈ r, c < 1114112) ?_ ?_
  · intro _
    refine ⟨fun c hc => ?_, fun r hr => by cases hr⟩
    rcases List.mem_append.mp (show c ∈ great l ++ [58] from hc) with h | h
    · exact hl c h
    · rw [List.mem_singleton.mp h]; decide
  · intro ws w ih h
    obtain ⟨h1, h2⟩ := ih fun x hx => h x (by simp [hx])
    have hw := h w (by simp)
    have hw' : ∀ c ∈ 32 :: w, c < 1114112 := fun c hc => by
      rcases List.mem_cons.mp hc with rfl | hc
      · decide
      · exact hw c hc
    rw [hfold_snoc]
    unfold hstep
    split
    · refine ⟨hw', fun r hr => ?_⟩
      rcases List.mem_append.mp hr with hr | hr
      · exact h2 r hr
      · rw [List.mem_singleton.mp hr]; exact h1
    · refine ⟨fun c hc => ?_, h2⟩
      rcases List.mem_append.mp hc with h | h
      · exact h1 c h
      · exact hw' c h
end LH

set_option maxHeartbeats 2000000
namespace LH
open PySem PySem.Spec PyProof.Rows L2
/-! ### an exception that is caught and held as a value -/
/-- the exception object at a: its class, its own dict -/
def ExH (cls : Value) (d : Option Addr) (a : Addr) : HO := .ext fun h => ∃ (oe : Obj) (fv : Array Value), h.get? a = some oe ∧ (oe.cls = cls ∧ oe.dict = d) ∧ oe.data = .fields fv
section
variable {X : Cx} {pins : List (Addr × Obj)} {σ : L2.St} {H : Hp} {s : Shared}
theorem hold_inv {a : Addr} {oe : Obj} {fv : Array Value} {cls : Value} {d : Option Addr} (I : Inv X pins σ H s) (ha : s.heap.get? a = some oe) (hz : Zc cls d oe) (hd : oe.data = .fields fv) (na : H a = none) (nL : a ≠ X.env.locals)
    (n0 : X.s_0.heap.get? a = none) (np : ∀ p ∈ X.pn ++ pins, p.1 ≠ a) : Inv X pins σ (upd H a (ExH cls d a)) s := by
  have far : ∀ {b : Addr} {u : HO}, H b = some u → b ≠ a := fun e => ne_of_none e na
  have old : ∀ {b : Addr} {o : Obj}, X.s_0.heap.get? b = some o → b ≠ a := fun {b o} e z => by
    subst z
    rw [n0] at e
    exact nomatch e
  have noCell : ∀ {y : Str} {c : Addr}, X.env.cells.lookup y = some c → c ≠ a := fun {y c} e z => by
    obtain ⟨v, o, ho, hv⟩ := I.cell y c e
    subst z
    rw [ha] at ho
    cases ho
    rw [hd] at hv
    exact nomatch hv
  have keepU : ∀ {b : Addr} {u : HO}, H b = some u → upd H a (ExH cls d a) b = some u := fun e => (upd_ne (far e)).trans e
  have base' : Un X.fs X.ex X.H_0 (upd H a (ExH cls d a)) X.s_0.heap s.heap :=
    { keep := I.base.keep, slot := I.base.slot, there := I.base.there, free := fun b o e n hx => (upd_ne (old e)).trans (I.base.free b o e n hx), tups := fun b xs e => keepU (I.base.tups b xs e), frzs := fun b o u e => keepU (I.base.frzs b o u e),
      tbls := fun b ps e => (I.base.tbls b ps e).imp fun _ q => keepU q }
  have hok' : HOk X.prog X.w (upd H a (ExH cls d a)) s.heap := fun b ob e => by
    by_cases hb : b = a
    · subst hb
      rw [upd_same] at e
      cases e
      exact ⟨⟨oe, fv, ha, hz, hd⟩, ⟨oe, ha⟩, fun _ _ ⟨o, v, q, r⟩ k => ⟨o, v, k o q, r⟩⟩
    · rw [upd_ne hb] at e
      exact (I.hok b ob e).stay (fun _ _ _ q => q) (fun _ q => keepU q) fun _ _ q => keepU q
  exact { ok := I.ok, os := I.os, bare := I.bare, base := base', loc := I.loc, cell := I.cell, free := (upd_ne (Ne.symm nL)).trans I.free, freeC := fun y c e => (upd_ne (noCell e)).trans (I.freeC y c e),
          pin := fun p hp => ⟨(I.pin p hp).1, (upd_ne (np p hp)).trans (I.pin p hp).2.1, (I.pin p hp).2.2⟩, hok := hok', len := I.len }
/-- what such a clause wishes of the body's exception: it is of the class, and the suite's end stands with the object held -/
def wHold (K : PySem.W.Frag) (c : Value) (i : Nat) (ts : TS) (D : Ends) : WX := fun cls d σ H =>
  PySem.W.exmOne K cls c = some true ∧ ∀ a, H a = none → ts { nx := fun σ' H' => H' a = none → D.nx (σ'.set i none) (upd H' a (ExH cls d a)), rt := fun _ _ => False, bk := fun _ _ => False, ct := fun _ _ => False } (σ.set i (some (.ref a))) H
theorem ps_try_hold {x n : Str} {c : Value} {i : Nat} {body rest : List Stmt} {b0 : Stmt} {np pos pos' : Pos} {tb : WX → TS} {ts : TS} (hs : X.stack = X.env :: X.outer) (hf : X.env.frame = some X.env.locals) (hx : X.ex = []) (hN : X.N.Nodup) (hi : X.N[i]? = some n)
    (hln : X.env.kindOf n = some .local) (hc : Names X x c) (hb : ∀ (W : WX) (pn : List (Addr × Obj)) (xe : Value → Shared → Prop), Takes (X.tr pn xe) W → PassesOwn (model X.prog X.w) X.A X.env xe → PSs (X.tr pn xe) body (tb W))
    (hsu : ∀ (a : Addr) (oe : Obj) (pn : List (Addr × Obj)), PSs (X.suite a ((a, oe) :: pn)) (b0 :: rest) ts) :
    PS X (.Try body [.ExceptHandler (some (.Name x np)) (some n) (b0 :: rest) pos'] [] [] pos) (fun D σ H => tb (wHold X.K c i ts D) D σ H) := by
  constructor
  intro pins s σ H D I h
  have hok := I.ok
  have hframes : X.A.frames = some (X.env :: X.outer) := hok.frames.trans (by rw [hs])
  apply wpAny_Try_except
  refine wpAny_mono (PSs.run (hb (wHold X.K c i ts D) (X.pn ++ pins) _ (fun u s' air => ?_) PassesOwn.looking) [] s σ H D (I.toTry _) h) (fun f s1 done => ?_) (fun _ _ z => z)
  · -- an exception is in the air
    obtain ⟨a, B, sI, pins', σ1, H1, cls, d, rfl, J1, nb, up, sky, na, os, ag, fits, wish⟩ := air
    have J : Inv X pins σ1 H1 sI := Inv.ofTry J1 hok
    refine Sky.land (Z := Zc cls d) Zc.steady hframes hf (by rw [hs] at sky; exact sky) fun g fly upg => ?_
    have Jg : Inv X pins σ1 H1 { s' with heap := g } := Inv.landed J nb fly.1 (Heap.UpToSlots.trans up upg) os ag
    obtain ⟨og, fg, hog, zg, dg⟩ := HandSPX.FlyingZ.there fly
    have offFrames : a ∉ frs (X.env :: X.outer) := fun hm => by
      obtain ⟨_, o', e', hno⟩ := fly.2.2.1.mem hm
      rw [hog] at e'
      cases e'
      exact hno _ dg
    have offLocals : a ≠ X.env.locals := fun z => offFrames (List.mem_filterMap.mpr ⟨X.env, by simp, by rw [hf, z]⟩)
    have offFs : a ∉ X.fs := fun hm => by
      obtain ⟨ev, hev, q⟩ := List.mem_filterMap.mp hm
      exact offFrames (List.mem_filterMap.mpr ⟨ev, List.mem_cons_of_mem _ hev, q⟩)
    have gone : sI.heap.get? a = none := by
      cases e : sI.heap.get? a with
      | none => rfl
      | some o => exact absurd ((nb a o e (by rw [hs]; exact offFrames)).symm.trans fly.2.1) (fun z => nomatch z)
    have new0 : X.s_0.heap.get? a = none := by
      cases e : X.s_0.heap.get? a with
      | none => rfl
      | some o =>
        obtain ⟨o', e'⟩ := J.base.there a o e (by rw [hx]; exact List.not_mem_nil)
        rw [gone] at e'
        exact nomatch e'
    have offPins : ∀ p ∈ X.pn ++ pins, p.1 ≠ a := fun p hp z => by
      have e' := (J.pin p hp).1
      rw [z, gone] at e'
      exact nomatch e'
    have Sg := Inv.suite Jg hog dg na offLocals offFs
    refine wpAny_handleBy_cons (codeAny_handlers_test ?_) (fun q => nomatch q)
    have seen := PySem.W.exm_one (M := model X.prog X.w) Jg.kIn (fun A' Q' E' t k q => wpAny_typeOf_ref (k _ _ hog) (by rw [zg.1]; exact q)) fits
    have named : ∀ {Q : Value → Shared → Prop} {E : Value → Shared → Prop}, Q c { s' with heap := g } → wpAny (model X.prog X.w) (X.A.mark (some (.ref a))) (eval (.Name x np) X.env) Q E { s' with heap := g } := fun {Q E} q => by
      rcases hc with ⟨hg, hdbg, hm | ⟨hm, hv, hnn⟩⟩
      · exact ld_glob (X := X.suite a ((a, og) :: (X.pn ++ pins))) Sg hg hm q hdbg
      · exact ld_blt (X := X.suite a ((a, og) :: (X.pn ++ pins))) Sg hg hm hv q hnn hdbg
    refine named (seen.here (codeAny_handlers_suite_as (HandSPX.lands_againZ fly fun k flk upk => ?_)))
    have Jk : Inv X pins σ1 H1 { s' with heap := k } := Inv.landed J nb flk.1 (Heap.UpToSlots.trans (Heap.UpToSlots.trans up upg) upk) os ag
    obtain ⟨ok', fk, hok4, zk, dk⟩ := HandSPX.FlyingZ.there flk
    have Sk := Inv.suite Jk hok4 dk na offLocals offFs
    refine store_ok (X := X.suite a ((a, ok') :: (X.pn ++ pins))) (v := .ref a) Sk hN hi (.inl hln) rfl (fun t St' => ?_) (.inr hln)
    refine wpAny_mono ((hsu a ok' (X.pn ++ pins)).run [] t _ H1 _ St' (wish a na)) (fun fl t1 end1 => ?_) (fun _ _ z => z.elim)
    cases fl with
    | next =>
      obtain ⟨σ2, H2, S2, q2⟩ := end1
      refine gone_ok (X := X.suite a ((a, ok') :: (X.pn ++ pins))) S2 hN hi hln fun t2 S3 => ?_
      obtain ⟨e3, n3, _⟩ := S3.pin (a, ok') (by simp)
      exact ⟨_, _, hold_inv (Inv.unsuite S3 hok) e3 zk dk n3 offLocals new0 offPins, q2 n3⟩
    | brk => obtain ⟨_, _, _, q2⟩ := end1; exact q2.elim
    | cont => obtain ⟨_, _, _, q2⟩ := end1; exact q2.elim
    | ret u => obtain ⟨_, _, _, _, _, q2⟩ := end1; exact q2.elim
  · -- nothing was raised
    cases f with
    | next => obtain ⟨σ1, H1, J1, q⟩ := done; exact wpAny_execs_nil ⟨σ1, H1, Inv.ofTry J1 hok, q⟩
    | brk => obtain ⟨σ1, H1, J1, q⟩ := done; exact ⟨σ1, H1, Inv.ofTry J1 hok, q⟩
    | cont => obtain ⟨σ1, H1, J1, q⟩ := done; exact ⟨σ1, H1, Inv.ofTry J1 hok, q⟩
    | ret u => obtain ⟨v, σ1, H1, J1, r, q⟩ := done; exact ⟨v, σ1, H1, Inv.ofTry J1 hok, r, q⟩
end
end LH
namespace LH
open PySem PySem.Spec PyProof.Rows L2
/-! ### isinstance of a held exception; a walk over pairs -/
theorem getD_app_l {α : Type} (xs ys : List α) (d : α) {i : Nat} (h : i < xs.length) : (xs ++ ys).getD i d = xs.getD i d := by
  rw [List.getD_eq_getElem?_getD, List.getD_eq_getElem?_getD, List.getElem?_append_left h]
theorem getD_app_r {α : Type} (xs ys : List α) (d : α) {i : Nat} (h : xs.length ≤ i) : (xs ++ ys).getD i d = ys.getD (i - xs.length) d := by
  rw [List.getD_eq_getElem?_getD, List.getD_eq_getElem?_getD, List.getElem?_append_right h]
/-- isinstance(e, c), e a held exception of the class at D without an own dict -/
def rIsH (K : PySem.W.Frag) : List V → Hp → VK → Prop := fun xs H Q => ∃ (a D : Addr) (c : V) (cv : Value) (b : Bool), xs = [.ref a, c] ∧ H a = some (ExH (.ref D) none a) ∧ ExcC K D ∧ (∀ u, RelV c u → u = cv) ∧ PySem.W.kitOne K (.ref D) cv = some b ∧ Q (.bl b) H
theorem call_isH {X : Cx} : CallR X (.builtin "isinstance") (rIsH X.K) := by
  intro pins s σ H xs us Q I r h
  obtain ⟨a, D, c, cv, b, rfl, ha, C, hcv, e, q⟩ := h
  obtain ⟨u1, u2, rfl, r1, r2⟩ := vals2 r
  cases (show u1 = Value.ref a from r1)
  obtain rfl := hcv _ r2
  obtain ⟨⟨oe, fv, hget, ⟨h1, h2⟩, h3⟩, _, _⟩ := (show ObjOk X.prog X.w H s.heap a (ExH (.ref D) none a) from I.hok a _ ha)
  have J : PySem.W.InstAt s.heap a oe D none := by
    obtain ⟨oc, od, oda, osl⟩ := oe
    dsimp only at h1 h2 h3
    subst h1 h2 h3
    exact ⟨hget, rfl, rfl, trivial⟩
  exact PySem.W.kia_one (PySem.W.handS_kitx_exc C.hg C.hk C.hs C.hd C.ha C.hn C.ht C.hm) I.kIn J e (fun z => nomatch z) fun tk => ⟨.bl b, H, I.kept (t' := tk) fun _ _ z => z, rfl, q⟩
theorem cIsH {X : Cx} (K : PySem.W.Frag) (h : X.K = K := by rfl) : CallR X (.builtin "isinstance") (rIsH K) := h ▸ call_isH
/-- a comprehension with a test over a list of pairs (tuples that stand), its element f i -/
theorem lc_pairs {K : PySem.W.Frag} {a : Addr} {ts : List Addr} {ps : Nat → V × V} {tt : TT} {te : TE} {c1 c2 : Nat} {σ : L2.St} {H1 : Hp} {D : Addr} {Qd : Hp → Prop} (f : Nat → V) (b : Nat → Bool) (hne : c1 ≠ c2) (hL : SqL K H1 a (ts.map V.ref)) (hT : ∀ i, i < ts.length → SqT K H1 (ts.getD i 0) [(ps i).1, (ps i).2])
    (hD : H1 D = none) (hn : ts.length ≤ sizeLine)
    (ht : ∀ (i : Nat) (H : Hp) (Q : Bool → Hp → Prop), i < ts.length → Same H1 H → (∀ H', Same H H' → Q (b i) H') → tt ((((σ.set c2 none).set c1 none).set c1 (some (ps i).1)).set c2 (some (ps i).2)) H Q)
    (he : ∀ i H Q, i < ts.length → Same H1 H → b i = true → Tell H (f i) Q → te ((((σ.set c2 none).set c1 none).set c1 (some (ps i).1)).set c2 (some (ps i).2)) H Q)
    (hd : ∀ H, Same H1 H → H D = some (.lst (((List.range ts.length).filter b).map f)) → Qd H) :
    ∃ W : Nat → Nat → Hp → Prop, (∃ m, W 0 m (upd H1 D (.lst []))) ∧ ∀ i m H, W i m H →
      ((Itl K a).stop i H ∧ Qd H) ∨ ((Itl K a).go i H ∧ ∃ Nx : Hp → Prop, (∀ H', Nx H' → ∃ m', m' < m ∧ W (i + 1) m' H') ∧ ∀ x H', (Itl K a).yld i H x H' → gTup K 2 (gCons (gName c1) (gCons (gName c2) gNil)) x (wipe σ [c1, c2]) H' fun σ2 H2 => wipe σ2 [c1, c2] = wipe σ [c1, c2] ∧ tt σ2 H2 fun b H3 =>
        if b = true then te σ2 H3 fun y H4 => ∃ acc, H4 D = some (.lst acc) ∧ acc.length < sizeLine ∧ Nx (upd H4 D (.lst (acc ++ [y]))) else Nx H3) := by
  have hm : (ts.map V.ref).length = ts.length := List.length_map ..
  refine lc_it walk_list (fun i H => Same H1 H ∧ H D = some (.lst (((List.range i).filter b).map f))) ⟨same_upd hD, upd_same⟩ (fun i H _ h => h.1.seq hL) (fun i x H H' hi hP hy => ?_) (fun H h => hd H h.1 (by rw [← hm]; exact h.2))
  obtain ⟨sm, eD⟩ := hP
  obtain ⟨rfl, hx⟩ := hy
  rw [hm] at hi
  rw [List.getElem?_map, List.getElem?_eq_getElem hi] at hx
  obtain rfl := Option.some.inj hx
  have hTi := hT i hi
  rw [List.getD_eq_getElem?_getD, List.getElem?_eq_getElem hi] at hTi
  refine ⟨ts[i], _, rfl, seqT sm hTi, rfl, _, _, rfl, _, _, rfl, rfl, ?_, ?_⟩
  · show (((((σ.set c2 none).set c1 none).set c1 (some (ps i).1)).set c2 (some (ps i).2)).set c2 none).set c1 none = (σ.set c2 none).set c1 none
    rw [List.set_set, List.set_set, List.set_comm _ _ hne, List.set_set, List.set_comm _ _ hne.symm, List.set_comm _ _ hne, List.set_set]
  · refine ht i H' _ hi sm fun H2 s2 => ?_
    cases hb : b i with
    | true =>
      rw [if_pos rfl]
      refine he i H2 _ hi (sm.trans s2) hb fun H3 s3 => ⟨_, s3 _ _ (s2 _ _ eD), ?_, ?_, ?_⟩
      · rw [List.length_map]
        have := List.length_filter_le b (List.range i)
        rw [List.length_range] at this
        omega
      · intro b' o hb'
        rw [upd_ne (ne_of_none hb' hD)]
        exact s3 _ _ (s2 _ _ (sm _ _ hb'))
      · rw [upd_same, List.range_succ, List.filter_append, List.map_append]
        simp [hb]
    | false =>
      rw [if_neg Bool.false_ne_true]
      refine ⟨sm.trans s2, ?_⟩
      rw [s2 _ _ eD, List.range_succ, List.filter_append, List.map_append]
      simp [hb]
end LH
namespace LH
open PySem PySem.Spec PyProof.Rows L2
section
variable {P : Program} {w : World} {K : PySem.W.Frag} {mg : Str → Option Value} {base : Heap} {k : Nat} {f : Addr} {fd : FuncData} {ps : List Str} {sp sp' : Sp} {CX : CXT}
/-- what lets nothing out may stand where something may be let out -/
theorem fn_toX (F : FnOk P w K mg base CX0 k f fd ps sp) : FnOk P w K mg base CX k f fd ps sp :=
  ⟨F.len, fun A outer s H args us vs Q E hr he hb hv hs => codeAny_mono (F.run A outer s H args us vs Q E hr he hb hv hs) fun r s' h => by
    cases r with
    | ok r => cases r <;> exact h
    | error e => exact h.elim⟩
/-- two promises of one def -/
theorem fn_or (F : FnOk P w K mg base CX k f fd ps sp) (G : FnOk P w K mg base CX k f fd ps sp') : FnOk P w K mg base CX k f fd ps (fun vs H Q E => sp vs H Q E ∨ sp' vs H Q E) :=
  ⟨fun vs H Q E h => h.elim (F.len vs H Q E) (G.len vs H Q E), fun A outer s H args us vs Q E hr he hb hv hs => hs.elim (F.run A outer s H args us vs Q E hr he hb hv) (G.run A outer s H args us vs Q E hr he hb hv)⟩
end
end LH

namespace LH
open PySem PySem.Spec PyProof.Rows L2
/-! ### small letters of great ones -/
def lowC (c : Nat) : Nat := if 65 ≤ c ∧ c ≤ 90 then c + 32 else c
theorem lower_C {c : Nat} (h : c < 128) : Unicode.lowerOf c = [lowC c] := by
  have : ∀ d : Fin 128, Unicode.lowerOf d.val = [lowC d.val] := by decide +kernel
  exact this ⟨c, h⟩
theorem lower_eq (x : Str) (h : ∀ c ∈ TL.tl x, c < 128) : TL.tl (Txt.lower x) = (TL.tl x).map lowC := by
  unfold Txt.lower
  rw [tl_placed, mapIdx_same (g := fun _ c => [lowC c]) _ fun i c hc => ?_]
  · generalize TL.tl x = l
    have : (l.mapIdx fun _ c => [lowC c]) = (l.map lowC).mapIdx fun _ c => [c] := by
      apply List.ext_getElem?
      intro i
      rw [List.getElem?_mapIdx, List.getElem?_mapIdx, List.getElem?_map]
      cases l[i]? <;> rfl
    rw [this, flat_one]
  · have hm := h c (List.mem_of_getElem? hc)
    unfold Unicode.lowerAt
    have ec : x.cps[i]? = some c := by rw [← hc]; exact Array.getElem?_toList.symm
    rw [ec]
    show (if (c == 0x3A3 && Unicode.endsWord x.cps i) = true then [0x3C2] else Unicode.lowerOf c) = [lowC c]
    have hb2 : (c == 0x3A3) = false := by simp; omega
    rw [hb2, Bool.false_and, if_neg Bool.false_ne_true]
    exact lower_C hm
theorem low_small {c : Nat} (h : 97 ≤ c ∧ c ≤ 122) : lowC c = c := by
  unfold lowC
  rw [if_neg (by omega)]
theorem low_cap : ∀ l : List Nat, Sm l → (cap l).map lowC = l
  | [], _ => rfl
  | c :: r, h => by
    have hc := h c (by simp)
    show lowC (c - 32) :: r.map lowC = c :: r
    have e : lowC (c - 32) = c := by unfold lowC; rw [if_pos (by omega)]; omega
    have er : r.map lowC = r := by
      have : ∀ l : List Nat, Sm l → l.map lowC = l := by
        intro l
        induction l with
        | nil => intro _; rfl
        | cons d r ih => intro h; rw [List.map_cons, low_small (h d (by simp)), ih fun x hx => h x (by simp [hx])]
      exact this r fun x hx => h x (by simp [hx])
    rw [e, er]
theorem joinL_map (f : Nat → Nat) (S : List Nat) : ∀ ps : List (List Nat), (TL.joinL S ps).map f = TL.joinL (S.map f) (ps.map fun p => p.map f)
  | [] => rfl
  | [p] => rfl
  | p :: q :: r => by
    have ih := joinL_map f S (q :: r)
    rw [TL.joinL, List.map_append, List.map_append, ih]
    rfl
theorem joinL_split (s : Nat) : ∀ l : List Nat, TL.joinL [s] (splitL s l) = l
  | [] => rfl
  | c :: r => by
    have ih := joinL_split s r
    have e := splitL_eta s r
    unfold splitL
    by_cases h : c = s
    · rw [if_pos h]
      generalize splitL s r = w at *
      cases w with
      | nil => exact nomatch e
      | cons x t =>
        rw [TL.joinL, ih, h]
        rfl
    · rw [if_neg h]
      generalize splitL s r = w at *
      cases w with
      | nil => exact nomatch e
      | cons x t =>
        show TL.joinL [s] ((c :: x) :: t) = c :: r
        rw [← ih]
        cases t with
        | nil => rfl
        | cons y t => rw [TL.joinL, TL.joinL]; rfl
theorem low_great {l : List Nat} (h : ∀ x ∈ splitL 45 l, Sm x) : (great l).map lowC = l := by
  unfold great
  rw [joinL_map, List.map_map]
  have e : (splitL 45 l).map ((fun p => p.map lowC) ∘ cap) = splitL 45 l := by
    have : ∀ ws : List (List Nat), (∀ x ∈ ws, Sm x) → ws.map ((fun p => p.map lowC) ∘ cap) = ws := by
      intro ws
      induction ws with
      | nil => intro _; rfl
      | cons x r ih => intro h; rw [List.map_cons, ih fun y hy => h y (by simp [hy])]; exact congrArg (· :: r) (low_cap x (h x (by simp)))
    exact this _ h
  rw [e]
  exact joinL_split 45 l
theorem great_length {l : List Nat} (h : ∀ x ∈ splitL 45 l, Sm x) : (great l).length = l.length := by
  have := congrArg List.length (low_great h)
  rwa [List.length_map] at this
/-! ### the beginning of a row that may be a name -/
def isLet (c : Nat) : Bool := (decide (97 ≤ c) && decide (c ≤ 122)) || (decide (65 ≤ c) && decide (c ≤ 90))
def nsig : Nat → Nat → List Nat → Nat
  | _, _, [] => 0
  | w, k, c :: r => if c = 45 ∧ 0 < k ∧ w < 3 then 1 + nsig (w + 1) 0 r else if isLet c = true ∧ k < 8 then 1 + nsig w (k + 1) r else 0
theorem let_no_dash {c : Nat} (h : isLet c = true) : c ≠ 45 ∧ c ≠ 58 ∧ c < 128 := by
  unfold isLet at h
  simp only [Bool.or_eq_true, Bool.and_eq_true, decide_eq_true_eq] at h
  omega
theorem nsig_word : ∀ (p r : List Nat) (w k : Nat), (∀ c ∈ p, isLet c = true) → k + p.length ≤ 8 → nsig w k (p ++ r) = p.length + nsig w (k + p.length) r
  | [], r, w, k, _, _ => by simp
  | c :: p, r, w, k, h, hl => by
    have hc := h c (by simp)
    have hd := let_no_dash hc
    rw [List.length_cons] at hl
    rw [List.cons_append, nsig, if_neg (fun z => hd.1 z.1), if_pos ⟨hc, by omega⟩, nsig_word p r w (k + 1) (fun x hx => h x (by simp [hx])) (by omega), List.length_cons, show k + 1 + p.length = k + (p.length + 1) by omega]
    omega
theorem nsig_join (r : List Nat) : ∀ (ps : List (List Nat)) (w : Nat), ps ≠ [] → w + ps.length ≤ 4 → (∀ p ∈ ps, (∀ c ∈ p, isLet c = true) ∧ 1 ≤ p.length ∧ p.length ≤ 8) → nsig w 0 (TL.joinL [45] ps ++ 58 :: r) = (TL.joinL [45] ps).length
  | [], _, h, _, _ => absurd rfl h
  | [p], w, _, _, h => by
    have hp := h p (by simp)
    show nsig w 0 (p ++ 58 :: r) = p.length
    rw [nsig_word p _ w 0 hp.1 (by omega), nsig, if_neg (fun z => absurd z.1 (by decide)), if_neg (fun z => absurd z.1 (by decide))]
    rfl
  | p :: q :: t, w, _, hl, h => by
    have hp := h p (by simp)
    rw [List.length_cons, List.length_cons] at hl
    have ih := nsig_join r (q :: t) (w + 1) (by simp) (by rw [List.length_cons]; omega) fun x hx => h x (List.mem_cons_of_mem _ hx)
    rw [TL.joinL, List.append_assoc, nsig_word p _ w 0 hp.1 (by omega)]
    show p.length + nsig w (0 + p.length) (45 :: (TL.joinL [45] (q :: t) ++ 58 :: r)) = (p ++ 45 :: TL.joinL [45] (q :: t)).length
    rw [nsig, if_pos ⟨rfl, by omega, by omega⟩, ih, List.length_append, List.length_cons]
    omega
/-! ### words each behind a blank -/
def spw (us : List (List Nat)) : List Nat := (us.map fun u => 32 :: u).flatten
theorem spw_app (a b : List (List Nat)) : spw (a ++ b) = spw a ++ spw b := by unfold spw; rw [List.map_append, List.flatten_append]
theorem spw_join (u : List Nat) : ∀ us : List (List Nat), spw (u :: us) = 32 :: TL.joinL [32] (u :: us)
  | [] => by simp [spw, TL.joinL]
  | v :: us => by
    have ih := spw_join v us
    have e : spw (u :: v :: us) = (32 :: u) ++ spw (v :: us) := by unfold spw; rw [List.map_cons, List.flatten_cons]
    rw [e, ih, TL.joinL]
    rfl
theorem words_spw (x : Str) (us : List (List Nat)) (hx : TL.tl x = spw us) (h : ∀ u ∈ us, WordL u) : (Txt.words x).map TL.tl = us := by
  rw [TL.words_tl, hx]
  cases us with
  | nil => rfl
  | cons u us =>
    rw [spw_join, List.foldl_cons]
    have e : TL.wstep ([], []) 32 = ([], []) := by
      unfold TL.wstep
      rw [if_pos (by decide +kernel), if_pos rfl]
    rw [e, TL.wfold_join _ _ (by simp) fun p hp => ⟨(h p hp).1, fun c hc => space_no ⟨((h p hp).2 c hc).1, ((h p hp).2 c hc).2.1⟩⟩, List.nil_append]
/-! ### a header's rows by their words -/
/-- the rows of a header: its first words behind the name, then rows of at least one word -/
def rowsBy (l : List Nat) (us0 : List (List Nat)) (uss : List (List (List Nat))) : List (List Nat) := (great l ++ 58 :: spw us0) :: uss.map spw
theorem hrows_by (l : List Nat) : ∀ ws : List (List Nat), ∃ us0 uss, hrows l ws = rowsBy l us0 uss ∧ us0 ++ uss.flatten = ws ∧ ∀ us ∈ uss, us ≠ [] := by
  refine foldl_rev_ind (P := fun ws => ∃ us0 uss, hrows l ws = rowsBy l us0 uss ∧ us0 ++ uss.flatten = ws ∧ ∀ us ∈ uss, us ≠ []) ⟨[], [], rfl, rfl, fun _ h => by cases h⟩ ?_
  rintro ws w ⟨us0, uss, e, ew, hne⟩
  unfold hrows at e ⊢
  rw [hfold_snoc]
  generalize hfold l ws = st at *
  obtain ⟨d, c⟩ := st
  unfold hstep
  by_cases h : 60 < c.length + 1 + w.length
  · rw [if_pos h]
    refine ⟨us0, uss ++ [[w]], ?_, ?_, ?_⟩
    · show (d ++ [c]) ++ [32 :: w] = _
      have e' : d ++ [c] = rowsBy l us0 uss := e
      rw [e']
      unfold rowsBy
      rw [List.map_append]
      simp [spw]
    · rw [List.flatten_append, ← List.append_assoc, ew]; simp
    · intro us hus
      rcases List.mem_append.mp hus with h | h
      · exact hne us h
      · rw [List.mem_singleton.mp h]; simp
  · rw [if_neg h]
    have e' : d ++ [c] = rowsBy l us0 uss := e
    rcases List.eq_nil_or_concat uss with rfl | ⟨t, u, rfl⟩
    · refine ⟨us0 ++ [w], [], ?_, ?_, fun _ h => by cases h⟩
      · show d ++ [c ++ 32 :: w] = _
        unfold rowsBy at e' ⊢
        have hd : d = [] := by
          cases d with
          | nil => rfl
          | cons x r => have := congrArg List.length e'; simp at this
        subst hd
        have hc : c = great l ++ 58 :: spw us0 := by simpa using e'
        rw [hc, spw_app]
        simp [spw]
      · rw [← ew]; simp
    · refine ⟨us0, t ++ [u ++ [w]], ?_, ?_, ?_⟩
      · show d ++ [c ++ 32 :: w] = _
        unfold rowsBy at e' ⊢
        rw [List.concat_eq_append, List.map_append, List.map_singleton, ← List.cons_append] at e'
        have h1 := List.append_inj' e' rfl
        have hc : c = spw u := by simpa using h1.2
        rw [List.map_append, List.map_singleton, ← List.cons_append, ← h1.1, hc, spw_app]
        simp [spw]
      · rw [← ew]; simp
      · intro us hus
        rcases List.mem_append.mp hus with h | h
        · exact hne us (by simp [h])
        · rw [List.mem_singleton.mp h]; simp
/-! ### one sign at a text's head -/
theorem starts_one (x y : Str) (s : Nat) (hy : TL.tl y = [s]) : Txt.startswith x y = decide ((TL.tl x)[0]? = some s) := by
  unfold Txt.startswith
  have hyl : y.length = 1 := by rw [TL.len_tl, hy]; rfl
  rw [PySem.StrLaws.subAt_eq, hyl, Bool.eq_iff_iff, Bool.and_eq_true, decide_eq_true_eq, decide_eq_true_eq]
  rw [show x.cps.toList = TL.tl x from rfl, show y.cps.toList = TL.tl y from rfl, hy, List.drop_zero, TL.len_tl]
  cases TL.tl x with
  | nil => simp
  | cons c r => simp
end LH

namespace LH
open PySem PySem.Spec PyProof.Rows L2
/-! ### a text parted at a sign -/
theorem part_at (x y : Str) (c : Nat) (p r : List Nat) (hy : TL.tl y = [c]) (hx : TL.tl x = p ++ c :: r) (hp : c ∉ p) : TL.tl (Txt.partition x y).1 = p ∧ TL.tl (Txt.partition x y).2.2 = r := by
  obtain rfl : y = ⟨#[c]⟩ := TL.ext_tl hy
  have hm0 : x.cps.toList[p.length]? = some c := by
    show (TL.tl x)[p.length]? = some c
    rw [hx]; simp
  have hn0 : ∀ k, k < p.length → x.cps.toList[k]? ≠ some c := fun k hk e => by
    have e' : (TL.tl x)[k]? = some c := e
    rw [hx, List.getElem?_append_left hk] at e'
    exact hp (List.mem_of_getElem? e')
  have hlen : x.length = p.length + (r.length + 1) := by rw [TL.len_tl, hx, List.length_append, List.length_cons]
  unfold Txt.partition
  rcases StrLaws.occ_head x ⟨#[c]⟩ 1 (Nat.le_refl 1) with ⟨h0, hn⟩ | ⟨i, q, h0, hi, hn⟩
  · exact absurd ((StrLaws.subAt_one x c p.length).mpr hm0) (hn _)
  · rw [h0]
    have hm := (StrLaws.subAt_one x c i).mp hi
    have e : i = p.length := by
      rcases Nat.lt_trichotomy i p.length with h | h | h
      · exact absurd hm (hn0 i h)
      · exact h
      · exact absurd ((StrLaws.subAt_one x c p.length).mpr hm0) (hn _ h)
    subst e
    constructor
    · show (Builtin.Str.strSub x 0 p.length).cps.toList = p
      rw [StrLaws.strSub_toList]
      show ((TL.tl x).drop 0).take (p.length - 0) = p
      rw [hx]; simp
    · show (Builtin.Str.strSub x (p.length + 1) x.length).cps.toList = r
      rw [StrLaws.strSub_toList]
      show ((TL.tl x).drop (p.length + 1)).take (x.length - (p.length + 1)) = r
      rw [hx, hlen, show p.length + 1 = p.length + 1 from rfl, List.drop_append, List.drop_of_length_le (by omega)]
      simp
      rw [List.take_of_length_le (by omega)]
theorem part_lens (x y : Str) : (Txt.partition x y).1.length ≤ x.length ∧ (Txt.partition x y).2.2.length ≤ x.length := ⟨(fact_partition x y).1, (fact_partition x y).2.2⟩
/-- str.join inside a comprehension's block -/
theorem pe_joinK {X : Cx} {o e : Expr} {to te : TE} (K : PySem.W.Frag) {apos pos : Pos} (ho : PE X o to) (he : PE X e te) (h : X.K = K := by rfl) (hs : starEach [e] X.env = [(false, eval e X.env)] := by rfl) (hbase : attributeBase o "join" X.env (eval o X.env) = eval o X.env := by rfl) (hline : (apos.endLine == pos.line) = true := by rfl) :
    PE X (.Call (.Attribute o "join" apos) [e] [] pos) (tM1 (fun x xs H Q => ∃ a p, ∃ ys : List Str, x = .str a ∧ xs = [.ref p] ∧ (SqL K H p (ys.map V.str) ∨ SqT K H p (ys.map V.str)) ∧
      (ys.map (·.length)).sum + ys.length * a.length ≤ 16777216 ∧ Q (.str (Txt.join a ys)) H) to te) := by
  subst h
  exact pe_join ho he hs hbase hline
/-! ### a comprehension over a list of pairs that tells a new tuple of each -/
theorem lc_tups {K : PySem.W.Frag} {a : Addr} {ts : List Addr} {ps : Nat → V × V} {te : TE} {c1 c2 : Nat} {σ : L2.St} {H1 : Hp} {D : Addr} {Qd : Hp → Prop} (g : Nat → List V) (hne : c1 ≠ c2) (hL : SqL K H1 a (ts.map V.ref)) (hT : ∀ i, i < ts.length → SqT K H1 (ts.getD i 0) [(ps i).1, (ps i).2])
    (hD : H1 D = none) (hn : ts.length ≤ sizeLine)
    (he : ∀ i H Q, i < ts.length → Same H1 H → (∀ p H', Same H H' → H p = none → H' p = some (.tup (g i)) → Q (.ref p) H') → te ((((σ.set c2 none).set c1 none).set c1 (some (ps i).1)).set c2 (some (ps i).2)) H Q)
    (hd : ∀ H (us : List Addr), Same H1 H → us.length = ts.length → (∀ i, i < ts.length → H (us.getD i 0) = some (.tup (g i))) → H D = some (.lst (us.map V.ref)) → Qd H) :
    ∃ W : Nat → Nat → Hp → Prop, (∃ m, W 0 m (upd H1 D (.lst []))) ∧ ∀ i m H, W i m H →
      ((Itl K a).stop i H ∧ Qd H) ∨ ((Itl K a).go i H ∧ ∃ Nx : Hp → Prop, (∀ H', Nx H' → ∃ m', m' < m ∧ W (i + 1) m' H') ∧ ∀ x H', (Itl K a).yld i H x H' → gTup K 2 (gCons (gName c1) (gCons (gName c2) gNil)) x (wipe σ [c1, c2]) H' fun σ2 H2 => wipe σ2 [c1, c2] = wipe σ [c1, c2] ∧ tYes σ2 H2 fun b H3 =>
        if b = true then te σ2 H3 fun y H4 => ∃ acc, H4 D = some (.lst acc) ∧ acc.length < sizeLine ∧ Nx (upd H4 D (.lst (acc ++ [y]))) else Nx H3) := by
  have hm : (ts.map V.ref).length = ts.length := List.length_map ..
  refine lc_it walk_list (fun i H => Same H1 H ∧ ∃ us : List Addr, us.length = i ∧ (∀ j, j < i → H (us.getD j 0) = some (.tup (g j))) ∧ H D = some (.lst (us.map V.ref))) ⟨same_upd hD, [], rfl, fun j hj => absurd hj (Nat.not_lt_zero j), upd_same⟩ (fun i H _ h => h.1.seq hL) (fun i x H H' hi hP hy => ?_) (fun H h => by
    obtain ⟨sm, us, hl, hu, e⟩ := h
    rw [hm] at hl hu
    exact hd H us sm hl hu e)
  obtain ⟨sm, us, hl, hu, eD⟩ := hP
  obtain ⟨rfl, hx⟩ := hy
  rw [hm] at hi
  rw [List.getElem?_map, List.getElem?_eq_getElem hi] at hx
  obtain rfl := Option.some.inj hx
  have hTi := hT i hi
  rw [List.getD_eq_getElem?_getD, List.getElem?_eq_getElem hi] at hTi
  refine ⟨ts[i], _, rfl, seqT sm hTi, rfl, _, _, rfl, _, _, rfl, rfl, ?_, ?_⟩
  · show (((((σ.set c2 none).set c1 none).set c1 (some (ps i).1)).set c2 (some (ps i).2)).set c2 none).set c1 none = (σ.set c2 none).set c1 none
    rw [List.set_set, List.set_set, List.set_comm _ _ hne, List.set_set, List.set_comm _ _ hne.symm, List.set_comm _ _ hne, List.set_set]
  · refine he i H' _ hi sm fun p H3 s3 np e3 => ⟨_, s3 _ _ eD, ?_, ?_, us ++ [p], ?_, ?_, ?_⟩
    · rw [List.length_map]; omega
    · intro b' o hb'
      rw [upd_ne (ne_of_none hb' hD)]
      exact s3 _ _ (sm _ _ hb')
    · rw [List.length_append, hl]; rfl
    · intro j hj
      have hDt : ∀ q xs, H3 q = some (.tup xs) → q ≠ D := fun q xs e z => by
        rw [z, s3 _ _ eD] at e
        exact nomatch e
      by_cases hj2 : j < i
      · rw [getD_app_l _ _ _ (by omega)]
        have e4 := s3 _ _ (hu j hj2)
        rw [upd_ne (hDt _ _ e4)]
        exact e4
      · have : j = i := by omega
        subst this
        rw [getD_app_r _ _ _ (by omega), hl, Nat.sub_self]
        show upd H3 D _ p = _
        rw [upd_ne (hDt _ _ e3)]
        exact e3
    · rw [upd_same, List.map_append]
      rfl
end LH

namespace LH
open PySem PySem.Spec PyProof.Rows L2
/-! ### what isinstance and except say of the program's own classes -/
section
variable {K : PySem.W.Frag} {C D : Addr} {b : Bool}
theorem kit_cls' (ic : PySem.W.isClsIn K D = true) (tp : PySem.W.typeIn K (.ref D) = some (.type "type")) (sub : PySem.W.subIn K (.ref C) (.ref D) = some b) : PySem.W.kitCls K (.ref C) (.ref D) = some b := by
  have h : ((PySem.W.clsIn K D).isSome && PySem.W.typeIn K (.ref D) == some (.type "type")) = true := by
    rw [tp]
    exact Bool.and_eq_true_iff.mpr ⟨ic, beq_iff_eq.mpr rfl⟩
  show (if ((PySem.W.clsIn K D).isSome && PySem.W.typeIn K (.ref D) == some (.type "type")) = true then PySem.W.subIn K (.ref C) (.ref D) else none) = some b
  rw [if_pos h]
  exact sub
theorem exm_ref (hb : PySem.W.subIn K (.ref D) (.type "BaseException") = some true) (ic : PySem.W.isClsIn K D = true) (tp : PySem.W.typeIn K (.ref D) = some (.type "type")) (sub : PySem.W.subIn K (.ref C) (.ref D) = some b) : PySem.W.exmOne K (.ref C) (.ref D) = some b := by
  unfold PySem.W.exmOne
  rw [hb, if_pos (beq_iff_eq.mpr rfl)]
  exact kit_cls' ic tp sub
theorem kit_ref (ic : PySem.W.isClsIn K D = true) (tp : PySem.W.typeIn K (.ref D) = some (.type "type")) (sub : PySem.W.subIn K (.ref C) (.ref D) = some b) (h : (C == D) = b ∨ b = true) : PySem.W.kitOne K (.ref C) (.ref D) = some b := by
  unfold PySem.W.kitOne
  by_cases e : (Value.ref C == Value.ref D) = true
  · rw [if_pos e]
    have e' : C = D := Value.ref.inj (beq_iff_eq.mp e)
    rcases h with h | h
    · rw [e', beq_self_eq_true] at h
      rw [← h]
    · rw [h]
  · rw [if_neg e]
    exact kit_cls' ic tp sub
theorem kit_base (sub : PySem.W.subIn K (.ref C) (.type "ValueError") = some true) : PySem.W.kitOne K (.ref C) (.type "ValueError") = some true := by
  unfold PySem.W.kitOne
  by_cases e : (Value.ref C == Value.type "ValueError") = true
  · rw [if_pos e]
  · rw [if_neg e]
    show (if PySem.W.kitMeta "ValueError" = true then PySem.W.subIn K (.ref C) (.type "ValueError") else none) = some true
    rw [if_pos (by decide +kernel)]
    exact sub
end
end LH

set_option maxHeartbeats 2000000
namespace LH
open PySem PySem.Spec PySem.Calls PyProof.Rows L2
open PySem.Builtin PySem.Builtin.ObjectAttr PySem.Builtin.Getset_descriptor
open PySem.W (Frag clsIn findIn subIn typeIn nsIn keepIn codeIn hasDictIn mroIn ksFn ksEnv ks_superIn excInitIn excOver takerIn ks_superObj kxs_mw excObj excTup InstAt dictOf findCls readsIn findObj looks_findIn looks_find looks_typeIn looks_subIn)
abbrev bmV : List Value := [.type "ValueError", .type "Exception", .type "BaseException", .type "object"]
/-! ### an own exception whose base's __init__ is super().__init__(why), self.kind = self.__class__.__name__.lower() -/
section
variable {prog : Program} {w : World} {A : Around} {E : Value → Shared → Prop} {R : Result → Shared → Prop} {K : Frag} {s : Shared} {C x : Addr} {ox : Obj} {odx : Option Obj}
/-- x.__class__ of an error -/
theorem err_class {expr : Bool} {Q : Value → Shared → Prop} (X : K.In s.heap) (I : InstAt s.heap x ox C odx) (T : ExcC K C) (hcl : (clsIn K C).isSome = true) (h : Q (.ref C) { s with toks := s.toks + 1 }) :
    wpAny (model prog w) A (getAttr (.ref x) "__class__" expr) Q E s := by
  obtain ⟨h0, gs, dr, n, o⟩ := s
  let M := model prog w
  have bga : (Value.builtin "BaseException.__getattribute__" == Value.builtin "object.__getattribute__") = false := by decide +kernel
  have hop : (expr && onTheHeap (Value.builtin "BaseException.__getattribute__")) = false := Bool.and_false _
  have ofC : PySem.W.Looks M h0 (typeOf (.ref x)) (.ref C) := I.type
  have isE : PySem.W.Looks M h0 (isInstance (.ref x) (.type "BaseException")) true := ofC.andThen (looks_subIn X T.hs)
  have slot := looks_find (M := M) X I (PySem.W.findObj_dataE (od := odx) hcl T.ha T.hn T.ht)
  -- what BaseException.__getattribute__ comes to at x
  have inner : ∀ (B : Around) (P G : Value → Shared → Prop), P (.ref C) ⟨h0, gs, dr, n + 1, o⟩ → wpAny M B (call (.builtin "BaseException.__getattribute__") [.ref x, .str "__class__" n]) P G ⟨h0, gs, dr, n + 1, o⟩ := fun B P G hP => by
    refine wpAny_call (codeAny_call_builtin PySem.F.excAttr_ValueError.ga.plain PySem.F.entry_bexc_ga (@PySem.W.check_slot M _ _ ⟨h0, gs, dr, n + 1, o⟩ "BaseException.__getattribute__" "BaseException" "__getattribute__" (.ref x) [.str "__class__" n] [] _ (by decide +kernel) (by decide +kernel) isE (PySem.F.args_bexc_ga _ _) ?_))
    show wpAny _ _ (Builtin.«object.__getattribute__» _) _ _ _
    unfold Builtin.«object.__getattribute__»
    refine wpAny_bind (wpAny_of_eq (a := ((Value.ref x : Value), [Value.str "__class__" n])) rfl (wpAny_bind (wpAny_pure (wpAny_bind (ofC.at (wpAny_bind (slot.at ?_)))))))
    exact wpAny_bind (wpAny_holding (wpAny_call (PySem.W.class_get (s := ⟨h0, gs, dr, n + 1, o⟩) (ox := ox) (od := odx) X I T.hm (wpAny_pure hP))))
  unfold getAttr getAttrBy
  refine wpAny_bind (wpAny_mkText (wpAny_holding (wpAny_bind (ofC.at (wpAny_bind ((looks_findIn (M := M) X T.hg).at ?_))))))
  dsimp only
  rw [if_neg (show ¬ (onTheHeap (Value.ref C) && Value.builtin "BaseException.__getattribute__" == Value.builtin "object.__getattribute__") = true from by rw [bga, Bool.and_false]; exact Bool.false_ne_true)]
  unfold getAttrByItsOwn hookBefore callGetattribute boundAndCalled
  rw [if_pos (show onTheHeap (Value.ref C) = true from rfl), hop, PySem.F.excAttr_ValueError.ga.bind (.ref x)]
  refine wpAny_bind ((looks_findIn (M := M) X T.hk).at (wpAny_bind (wpAny_attempt (wpAny_holding ?_))))
  rw [if_neg Bool.false_ne_true]
  refine wpAny_bind (wpAny_pure (inner _ _ _ ?_))
  show wpAny _ _ (handedOut (.ref C)) _ _ _
  rw [PySem.W.handedOut_of (show PySem.W.handedIn (.ref C) = true from rfl)]
  exact wpAny_pure h
theorem dga_ref (d tp : Value) (C : Addr) : descrGetArgs ⟨[d, .ref C, tp], []⟩ = pure (d, some (.ref C), (if tp == .none then none else some tp)) := by kernel_rfl
theorem name_get {tp : Value} {od : Option Addr} {cd : ClassData} {sl : Array (Option Value)} {nm : Str} {tk : Tok} (X : K.In s.heap) (hc : K.lookup C = some ⟨.type "type", od, .cls cd, sl⟩) (hs : sl[2]? = some (some (.str nm tk))) (h : R (.ok (.ret (.str nm tk))) s) :
    codeAny (model prog w) A (.call (.builtin "getset_descriptor.__get__") ⟨[.builtin "type.__name__", .ref C, tp], []⟩) R s := by
  have ho := X _ _ hc
  obtain ⟨hh, g, dr, t, os⟩ := s
  have L0 : PySem.W.Looks (model prog w) hh (typeOf (.ref C)) (.type "type") := looks_typeIn X (by show Option.map (fun x => x.cls) (List.lookup C K) = _; rw [hc]; rfl)
  have L1 : PySem.W.Looks (model prog w) hh (isSubtype (.type "type") (.type "type")) true := PySem.W.Looks.of_pure (by rw [isSubtype_type]; kernel_rfl)
  refine codeAny_call_builtin PySem.W.KF.slot_gs.plain PySem.W.KF.entry_gs (PySem.W.KF.slot_gs.check _ _ _ _ _ _ _ _ PySem.W.ktyn_type (PySem.W.KF.args_gs _ _ _) ?_)
  unfold Builtin.«getset_descriptor.__get__» descrGet
  rw [dga_ref]
  refine wpAny_bind (wpAny_pure ?_)
  unfold descrGetter descrCheckInstance descrNameAndClass isInstance
  simp only [PySem.W.ktyn_owner]
  repeat lk
  refine ⟨Code.quiet_builtin _ (by decide +kernel), codeAny_builtin PySem.W.ktyn_entry ?_⟩
  unfold Builtin.«type.__name__»
  dsimp only
  unfold keptObject slotAt
  dsimp only
  refine wpAny_bind (wpAny_bind (wpAny_loadPart_at ho (wpAny_pure ?_)))
  dsimp only
  rw [hs]
  dsimp only [Option.join, Option.bind, _root_.id]
  first | exact wpAny_bind (wpAny_pure h) | exact wpAny_pure h | (repeat lk; exact h)
theorem cls_name {expr : Bool} {Q : Value → Shared → Prop} {od : Option Addr} {cd : ClassData} {sl : Array (Option Value)} {nm : Str} {tk : Tok} (X : K.In s.heap) (hr : readsIn K C (.type "type") = true)
    (e : findCls K (.ref C) (.type "type") "__name__" = some (.get (.builtin "getset_descriptor.__get__") (.builtin "type.__name__") (.ref C) (.type "type"))) (hc : K.lookup C = some ⟨.type "type", od, .cls cd, sl⟩) (hs : sl[2]? = some (some (.str nm tk)))
    (h : Q (.str nm tk) { s with toks := s.toks + 1 }) : wpAny (model prog w) A (getAttr (.ref C) "__name__" expr) Q E s := by
  refine PySem.W.cls_bind X hr e (wpAny_call (name_get (s := { s with toks := s.toks + 1 }) X hc hs ?_))
  exact PySem.W.handed_on rfl h
end
structure HePos where
  (a1 a2 a3 s0 s1 s2 s3 s4 n0 l0 l1 l2 l3 l4 l5 l6 l7 : Pos)
  (u0 : Nat)
def hA (P : HePos) : Arguments := { posonlyargs := [], args := [{ arg := "self", annotation := none, pos := P.a1 }, { arg := "why", annotation := none, pos := P.a2 }], vararg := none, kwonlyargs := [], kw_defaults := [], kwarg := none, defaults := [.Constant (.str "") P.u0 P.a3] }
def hB (P : HePos) : List Stmt :=
  [.Expr (.Call (.Attribute (.Call (.Name "super" P.s0) [] [] P.s1) "__init__" P.s2) [.Name "why" P.n0] [] P.s3) P.s4,
   .Assign [.Attribute (.Name "self" P.l0) "kind" P.l1] (.Call (.Attribute (.Attribute (.Attribute (.Name "self" P.l2) "__class__" P.l3) "__name__" P.l4) "lower" P.l5) [] [] P.l6) P.l7]
def hS : Scope := { kind := .function, names := [("self", .local), ("why", .local), ("__class__", .free), ("super", .globalImplicit)], isGenerator := false, isCoroutine := false, more := [] }
/-- what the written part says of the class at C, whose base at D is made by the __init__ at fH; kd: the text of its kind -/
structure HeTxt (prog : Program) (K : Frag) (C D fH cc cda : Addr) (kd : Str) : Prop where
  exi : excInitIn K C bmV "ValueError.__new__" = true
  exo : excOver K C bmV = true
  sa : findIn K (.ref C) "__setattr__" = some (some (.builtin "object.__setattr__"))
  tkk : takerIn K C "kind" = some none
  hdC : hasDictIn K C = true
  tyf : typeIn K (.ref fH) = some (.type "function")
  fn : ∃ (oc : Value) (od : Option Addr) (kV doc pm : Value) (an : Option Addr) (ct : Value) (osl : Array (Option Value)) (P : HePos) (T : Addr) (o : Obj) (dv : Value) (m : Nat),
    K.lookup fH = some ⟨oc, od, .func (ksFn "__init__" "HouseError.__init__" (hA P) (hB P) hS (.ref T) kV doc pm an (.ref cda) ct cc), osl⟩ ∧ codeIn K (.ref cda) "HouseError.__init__" = true ∧ (P.s2.endLine == P.s3.line) = true ∧ (P.l5.endLine == P.l6.line) = true ∧
    K.lookup T = some o ∧ o.data = .seq #[dv] m
  code : ∃ (ccl : Value) (cdd : Option Addr) (vs : Array Value) (ccs : Array (Option Value)) (file : Str) (tf : Tok), K.lookup cda = some ⟨ccl, cdd, .fields vs, ccs⟩ ∧ vs[2]? = some (.str file tf) ∧ ((prog.main.file : Str) == file) = true
  cell : ∃ (cl : Value) (cld : Option Addr) (csl : Array (Option Value)), K.lookup cc = some ⟨cl, cld, .cell (some (.ref D)), csl⟩
  icD : PySem.W.isClsIn K D = true
  sub : mroIn K C (.ref D) = some true
  sup : nsIn K mainGlobals "super" = some none
  top : (prog.main.scope.names.lookup ("super" : Str)).isSome = false
  thp : nsIn K cStatics "thirdparty.any" = some none
  supI : ks_superIn K C D "__init__" = some (some (.builtin "ValueError.__init__"))
  subV : subIn K (.ref C) (.type "ValueError") = some true
  ec : ExcC K C
  icC : PySem.W.isClsIn K C = true
  rd : readsIn K C (.type "type") = true
  fnm : findCls K (.ref C) (.type "type") "__name__" = some (.get (.builtin "getset_descriptor.__get__") (.builtin "type.__name__") (.ref C) (.type "type"))
  nam : ∃ (od : Option Addr) (cd : ClassData) (sl : Array (Option Value)) (nm : Str) (tk : Tok), K.lookup C = some ⟨.type "type", od, .cls cd, sl⟩ ∧ sl[2]? = some (some (.str nm tk)) ∧ nm.length ≤ 5592405 ∧ Txt.lower nm = kd
section
variable {prog : Program} {w : World} {A : Around} {E : Value → Shared → Prop} {R : Result → Shared → Prop} {K : Frag} {mg : Str → Option Value} {C D fH cc cda x : Addr} {kd : Str} {hp : Heap}
theorem one_le (v : Value) : [v].length ≤ sizeLine := by rw [sizeLine_eq]; show 1 ≤ 16777216; decide
/-- super(), in the __init__ of such a class -/
theorem he_super (T : HeTxt prog K C D fH cc cda kd) (M : Mod K mg hp) {s : Shared} {L : Addr} {m : Str → Option Value} {news : List (Addr × Obj)} (F : Fr hp L s.heap m) (N : News hp L s.heap news) {ox : Obj} {odx : Option Obj} (I : InstAt s.heap x ox C odx) (hv : m "self" = some (.ref x))
    {P : HePos} {p0 p1 : Pos} {whole : Sem Value} {Q : Value → Shared → Prop}
    (h : ∀ so h', Fr hp L h' m → News hp L h' ((so, ks_superObj D x C) :: news) → (∀ p ∈ news, p.1 < so) → Q (.ref so) { s with heap := h' }) :
    PySem.wpAt (model prog w) A (.func (hB P) (ksEnv "HouseError.__init__" hS L fH (.ref cda) cc)) (attributeBase (.Call (.Name "super" p0) [] [] p1) "__init__" (ksEnv "HouseError.__init__" hS L fH (.ref cda) cc) whole) Q E s := by
  have X : K.In s.heap := M.kin.keeps F.keep
  obtain ⟨oc, od, kV, doc, pm, an, ct, osl, P', T', o', its, mm, hf, hcd, _⟩ := T.fn
  obtain ⟨ccl, cdd, vs, ccs, file, tf, hcode, hvs, hfile⟩ := T.code
  obtain ⟨cl, cld, csl, hcell⟩ := T.cell
  obtain ⟨mb, hb, hbb⟩ := M.blt
  obtain ⟨cdD, hD⟩ : ∃ cdD, clsIn K D = some cdD := Option.isSome_iff_exists.mp T.icD
  obtain ⟨hh, g, d, t, os⟩ := s
  have ⟨oD, hD1, hD2⟩ : ∃ o : Obj, hh.get? D = some o ∧ o.data = .cls cdD := by
    unfold PySem.W.clsIn at hD
    split at hD
    · rename_i ho; cases hD; exact ⟨_, X _ _ ho, rfl⟩
    · cases hD
  have noc : ∀ c, ox.data ≠ .cls c := fun c e => by
    have q := I.no
    unfold PySem.W.notCls at q
    rw [e] at q
    exact Bool.noConfusion q
  have last : wpAny (model prog w) A (call (.type "super") [.ref D, .ref x]) Q E ⟨hh, g, d, t, os⟩ := PySem.ks_wpAny_call_super hD1 hD2 I.at_ I.cls noc (PySem.W.looks_mroIn X T.sub) fun h' e k => by
    obtain ⟨F', N', l'⟩ := PySem.W.ks_newsPush (s := ⟨hh, g, d, t, os⟩) F N rfl e k
    exact h _ _ F' N' l'
  have self' : wpAny (model prog w) A (loadName (ksEnv "HouseError.__init__" hS L fH (.ref cda) cc) "self") (fun self s₃ => wpAny (model prog w) A (isType (.ref D)) (fun b s₄ => b = true ∧ wpAny (model prog w) A (call (.type "super") [.ref D, self]) Q E s₄) E s₃) E ⟨hh, g, d, t, os⟩ :=
    wpAny_loadName_local rfl rfl F.ns hv (PySem.ks_wpAny_isType_cls hD1 hD2 ⟨rfl, last⟩)
  refine PySem.ks_wpAt_super_base (env := ksEnv "HouseError.__init__" hS L fH (.ref cda) cc) rfl rfl (by decide) rfl (X _ _ hf) rfl rfl rfl (X _ _ hcode) rfl hvs hfile T.top ?_
  refine PySem.W.ks_loadName_global rfl rfl (loadGlobal_builtin (env := ksEnv "HouseError.__init__" hS L fH (.ref cda) cc) (M.glob.keeps F.keep) (PySem.W.mg_none_of M.kin M.glob T.sup) (hb.keeps F.keep) ((hbb _ (by decide +kernel)).trans (by decide +kernel)) ⟨rfl, ?_⟩)
  exact wpAny_loadName_free rfl rfl rfl ⟨_, X _ _ hcell, rfl⟩ self'
/-- HouseError.__init__ at a fresh exception x of the class at C -/
theorem he_init (T : HeTxt prog K C D fH cc cda kd) (M : Mod K mg hp) {s : Shared} (hk : ∀ b o, hp.get? b = some o → s.heap.get? b = some o) (hsz : hp.objs.size ≤ s.heap.objs.size) {t0 : Addr} (hx : s.heap.get? x = some (excObj C t0 none .none)) (hx0 : hp.get? x = none)
    {a : Value} (hroom : A.depth < recursionLimit)
    (hq : ∀ h' tk t1 dx q1 tk1, (∀ b o, hp.get? b = some o → h'.get? b = some o) → h'.get? x = some (excObj C t1 (some dx) .none) → x < dx → hp.get? dx = none →
      h'.get? dx = some (dictOf [⟨PyData.keyHash w.params "kind", .str "kind" q1, .str kd tk1⟩] 1) → R (.ok (.ret .none)) { s with heap := h', toks := tk }) :
    codeAny (model prog w) A (.call (.ref fH) ⟨[.ref x, a], []⟩) R s := by
  obtain ⟨oc, od, kV, doc, pm, an, ct, osl, P, T0, o0, its, mm, ho, hcd, hs, hs2, hT0, hT1⟩ := T.fn
  obtain ⟨odn, cdn, sln, nm, tkn, hcn, hsn, hln, hkd⟩ := T.nam
  have X := M.kin.keeps hk
  refine PySem.ks_codeAny_call_defAt (fd := ksFn "__init__" "HouseError.__init__" (hA P) (hB P) hS (.ref T0) kV doc pm an (.ref cda) ct cc) (body := hB P) (binds := [("self", .ref x), ("why", a)]) hroom (X _ _ ho) rfl (M.nolimit.keeps hk) (PySem.W.codeRec_of X hcd) rfl (BindsTo.of_defaults (fd := ksFn "__init__" "HouseError.__init__" (hA P) (hB P) hS (.ref T0) kV doc pm an (.ref cda) ct cc) rfl (X _ _ hT0) hT1 rfl rfl) (show ∀ y ∈ hS.names, y.2 ≠ .cell by decide) (fun y hy => by simp only [List.mem_cons, List.mem_nil_iff, or_false] at hy; rcases hy with rfl | rfl <;> rfl) (fun h₁ hn k₁ => ?_) rfl rfl rfl
  have F : Fr hp s.heap.objs.size h₁ (fun y => ([("self", Value.ref x), ("why", a)] : List (Str × Value)).reverse.lookup y) := ⟨hn, fun b o e => k₁ b o (hk b o e), hsz⟩
  have N : News hp s.heap.objs.size h₁ [(x, excObj C t0 none .none)] := fun p hp' => by
    obtain rfl := List.mem_singleton.mp hp'
    exact ⟨k₁ _ _ hx, Nat.ne_of_lt (Heap.lt_size hx), hx0⟩
  show PySem.wpAt (model prog w) (A.deeper (ksEnv "HouseError.__init__" hS s.heap.objs.size fH (.ref cda) cc)) (.func (hB P) (ksEnv "HouseError.__init__" hS s.heap.objs.size fH (.ref cda) cc)) (execs (hB P) (ksEnv "HouseError.__init__" hS s.heap.objs.size fH (.ref cda) cc)) _ _ _
  have m1 : (x, excObj C t0 none .none) ∈ [(x, excObj C t0 none .none)] := List.mem_singleton.mpr rfl
  refine PySem.ks_wpAt_execs_cons (PySem.ks_wpAt_Expr_any (PySem.ks_wpAt_MethodCall (pl := do return (← importBound (.Call (.Name "super" P.s0) [] [] P.s1) (ksEnv "HouseError.__init__" hS s.heap.objs.size fH (.ref cda) cc)).getD true) (he_super T M F N (PySem.W.InstAt.of_exc0 N m1) rfl fun so h2 F2 N2 l2 => ?_) ?_))
  rotate_left
  · rw [arm_eval_Call]
    unfold methodCall methodCallPos
    simp only [hs, Bool.or_true, if_true, pure_bind]
    rfl
  have m2 : (x, excObj C t0 none .none) ∈ [(so, ks_superObj D x C), (x, excObj C t0 none .none)] := by simp
  refine PySem.W.kxs_method PySem.W.kxs_ValueError F2 M.kin N2 (List.mem_cons_self ..) (PySem.W.InstAt.of_exc0 N2 m2) T.thp T.supI T.subV (by decide) fun q h3 F3 N3 l3 => ?_
  refine PySem.W.kxs_callWith1 N3 (List.mem_cons_self ..) ?_
  refine spliced_more (wpAny_Name (wpAny_loadName_local rfl rfl F3.ns rfl (spliced_none ⟨PySem.W.kxs_at N3 (List.mem_cons_self ..), ?_⟩)) (by decide))
  have nq : q ≠ x := fun e => Nat.lt_irrefl _ (by have := l3 _ m2; rw [e] at this; exact this)
  have ns : so ≠ x := fun e => Nat.lt_irrefl _ (by have := l2 _ m1; rw [e] at this; exact this)
  refine PySem.W.kxs_call F3 M.kin N3 PySem.F.excBase_ValueError T.exi (List.mem_cons_self ..) (.tail nq (.tail ns (.head (fun _ h => nomatch h)))) (LH.one_le _) fun t1 h4 F4 N4 l4 => ?_
  have N5 : News hp s.heap.objs.size h4 [(x, excObj C t1 none .none)] := fun p hp2 => N4 p (by rw [List.mem_singleton.mp hp2]; simp)
  have mx : (x, excObj C t1 none .none) ∈ [(x, excObj C t1 none .none)] := List.mem_singleton.mpr rfl
  refine wpAt_of_wpAny (wpAny_execs_cons (plainObj_wpAny_Assign_Attribute ?_))
  refine J1.ev_lower rfl hs2 ?_
  refine attr_of rfl (attr_of rfl (wpAny_Name (wpAny_loadName_local rfl rfl F4.ns rfl ?_) (by decide)))
  refine err_class (M.kin.keeps F4.keep) (PySem.W.InstAt.of_exc0 N5 mx) T.ec T.icC ?_
  refine cls_name (M.kin.keeps F4.keep) T.rd T.fnm hcn hsn ⟨nm, tkn, rfl, hln, fun tk1 tk2 => ?_⟩
  rw [hkd]
  refine wpAny_Name (wpAny_loadName_local rfl rfl F4.ns rfl ?_) (by decide)
  refine PySem.W.set_exc0 (es' := [⟨PyData.keyHash w.params "kind", .str "kind" _, .str kd tk1⟩]) (n' := 1) PySem.F.store_ValueError F4 M.kin N5 mx T.sa T.exo T.tkk T.hdC rfl (.head (fun _ h => nomatch h)) (show 1 ≤ 1000 by decide) fun dx h6 F6 N6 l6 => ?_
  have xdx : x < dx := l6 _ (List.mem_singleton.mpr rfl)
  refine wpAny_execs_nil ?_
  have q1 := N6 _ (.tail _ (List.mem_singleton.mpr rfl))
  have q2 := N6 _ (List.mem_cons_self ..)
  exact hq h6 _ t1 dx _ tk1 F6.keep q1.1 xdx q2.2.2 q2.1
end
end LH

set_option maxHeartbeats 2000000
namespace LH
open PySem PySem.Spec PySem.Calls PyProof.Rows L2
open PySem.W (Frag clsIn findIn subIn typeIn nsIn keepIn codeIn hasDictIn mroIn ksFn ksEnv ks_superIn excInitIn excOver takerIn ks_superObj kxs_mw excObj excTup InstAt dictOf methodObj)
/-! ### an own exception with the __init__ of a class above it: super().__init__(text), self.line, self.place -/
def iA (p1 p2 p3 : Pos) : Arguments := { posonlyargs := [], args := [{ arg := "self", annotation := none, pos := p1 }, { arg := "line", annotation := none, pos := p2 }, { arg := "place", annotation := none, pos := p3 }], vararg := none, kwonlyargs := [], kw_defaults := [], kwarg := none, defaults := [] }
structure WrPos where
  (a1 a2 a3 s0 s1 s2 s3 s4 f0 k0 v0 n0 k1 v1 n1 l0 l1 l2 l3 m0 m1 m2 m3 : Pos)
  (u0 u1 : Nat)
def iB (P : WrPos) : List Stmt :=
  [.Expr (.Call (.Attribute (.Call (.Name "super" P.s0) [] [] P.s1) "__init__" P.s2) [.JoinedStr [.Constant (.str "row ") P.u0 P.k0, .FormattedValue (.Name "line" P.n0) (-1) none P.v0, .Constant (.str ", place ") P.u1 P.k1, .FormattedValue (.Name "place" P.n1) (-1) none P.v1] P.f0] [] P.s3) P.s4,
   .Assign [.Attribute (.Name "self" P.l0) "line" P.l1] (.Name "line" P.l2) P.l3,
   .Assign [.Attribute (.Name "self" P.m0) "place" P.m1] (.Name "place" P.m2) P.m3]
def iS : Scope := { kind := .function, names := [("self", .local), ("line", .local), ("place", .local), ("__class__", .free), ("super", .globalImplicit)], isGenerator := false, isCoroutine := false, more := [] }
/-- what the written part says of the class at C, made by the __init__ at fI of the class at D -/
structure WrTxt (prog : Program) (K : Frag) (C D fI cc cda : Addr) (B fH ccH cdaH : Addr) (kd : Str) : Prop where
  he : HeTxt prog K C B fH ccH cdaH kd
  ini : findIn K (.ref C) "__init__" = some (some (.ref fI))
  exi : excInitIn K C bmV "ValueError.__new__" = true
  exo : excOver K C bmV = true
  sa : findIn K (.ref C) "__setattr__" = some (some (.builtin "object.__setattr__"))
  tkl : takerIn K C "line" = some none
  tkp : takerIn K C "place" = some none
  hdC : hasDictIn K C = true
  tyf : typeIn K (.ref fI) = some (.type "function")
  fn : ∃ (oc : Value) (od : Option Addr) (doc pm : Value) (an : Option Addr) (ct : Value) (osl : Array (Option Value)) (P : WrPos),
    K.lookup fI = some ⟨oc, od, .func (ksFn "__init__" "Wrong.__init__" (iA P.a1 P.a2 P.a3) (iB P) iS .none .none doc pm an (.ref cda) ct cc), osl⟩ ∧ codeIn K (.ref cda) "Wrong.__init__" = true ∧ (P.s2.endLine == P.s3.line) = true
  code : ∃ (ccl : Value) (cdd : Option Addr) (vs : Array Value) (ccs : Array (Option Value)) (file : Str) (tf : Tok), K.lookup cda = some ⟨ccl, cdd, .fields vs, ccs⟩ ∧ vs[2]? = some (.str file tf) ∧ ((prog.main.file : Str) == file) = true
  cell : ∃ (cl : Value) (cld : Option Addr) (csl : Array (Option Value)), K.lookup cc = some ⟨cl, cld, .cell (some (.ref D)), csl⟩
  icD : PySem.W.isClsIn K D = true
  sub : mroIn K C (.ref D) = some true
  sup : nsIn K mainGlobals "super" = some none
  top : (prog.main.scope.names.lookup ("super" : Str)).isSome = false
  thp : nsIn K cStatics "thirdparty.any" = some none
  supI : ks_superIn K C D "__init__" = some (some (.ref fH))
  fnH : PySem.W.fnIn K fH = true
  subV : subIn K (.ref C) (.type "ValueError") = some true
section
variable {prog : Program} {w : World} {A : Around} {E : Value → Shared → Prop} {R : Result → Shared → Prop} {K : Frag} {mg : Str → Option Value} {C D fI cc cda x B fH ccH cdaH : Addr} {kd : Str} {hp : Heap}
/-- super(), in the __init__ of such a class -/
theorem wr_super (T : WrTxt prog K C D fI cc cda B fH ccH cdaH kd) (M : Mod K mg hp) {s : Shared} {L : Addr} {m : Str → Option Value} {news : List (Addr × Obj)} (F : Fr hp L s.heap m) (N : News hp L s.heap news) {ox : Obj} {odx : Option Obj} (I : InstAt s.heap x ox C odx) (hv : m "self" = some (.ref x))
    {P : WrPos} {p0 p1 : Pos} {whole : Sem Value} {Q : Value → Shared → Prop}
    (h : ∀ so h', Fr hp L h' m → News hp L h' ((so, ks_superObj D x C) :: news) → (∀ p ∈ news, p.1 < so) → Q (.ref so) { s with heap := h' }) :
    PySem.wpAt (model prog w) A (.func (iB P) (ksEnv "Wrong.__init__" iS L fI (.ref cda) cc)) (attributeBase (.Call (.Name "super" p0) [] [] p1) "__init__" (ksEnv "Wrong.__init__" iS L fI (.ref cda) cc) whole) Q E s := by
  have X : K.In s.heap := M.kin.keeps F.keep
  obtain ⟨oc, od, doc, pm, an, ct, osl, P', hf, hcd, _⟩ := T.fn
  obtain ⟨ccl, cdd, vs, ccs, file, tf, hcode, hvs, hfile⟩ := T.code
  obtain ⟨cl, cld, csl, hcell⟩ := T.cell
  obtain ⟨mb, hb, hbb⟩ := M.blt
  obtain ⟨cdD, hD⟩ : ∃ cdD, clsIn K D = some cdD := Option.isSome_iff_exists.mp T.icD
  obtain ⟨hh, g, d, t, os⟩ := s
  have ⟨oD, hD1, hD2⟩ : ∃ o : Obj, hh.get? D = some o ∧ o.data = .cls cdD := by
    unfold PySem.W.clsIn at hD
    split at hD
    · rename_i ho; cases hD; exact ⟨_, X _ _ ho, rfl⟩
    · cases hD
  have noc : ∀ c, ox.data ≠ .cls c := fun c e => by
    have q := I.no
    unfold PySem.W.notCls at q
    rw [e] at q
    exact Bool.noConfusion q
  have last : wpAny (model prog w) A (call (.type "super") [.ref D, .ref x]) Q E ⟨hh, g, d, t, os⟩ := PySem.ks_wpAny_call_super hD1 hD2 I.at_ I.cls noc (PySem.W.looks_mroIn X T.sub) fun h' e k => by
    obtain ⟨F', N', l'⟩ := PySem.W.ks_newsPush (s := ⟨hh, g, d, t, os⟩) F N rfl e k
    exact h _ _ F' N' l'
  have self' : wpAny (model prog w) A (loadName (ksEnv "Wrong.__init__" iS L fI (.ref cda) cc) "self") (fun self s₃ => wpAny (model prog w) A (isType (.ref D)) (fun b s₄ => b = true ∧ wpAny (model prog w) A (call (.type "super") [.ref D, self]) Q E s₄) E s₃) E ⟨hh, g, d, t, os⟩ :=
    wpAny_loadName_local rfl rfl F.ns hv (PySem.ks_wpAny_isType_cls hD1 hD2 ⟨rfl, last⟩)
  refine PySem.ks_wpAt_super_base (env := ksEnv "Wrong.__init__" iS L fI (.ref cda) cc) rfl rfl (by decide) rfl (X _ _ hf) rfl rfl rfl (X _ _ hcode) rfl hvs hfile T.top ?_
  refine PySem.W.ks_loadName_global rfl rfl (loadGlobal_builtin (env := ksEnv "Wrong.__init__" iS L fI (.ref cda) cc) (M.glob.keeps F.keep) (PySem.W.mg_none_of M.kin M.glob T.sup) (hb.keeps F.keep) ((hbb _ (by decide +kernel)).trans (by decide +kernel)) ⟨rfl, ?_⟩)
  exact wpAny_loadName_free rfl rfl rfl ⟨_, X _ _ hcell, rfl⟩ self'
/-- the error's text is told: any number that is small -/
theorem wr_text {env : Env} {P : WrPos} {s : Shared} {a b : Int} {ta tb : Tok} {m : Str → Option Value} (hn : s.heap.Ns env.locals m) (hk : env.scope.kind = .function) (hl : env.kindOf "line" = some .local) (hp' : env.kindOf "place" = some .local)
    (va : m "line" = some (.int a ta)) (vb : m "place" = some (.int b tb)) (ha : a.natAbs.log2 < 1920) (hb : b.natAbs.log2 < 1920) {Q : Value → Shared → Prop} (hq : ∀ z tk t', Q (.str z t') { s with toks := tk }) :
    wpAny (model prog w) A (eval (.JoinedStr [.Constant (.str "row ") P.u0 P.k0, .FormattedValue (.Name "line" P.n0) (-1) none P.v0, .Constant (.str ", place ") P.u1 P.k1, .FormattedValue (.Name "place" P.n1) (-1) none P.v1] P.f0) env) Q E s := by
  have e0 : Str.empty.length = 0 := rfl
  have e1 : (Str.ofString "row ").length = 4 := by decide +kernel
  have e2 : (Str.ofString ", place ").length = 8 := by decide +kernel
  have e3 := int_text_len_1921 ha
  have e4 := int_text_len_1921 hb
  refine wpAny_JoinedStr ?_
  refine wpAny_Constant_str ⟨_, _, rfl, by rw [len_app, e0, e1, sizeLine_eq]; decide, ?_⟩
  refine wpAny_FormattedValue_plain (wpAny_Name (wpAny_loadName_local hk hl hn va (wpAny_formatField_int ha ⟨_, _, rfl, by rw [len_app, len_app, e0, e1, sizeLine_eq]; omega, ?_⟩)) (by decide))
  refine wpAny_Constant_str ⟨_, _, rfl, by rw [len_app, len_app, len_app, e0, e1, e2, sizeLine_eq]; omega, ?_⟩
  refine wpAny_FormattedValue_plain (wpAny_Name (wpAny_loadName_local hk hp' hn vb (wpAny_formatField_int hb ⟨_, _, rfl, by rw [len_app, len_app, len_app, len_app, e0, e1, e2, sizeLine_eq]; omega, ?_⟩)) (by decide))
  exact ⟨by rw [len_app, len_app, len_app, len_app, e0, e1, e2, sizeLine_eq]; omega, hq _ _ _⟩
/-- Wrong.__init__ at a fresh exception x of the class at C -/
theorem wr_init (T : WrTxt prog K C D fI cc cda B fH ccH cdaH kd) (M : Mod K mg hp) {s : Shared} (hk : ∀ b o, hp.get? b = some o → s.heap.get? b = some o) (hsz : hp.objs.size ≤ s.heap.objs.size) {t0 : Addr} (hx : s.heap.get? x = some (excObj C t0 none .none)) (hx0 : hp.get? x = none)
    {a b : Int} {ta tb : Tok} (ha : a.natAbs.log2 < 1920) (hb : b.natAbs.log2 < 1920) (hroom : A.depth + 1 < recursionLimit)
    (hq : ∀ h' tk t1 dx k0 k1 k2 q0 q1 q2 tk1 n, (∀ b o, hp.get? b = some o → h'.get? b = some o) → h'.get? x = some (excObj C t1 (some dx) .none) → x < dx →
      h'.get? dx = some (dictOf [⟨k0, .str "kind" q0, .str kd tk1⟩, ⟨k1, .str "line" q1, .int a ta⟩, ⟨k2, .str "place" q2, .int b tb⟩] n) → R (.ok (.ret .none)) { s with heap := h', toks := tk }) :
    codeAny (model prog w) A (.call (.ref fI) ⟨[.ref x, .int a ta, .int b tb], []⟩) R s := by
  obtain ⟨oc, od, doc, pm, an, ct, osl, P, ho, hcd, hs⟩ := T.fn
  have X := M.kin.keeps hk
  refine PySem.ks_codeAny_call_defAt (fd := ksFn "__init__" "Wrong.__init__" (iA P.a1 P.a2 P.a3) (iB P) iS .none .none doc pm an (.ref cda) ct cc) (body := iB P) (binds := [("self", .ref x), ("line", .int a ta), ("place", .int b tb)]) (Nat.lt_of_succ_lt hroom) (X _ _ ho) rfl (M.nolimit.keeps hk) (PySem.W.codeRec_of X hcd) rfl (.of_eq rfl) (show ∀ y ∈ iS.names, y.2 ≠ .cell by decide) (fun y hy => by simp only [List.mem_cons, List.mem_nil_iff, or_false] at hy; rcases hy with rfl | rfl | rfl <;> rfl) (fun h₁ hn k₁ => ?_) rfl rfl rfl
  have F : Fr hp s.heap.objs.size h₁ (fun y => ([("self", Value.ref x), ("line", .int a ta), ("place", .int b tb)] : List (Str × Value)).reverse.lookup y) := ⟨hn, fun b o e => k₁ b o (hk b o e), hsz⟩
  have N : News hp s.heap.objs.size h₁ [(x, excObj C t0 none .none)] := fun p hp' => by
    obtain rfl := List.mem_singleton.mp hp'
    exact ⟨k₁ _ _ hx, Nat.ne_of_lt (Heap.lt_size hx), hx0⟩
  show PySem.wpAt (model prog w) (A.deeper (ksEnv "Wrong.__init__" iS s.heap.objs.size fI (.ref cda) cc)) (.func (iB P) (ksEnv "Wrong.__init__" iS s.heap.objs.size fI (.ref cda) cc)) (execs (iB P) (ksEnv "Wrong.__init__" iS s.heap.objs.size fI (.ref cda) cc)) _ _ _
  have m1 : (x, excObj C t0 none .none) ∈ [(x, excObj C t0 none .none)] := List.mem_singleton.mpr rfl
  refine PySem.ks_wpAt_execs_cons (PySem.ks_wpAt_Expr_any (PySem.ks_wpAt_MethodCall (pl := do return (← importBound (.Call (.Name "super" P.s0) [] [] P.s1) (ksEnv "Wrong.__init__" iS s.heap.objs.size fI (.ref cda) cc)).getD true) (wr_super T M F N (PySem.W.InstAt.of_exc0 N m1) rfl fun so h2 F2 N2 l2 => ?_) ?_))
  rotate_left
  · rw [arm_eval_Call]
    unfold methodCall methodCallPos
    simp only [hs, Bool.or_true, if_true, pure_bind]
    rfl
  have m2 : (x, excObj C t0 none .none) ∈ [(so, ks_superObj D x C), (x, excObj C t0 none .none)] := by simp
  refine PySem.W.ks_method F2 M.kin N2 (List.mem_cons_self ..) (PySem.W.InstAt.of_exc0 N2 m2) T.thp T.supI T.he.tyf (by decide) fun q h3 F3 N3 l3 => ?_
  refine PySem.W.callWith_M M.kin N3 (List.mem_cons_self ..) T.fnH ?_
  refine spliced_more (wr_text F3.ns rfl rfl rfl rfl rfl ha hb fun z tk t' => spliced_none ⟨PySem.W.methP N3 (List.mem_cons_self ..) (M.kin.keeps F3.keep), ?_⟩)
  have nq : q ≠ x := fun e => Nat.lt_irrefl _ (by have := l3 _ m2; rw [e] at this; exact this)
  have ns : so ≠ x := fun e => Nat.lt_irrefl _ (by have := l2 _ m1; rw [e] at this; exact this)
  have m3 : (x, excObj C t0 none .none) ∈ [(q, methodObj (.ref fH) (.ref x)), (so, ks_superObj D x C), (x, excObj C t0 none .none)] := by simp
  have xh := N3 _ m3
  have kG : ∀ b o, hp.get? b = some o → (h3.hide x).get? b = some o := fun b o e => (Heap.hide_ne h3 (fun z => by rw [z, hx0] at e; cases e)).trans (F3.keep b o e)
  obtain ⟨mb0, hb0, hbb0⟩ := M.blt
  have MG : Mod K mg (h3.hide x) := ⟨M.kin.keeps kG, M.glob.keeps kG, ⟨mb0, hb0.keeps kG, hbb0⟩, M.nolimit.keeps kG⟩
  refine PySem.W.call_meth N3 (List.mem_cons_self ..) ?_
  refine he_init (hp := h3.hide x) (x := x) T.he MG (fun b o e => Heap.of_hide e) (Nat.le_of_eq (Heap.hide_size h3 x)) xh.1 (Heap.hide_self h3 x) (show A.depth + 1 < recursionLimit from hroom) fun h4 tk4 t1 dx z0 tk1 k4 hx4 xdx nd hd4 => ?_
  have kF : ∀ b o, hp.get? b = some o → h4.get? b = some o := fun b o e => k4 b o (kG b o e)
  obtain ⟨oL, es, ep, hL, r⟩ := F3.ns
  have Lx : s.heap.objs.size ≠ x := fun z => xh.2.1 z.symm
  have hL4 : (h3.hide x).get? s.heap.objs.size = some oL := (Heap.hide_ne h3 Lx).trans hL
  have F4 : Fr hp s.heap.objs.size h4 _ := ⟨⟨oL, es, ep, k4 _ _ hL4, r⟩, kF, F3.above⟩
  have dL : dx ≠ s.heap.objs.size := fun z => by rw [z, hL4] at nd; cases nd
  have hd0 : hp.get? dx = none := by
    cases e : hp.get? dx with
    | none => rfl
    | some o => rw [kG _ _ e] at nd; cases nd
  have N5 : News hp s.heap.objs.size h4 [(dx, dictOf [⟨PyData.keyHash w.params "kind", .str "kind" z0, .str kd tk1⟩] 1), (x, excObj C t1 (some dx) .none)] := fun p hp2 => by
    simp only [List.mem_cons, List.mem_nil_iff, or_false] at hp2
    rcases hp2 with rfl | rfl
    · exact ⟨hd4, dL, hd0⟩
    · exact ⟨hx4, xh.2⟩
  have dxx : dx ≠ x := Nat.ne_of_gt xdx
  refine wpAt_of_wpAny (wpAny_execs_cons (plainObj_wpAny_Assign_Attribute ?_))
  refine wpAny_Name (wpAny_loadName_local rfl rfl F4.ns rfl (wpAny_Name (wpAny_loadName_local rfl rfl F4.ns rfl ?_) (by decide))) (by decide)
  refine PySem.W.set_excD (es' := [⟨PyData.keyHash w.params "kind", .str "kind" z0, .str kd tk1⟩, ⟨PyData.keyHash w.params "line", .str "line" _, .int a ta⟩]) (n' := 2) PySem.F.store_ValueError F4 M.kin N5 (.tail _ (List.mem_singleton.mpr rfl)) T.sa T.exo T.tkl T.hdC (List.mem_cons_self ..) (by first | rfl | decide +kernel) rfl (PySem.W.Upd.head (fun p hp2 => by rw [List.mem_singleton.mp hp2]; exact Ne.symm dxx)) (show 2 ≤ 1000 by decide) fun h6 F6 N6 => ?_
  refine wpAny_execs_cons (plainObj_wpAny_Assign_Attribute ?_)
  refine wpAny_Name (wpAny_loadName_local rfl rfl F6.ns rfl (wpAny_Name (wpAny_loadName_local rfl rfl F6.ns rfl ?_) (by decide))) (by decide)
  obtain ⟨z1, N6⟩ : ∃ z1, News hp s.heap.objs.size h6 [(dx, dictOf [⟨PyData.keyHash w.params "kind", .str "kind" z0, .str kd tk1⟩, ⟨PyData.keyHash w.params "line", .str "line" z1, .int a ta⟩] 2), (x, excObj C t1 (some dx) .none)] := ⟨_, N6⟩
  refine PySem.W.set_excD (es' := [⟨PyData.keyHash w.params "kind", .str "kind" z0, .str kd tk1⟩, ⟨PyData.keyHash w.params "line", .str "line" z1, .int a ta⟩, ⟨PyData.keyHash w.params "place", .str "place" _, .int b tb⟩]) (n' := 3) PySem.F.store_ValueError F6 M.kin N6 (.tail _ (List.mem_singleton.mpr rfl)) T.sa T.exo T.tkp T.hdC (List.mem_cons_self ..) (by first | rfl | decide +kernel) rfl (PySem.W.Upd.head (fun p hp2 => by rw [List.mem_singleton.mp hp2]; exact Ne.symm dxx)) (show 3 ≤ 1000 by decide) fun h7 F7 N7 => ?_
  refine wpAny_execs_nil ?_
  have q1 := N7 _ (.tail _ (List.mem_singleton.mpr rfl))
  have q2 := N7 _ (List.mem_cons_self ..)
  exact hq h7 _ t1 dx _ _ _ _ _ _ _ 3 F7.keep q1.1 xdx q2.1
/-- a made error of the class at C -/
theorem wr_made (T : WrTxt prog K C D fI cc cda B fH ccH cdaH kd) {s : Shared} (M : Mod K mg s.heap) {a b : Int} {ta tb : Tok} (ha : a.natAbs.log2 < 1920) (hb : b.natAbs.log2 < 1920) (hroom : A.depth + 2 < recursionLimit)
    (hq : ∀ h' tk e t1 dx k0 k1 k2 q0 q1 q2 tk1 n, (∀ b o, s.heap.get? b = some o → h'.get? b = some o) → s.heap.objs.size ≤ e → h'.get? e = some (excObj C t1 (some dx) .none) → dx ≠ e → s.heap.objs.size ≤ dx →
      h'.get? dx = some (dictOf [⟨k0, .str "kind" q0, .str kd tk1⟩, ⟨k1, .str "line" q1, .int a ta⟩, ⟨k2, .str "place" q2, .int b tb⟩] n) → R (.ok (.ret (.ref e))) { s with heap := h', toks := tk }) :
    codeAny (model prog w) A (.call (.ref C) ⟨[.int a ta, .int b tb], []⟩) R s := by
  obtain ⟨nm, N', qn, bs, bm, hdct, sn, sub, ab, col, dd, k0, k1, k2, k3, k5, hC, hT⟩ := PySem.W.excInit_of M.kin T.exi
  obtain ⟨hp, g, dr, tk, os⟩ := s
  have M : Mod K mg hp := M
  have hC : hp.get? C = _ := hC
  have two : [Value.int a ta, .int b tb].length ≤ sizeLine := by rw [sizeLine_eq]; show 2 ≤ 16777216; decide
  have k : ∀ c o, hp.get? c = some o → ((hp.push (PySem.W.kdv_tup [.int a ta, .int b tb])).push (HandSPX.excO C hp.objs.size)).get? c = some o := fun c o e => Heap.get?_push_of_some _ (Heap.get?_push_of_some _ e)
  have hget : ((hp.push (PySem.W.kdv_tup [.int a ta, .int b tb])).push (HandSPX.excO C hp.objs.size)).get? (hp.objs.size + 1) = some (HandSPX.excO C hp.objs.size) := by heap_get
  have hno : ∀ q, hp.objs.size ≤ q → hp.get? q = none := fun q hq' => by
    cases e : hp.get? q with
    | none => rfl
    | some o => exact absurd (Heap.lt_size e) (Nat.not_lt_of_le hq')
  refine HandSPX.call_own PySem.F.excBase_ValueError hT hC (PySem.W.looks_findIn M.kin T.ini) (fun self => PySem.W.bind_fn M.kin self T.tyf) two ?_
  refine wr_init (hp := hp) (s := ⟨(hp.push (PySem.W.kdv_tup [.int a ta, .int b tb])).push (HandSPX.excO C hp.objs.size), g, dr, tk, os⟩) T M k ?_ hget (hno _ (Nat.le_succ _)) ha hb ?_ fun h' tk' t1 dx k0 k1 k2 q0 q1 q2 tk1 n kp hx hlt hd => ?_
  · rw [Heap.size_push, Heap.size_push]; omega
  · show A.depth + 1 + 1 < recursionLimit
    exact hroom
  · exact ⟨rfl, hq h' tk' (hp.objs.size + 1) t1 dx k0 k1 k2 q0 q1 q2 tk1 n kp (Nat.le_succ _) hx (Nat.ne_of_gt hlt) (Nat.le_of_lt (Nat.lt_of_succ_lt hlt)) hd⟩
end
end LH

set_option maxHeartbeats 2000000
namespace LH
open PySem PySem.Spec PySem.Calls PyProof.Rows L2
open PySem.W (Frag clsIn findIn subIn typeIn nsIn keepIn codeIn hasDictIn mroIn excObj InstAt dictOf)
/-- the own dict of such an error -/
def wrFields (kd : Str) (a b : Int) : List (Str × V) := [("kind", .str kd), ("line", .int a), ("place", .int b)]
theorem wr_ns {h : Heap} {dx : Addr} {k0 k1 k2 : Int} {q0 q1 q2 tk1 : Tok} {kd : Str} {a b : Int} {ta tb : Tok} {n : Nat} (e : h.get? dx = some (dictOf [⟨k0, .str "kind" q0, .str kd tk1⟩, ⟨k1, .str "line" q1, .int a ta⟩, ⟨k2, .str "place" q2, .int b tb⟩] n)) :
    ∃ mA, h.Ns1 dx mA ∧ ∀ f, RelO (List.lookup f (wrFields kd a b)) (mA f) := by
  have lp : (Str.ofString "line" : Str) ≠ Str.ofString "place" := by decide +kernel
  have kl : (Str.ofString "kind" : Str) ≠ Str.ofString "line" := by decide +kernel
  have kp : (Str.ofString "kind" : Str) ≠ Str.ofString "place" := by decide +kernel
  refine ⟨fun f => if f = "kind" then some (.str kd tk1) else if f = "line" then some (.int a ta) else if f = "place" then some (.int b tb) else none, ⟨_, _, _, e, rfl, fun x hx => ?_, ?_, fun f => ?_⟩, fun f => ?_⟩
  · simp only [List.mem_toArray, List.mem_cons, List.mem_nil_iff, or_false] at hx
    rcases hx with rfl | rfl | rfl <;> exact ⟨_, _, rfl⟩
  · show List.Pairwise _ _
    simp only [List.pairwise_cons, List.mem_cons, List.mem_nil_iff, or_false]
    refine ⟨fun y hy m h1 h2 => ?_, ⟨fun y hy m h1 h2 => ?_, ⟨fun _ h => h.elim, List.Pairwise.nil⟩⟩⟩
    · have e1 : (Str.ofString "kind" : Str) = m := by simpa [Value.isStr] using h1
      rcases hy with rfl | rfl
      · have e2 : (Str.ofString "line" : Str) = m := by simpa [Value.isStr] using h2
        exact kl (e1.trans e2.symm)
      · have e2 : (Str.ofString "place" : Str) = m := by simpa [Value.isStr] using h2
        exact kp (e1.trans e2.symm)
    · subst hy
      have e1 : (Str.ofString "line" : Str) = m := by simpa [Value.isStr] using h1
      have e2 : (Str.ofString "place" : Str) = m := by simpa [Value.isStr] using h2
      exact lp (e1.trans e2.symm)
  · unfold nsFind findBy
    rw [List.find?_toArray]
    by_cases h0 : f = "kind"
    · subst h0
      simp [List.find?, Value.isStr]
    · have z0 : ((Str.ofString "kind" : Str) == f) = false := by simpa using fun h => h0 h.symm
      by_cases h1 : f = "line"
      · subst h1
        simp [List.find?, Value.isStr, z0, h0]
      · have z1 : ((Str.ofString "line" : Str) == f) = false := by simpa using fun h => h1 h.symm
        by_cases h2 : f = "place"
        · subst h2
          simp [List.find?, Value.isStr, z0, z1, h0, h1]
        · have z2 : ((Str.ofString "place" : Str) == f) = false := by simpa using fun h => h2 h.symm
          simp [List.find?, Value.isStr, z0, z1, z2, h0, h1, h2]
  · unfold wrFields
    dsimp only
    by_cases h0 : f = "kind"
    · subst h0
      show RelO (some (V.str kd)) _
      rw [if_pos rfl]
      exact ⟨_, rfl⟩
    · have z0 : (f == (Str.ofString "kind" : Str)) = false := by simpa using h0
      rw [if_neg h0]
      by_cases h1 : f = "line"
      · subst h1
        rw [if_pos rfl]
        show RelO (List.lookup _ _) _
        simp only [List.lookup, z0, beq_self_eq_true]
        exact ⟨_, rfl⟩
      · have z1 : (f == (Str.ofString "line" : Str)) = false := by simpa using h1
        by_cases h2 : f = "place"
        · subst h2
          rw [if_neg h1, if_pos rfl]
          show RelO (List.lookup _ _) _
          simp only [List.lookup, z0, z1, beq_self_eq_true]
          exact ⟨_, rfl⟩
        · have z2 : (f == (Str.ofString "place" : Str)) = false := by simpa using h2
          rw [if_neg h1, if_neg h2]
          simp only [List.lookup, z0, z1, z2]
          trivial
/-! ### raise C(row, place) -/
def tMkW (C : Addr) (kd : Str) (ta : TA) : L2.St → Hp → XK → Prop := fun σ H Q => ta σ H fun vs H1 => ∃ a b : Int, vs = [.int a, .int b] ∧ a.natAbs.log2 < 1920 ∧ b.natAbs.log2 < 1920 ∧ ∀ d, H1 d = none → Q (.ref C) (some d) (upd H1 d (.xd (wrFields kd a b)))
/-- the class as its raisers see it -/
structure WrC (prog : Program) (K : Frag) (mg : Str → Option Value) (nm : Str) (C D fI cc cda B fH ccH cdaH : Addr) (kd : Str) : Prop where
  txt : WrTxt prog K C D fI cc cda B fH ccH cdaH kd
  mg : mg nm = some (.ref C)
  kp : keepIn K (.ref C) = true
  ex : subIn K (.ref C) (.type "BaseException") = some true
  ty : typeIn K (.ref C) = some (.type "type")
section
variable {X : Cx} {nm kd : Str} {C D fI cc cda B fH ccH cdaH : Addr}
theorem pmk_wr {e1 e2 : Expr} {ta : TA} {p pos : Pos} {k : Nat} (T : WrC X.prog X.K X.mg nm C D fI cc cda B fH ccH cdaH kd) (hr : Room k X.A) (ha : PA X [e1, e2] ta) (hg : Gl X nm := by rfl) (hdb : (nm == ("__debug__" : Str)) = false := by decide)
    (he : starEach (e1 :: [e2]) X.env = (false, eval e1 X.env) :: starEach [e2] X.env := by rfl) (hpl : (backTo pos (starEach [e2] X.env)).any (·.1) = false := by rfl) :
    PMk X (.Call (.Name nm p) [e1, e2] [] pos) (tMkW C kd ta) := by
  intro pins s σ H Q I h
  refine wpAny_Call_Name_kw (ld_glob I hg T.mg ?_ hdb)
  refine PySem.W.callWith_K (h₀ := X.base) I.ok.mod.kin T.kp (thn (ha.run pos pins s σ H _ I h) fun us s1 hh => ?_) he hpl
  obtain ⟨vs, H1, I1, r1, a, b, ev, hla, hlb, q1⟩ := hh
  subst ev
  refine ⟨I1.kIn, ?_⟩
  obtain ⟨u1, u2, rfl, rv1, rv2⟩ := vals2 r1
  obtain ⟨ta', rfl⟩ := rv1
  obtain ⟨tb', rfl⟩ := rv2
  show wpAny _ _ (call (.ref C) [.int a ta', .int b tb']) _ _ _
  obtain ⟨mb, hmb, hbb⟩ := I.ok.mod.blt
  have M1 : Mod X.K X.mg s1.heap := ⟨I1.kIn, I1.ok.mod.glob.keeps I1.bk, ⟨mb, hmb.keeps I1.bk, hbb⟩, I1.nolimit⟩
  obtain ⟨hp, g, dr, tk, os⟩ := s1
  refine wpAny_call (wr_made T.txt M1 hla hlb (by have := hr.dp; omega) fun h' tk' e t1 d k0 k1 k2 z0 z1 z2 tkk n keep new hoe dne dbig hd => ?_)
  show MkP X pins σ Q (.ref e) ⟨h', g, dr, tk', os⟩
  have old : ∀ c o, hp.get? c = some o → h'.get? c = some o := keep
  have hoe : h'.get? e = some (excObj C t1 (some d) .none) := hoe
  obtain ⟨G', g1, g2⟩ := restrict h' fun c => decide (c ≠ e)
  have gk : ∀ c, c ≠ e → G'.get? c = h'.get? c := fun c hc => g1 c (decide_eq_true hc)
  have ge : G'.get? e = none := g2 e (by simp)
  have oldG : ∀ c o, hp.get? c = some o → G'.get? c = some o := fun c o q => (gk c (Nat.ne_of_lt (Nat.lt_of_lt_of_le (Heap.lt_size q) new))).trans (old c o q)
  obtain ⟨mA, hns, hrel⟩ := wr_ns hd
  have ob : ObjOk X.prog X.w (upd H1 d (.xd (wrFields kd a b))) G' d (.xd (wrFields kd a b)) := ⟨mA, hns.at (fun o q => (gk d dne).trans q), hrel⟩
  have J : Inv X pins σ (upd H1 d (.xd (wrFields kd a b))) ⟨G', g, dr, tk', os⟩ := I1.laid (t' := tk') oldG dbig ob
  refine ⟨e, _, _, ⟨G', g, dr, tk', os⟩, _, .ref C, some d, rfl, J, fun c o q => ?_, ge, hoe, ⟨rfl, rfl⟩, rfl, rfl, ?_, rfl, I1.bare, raises_own T.ex T.ty, q1 d (I1.hok.fresh dbig)⟩
  · by_cases hc : c = e
    · have q' : G'.get? c = some o := q
      rw [hc, ge] at q'
      exact nomatch q'
    · exact (gk c hc).symm.trans q
  · rw [upd_ne (Ne.symm dne)]
    exact I1.hok.fresh new
def tRaiseW (C : Addr) (kd : Str) (W : WX) (ta : TA) : TS := fun _ σ H => tMkW C kd ta σ H fun cls d H' => W cls d σ H'
theorem ps_raiseW {e1 e2 : Expr} {ta : TA} {W : WX} {p pos pos2 : Pos} {k : Nat} (hc : X.calm = true) (T : WrC X.prog X.K X.mg nm C D fI cc cda B fH ccH cdaH kd) (hr : Room k X.A) (tk : Takes X W) (ha : PA X [e1, e2] ta) (hg : Gl X nm := by rfl) (hdb : (nm == ("__debug__" : Str)) = false := by decide)
    (he : starEach (e1 :: [e2]) X.env = (false, eval e1 X.env) :: starEach [e2] X.env := by rfl) (hpl : (backTo pos (starEach [e2] X.env)).any (·.1) = false := by rfl) :
    PS X (.Raise (some (.Call (.Name nm p) [e1, e2] [] pos)) none pos2) (tRaiseW C kd W ta) := ps_raise hc tk (pmk_wr T hr ha hg hdb he hpl)
end
end LH

set_option maxHeartbeats 2000000
namespace LH
open PySem PySem.Spec PySem.Calls PyProof.Rows L2
open PySem.W (Frag clsIn findIn subIn hasDictIn)
/-! ### a held error with an own dict: isinstance of it, its attributes -/
/-- the error at a, of the class at D, its own dict at dd with the fields fs -/
def HeldD (H : Hp) (D dd a : Addr) (fs : List (Str × V)) : Prop := H a = some (ExH (.ref D) (some dd) a) ∧ H dd = some (.xd fs)
theorem HeldD.same {H H' : Hp} {D dd a : Addr} {fs : List (Str × V)} (h : HeldD H D dd a fs) (s : Same H H') : HeldD H' D dd a fs := ⟨s _ _ h.1, s _ _ h.2⟩
theorem held_inst {X : Cx} {pins : List (Addr × Obj)} {σ : L2.St} {H : Hp} {s : Shared} {D dd a : Addr} {fs : List (Str × V)} (I : Inv X pins σ H s) (h : HeldD H D dd a fs) :
    ∃ (oe od : Obj) (mA : Str → Option Value), PySem.W.InstAt s.heap a oe D (some od) ∧ (∀ f, PySem.W.lookIn f od = some (mA f)) ∧ ∀ f, RelO (List.lookup f fs) (mA f) := by
  obtain ⟨⟨oe, fv, hget, ⟨h1, h2⟩, h3⟩, _, _⟩ := (show ObjOk X.prog X.w H s.heap a (ExH (.ref D) (some dd) a) from I.hok a _ h.1)
  obtain ⟨mA, hns, hr⟩ := (show ObjOk X.prog X.w H s.heap dd (.xd fs) from I.hok dd _ h.2)
  obtain ⟨od, ho, hl⟩ := lookIn_ns hns
  exact ⟨oe, od, mA, ⟨hget, h1, by unfold PySem.W.notCls; rw [h3] <;> rfl, by rw [h2]; exact ho⟩, hl, hr⟩
def rIsD (K : Frag) : List V → Hp → VK → Prop := fun xs H Q => ∃ (a D dd : Addr) (fs : List (Str × V)) (c : V) (cv : Value) (b : Bool), xs = [.ref a, c] ∧ HeldD H D dd a fs ∧ ExcC K D ∧ (∀ u, RelV c u → u = cv) ∧ PySem.W.kitOne K (.ref D) cv = some b ∧ Q (.bl b) H
theorem call_isD {X : Cx} : CallR X (.builtin "isinstance") (rIsD X.K) := by
  intro pins s σ H xs us Q I r h
  obtain ⟨a, D, dd, fs, c, cv, b, rfl, hh, C, hcv, e, q⟩ := h
  obtain ⟨u1, u2, rfl, r1, r2⟩ := vals2 r
  cases (show u1 = Value.ref a from r1)
  obtain rfl := hcv _ r2
  obtain ⟨oe, od, mA, J, _, _⟩ := held_inst I hh
  have hcl : (clsIn X.K D).isSome = true := by
    obtain ⟨cd, hc, _⟩ := PySem.W.any_some C.hd
    rw [hc]; rfl
  exact PySem.W.kia_one (PySem.W.kitx_exc hcl C.hg C.hk C.hs C.ha C.hn C.ht C.hm) I.kIn J e (fun z => nomatch z) fun tk => ⟨.bl b, H, I.kept (t' := tk) fun _ _ z => z, rfl, q⟩
theorem cIsD {X : Cx} (K : Frag) (h : X.K = K := by rfl) : CallR X (.builtin "isinstance") (rIsD K) := h ▸ call_isD
/-- isinstance of a held error, with or without an own dict -/
def rIsE' (K : Frag) : List V → Hp → VK → Prop := fun xs H Q => rIsH K xs H Q ∨ rIsD K xs H Q
theorem cIsHD {X : Cx} (K : Frag) (h : X.K = K := by rfl) : CallR X (.builtin "isinstance") (rIsE' K) := fun pins s σ H xs us Q I r q => q.elim (cIsH K h pins s σ H xs us Q I r) (cIsD K h pins s σ H xs us Q I r)
/-- an attribute of it that stands in its own dict -/
def tFld (K : Frag) (f : Str) (te : TE) : TE := fun σ H Q => te σ H fun x H1 => ∃ (a D dd : Addr) (fs : List (Str × V)) (v : V), x = .ref a ∧ HeldD H1 D dd a fs ∧ ExcC K D ∧ findIn K (.ref D) f = some none ∧ fs.lookup f = some v ∧ Q v H1
theorem pe_fldD {X : Cx} {K : Frag} {e : Expr} {te : TE} {pos : Pos} {f : Str} (he : PE X e te) (hK : X.K = K := by rfl) (hb : attributeBase e f X.env (eval e X.env) = eval e X.env := by rfl) : PE X (.Attribute e f pos) (tFld K f te) := by
  subst hK
  refine ⟨fun pins s σ H Q I h => ?_⟩
  refine attr_of hb (thn (he.run pins s σ H _ I h) fun u s1 hh => ?_)
  obtain ⟨x, H1, I1, rx, a, D, dd, fs, v, ex, hd, C, hno, hv, q⟩ := hh
  subst ex
  obtain rfl : u = Value.ref a := rx
  obtain ⟨oe, od, mA, J, hl, hr⟩ := held_inst I1 hd
  obtain ⟨w', hw, rw'⟩ := RelO.some_of (v := v) (o := mA f) (by rw [← hv]; exact hr f)
  exact HandSPX.exc_get I1.kIn J C.hg C.hk C.hs (PySem.W.findObj_own C.hd hno rfl (by rw [hl, hw])) (handed_of rw') ⟨v, H1, I1.tok _, rw', q⟩
end LH

set_option maxHeartbeats 2000000
namespace LH
open PySem PySem.Spec PySem.Calls PyProof.Rows L2
open PySem.W (Frag clsIn findIn subIn typeIn nsIn keepIn codeIn hasDictIn mroIn excObj InstAt dictOf)
/-! ### raise C(text), made by the __init__ of its base: its own dict holds its kind alone -/
def heFields (kd : Str) : List (Str × V) := [("kind", .str kd)]
theorem he_ns {h : Heap} {dx : Addr} {k0 : Int} {q0 tk1 : Tok} {kd : Str} {n : Nat} (e : h.get? dx = some (dictOf [⟨k0, .str "kind" q0, .str kd tk1⟩] n)) :
    ∃ mA, h.Ns1 dx mA ∧ ∀ f, RelO (List.lookup f (heFields kd)) (mA f) := by
  refine ⟨fun f => if f = "kind" then some (.str kd tk1) else none, ⟨_, _, _, e, rfl, fun x hx => ?_, ?_, fun f => ?_⟩, fun f => ?_⟩
  · simp only [List.mem_toArray, List.mem_cons, List.mem_nil_iff, or_false] at hx
    rw [hx]
    exact ⟨_, _, rfl⟩
  · show List.Pairwise _ _
    simp only [List.pairwise_cons, List.mem_nil_iff, or_false]
    exact ⟨fun _ h => h.elim, List.Pairwise.nil⟩
  · unfold nsFind findBy
    rw [List.find?_toArray]
    by_cases h0 : f = "kind"
    · subst h0
      simp [List.find?, Value.isStr]
    · have z0 : ((Str.ofString "kind" : Str) == f) = false := by simpa using fun h => h0 h.symm
      simp [List.find?, Value.isStr, z0, h0]
  · unfold heFields
    dsimp only
    by_cases h0 : f = "kind"
    · subst h0
      show RelO (some (V.str kd)) _
      rw [if_pos rfl]
      exact ⟨_, rfl⟩
    · have z0 : (f == (Str.ofString "kind" : Str)) = false := by simpa using h0
      rw [if_neg h0]
      simp only [List.lookup, z0]
      trivial
/-- the class as its raisers see it -/
structure HeC (prog : Program) (K : Frag) (mg : Str → Option Value) (nm : Str) (C D fH cc cda : Addr) (kd : Str) : Prop where
  txt : HeTxt prog K C D fH cc cda kd
  ini : findIn K (.ref C) "__init__" = some (some (.ref fH))
  mg : mg nm = some (.ref C)
  kp : keepIn K (.ref C) = true
  ex : subIn K (.ref C) (.type "BaseException") = some true
  ty : typeIn K (.ref C) = some (.type "type")
section
variable {prog : Program} {w : World} {A : Around} {R : Result → Shared → Prop} {K : Frag} {mg : Str → Option Value} {C D fH cc cda : Addr} {nm kd : Str}
theorem he_made (T : HeTxt prog K C D fH cc cda kd) (hini : findIn K (.ref C) "__init__" = some (some (.ref fH))) {s : Shared} (M : Mod K mg s.heap) {a : Value} (hroom : A.depth + 1 < recursionLimit)
    (hq : ∀ h' tk e t1 dx k0 q0 tk1 n, (∀ b o, s.heap.get? b = some o → h'.get? b = some o) → s.heap.objs.size ≤ e → h'.get? e = some (excObj C t1 (some dx) .none) → dx ≠ e → s.heap.objs.size ≤ dx →
      h'.get? dx = some (dictOf [⟨k0, .str "kind" q0, .str kd tk1⟩] n) → R (.ok (.ret (.ref e))) { s with heap := h', toks := tk }) :
    codeAny (model prog w) A (.call (.ref C) ⟨[a], []⟩) R s := by
  obtain ⟨nm, N', qn, bs, bm, hdct, sn, sub, ab, col, dd, k0, k1, k2, k3, k5, hC, hT⟩ := PySem.W.excInit_of M.kin T.exi
  obtain ⟨hp, g, dr, tk, os⟩ := s
  have M : Mod K mg hp := M
  have hC : hp.get? C = _ := hC
  have k : ∀ c o, hp.get? c = some o → ((hp.push (PySem.W.kdv_tup [a])).push (HandSPX.excO C hp.objs.size)).get? c = some o := fun c o e => Heap.get?_push_of_some _ (Heap.get?_push_of_some _ e)
  have hget : ((hp.push (PySem.W.kdv_tup [a])).push (HandSPX.excO C hp.objs.size)).get? (hp.objs.size + 1) = some (HandSPX.excO C hp.objs.size) := by heap_get
  have hno : ∀ q, hp.objs.size ≤ q → hp.get? q = none := fun q hq' => by
    cases e : hp.get? q with
    | none => rfl
    | some o => exact absurd (Heap.lt_size e) (Nat.not_lt_of_le hq')
  refine HandSPX.call_own PySem.F.excBase_ValueError hT hC (PySem.W.looks_findIn M.kin hini) (fun self => PySem.W.bind_fn M.kin self T.tyf) (LH.one_le a) ?_
  refine he_init (hp := hp) (s := ⟨(hp.push (PySem.W.kdv_tup [a])).push (HandSPX.excO C hp.objs.size), g, dr, tk, os⟩) T M k ?_ hget (hno _ (Nat.le_succ _)) ?_ fun h' tk' t1 dx q0 tk1 kp hx hlt hn hd => ?_
  · rw [Heap.size_push, Heap.size_push]; omega
  · show A.depth + 1 < recursionLimit
    exact hroom
  · exact ⟨rfl, hq h' tk' (hp.objs.size + 1) t1 dx _ q0 tk1 _ kp (Nat.le_succ _) hx (Nat.ne_of_gt hlt) (Nat.le_of_lt (Nat.lt_of_succ_lt hlt)) hd⟩
end
section
variable {X : Cx} {nm kd : Str} {C D fH cc cda : Addr}
def tMkH (C : Addr) (kd : Str) (ta : TA) : L2.St → Hp → XK → Prop := fun σ H Q => ta σ H fun vs H1 => ∃ v : V, vs = [v] ∧ ∀ d, H1 d = none → Q (.ref C) (some d) (upd H1 d (.xd (heFields kd)))
theorem pmk_he {e1 : Expr} {ta : TA} {p pos : Pos} {k : Nat} (T : HeC X.prog X.K X.mg nm C D fH cc cda kd) (hr : Room k X.A) (ha : PA X [e1] ta) (hg : Gl X nm := by rfl) (hdb : (nm == ("__debug__" : Str)) = false := by decide)
    (he : starEach (e1 :: []) X.env = (false, eval e1 X.env) :: starEach [] X.env := by rfl) (hpl : (backTo pos (starEach [] X.env)).any (·.1) = false := by rfl) :
    PMk X (.Call (.Name nm p) [e1] [] pos) (tMkH C kd ta) := by
  intro pins s σ H Q I h
  refine wpAny_Call_Name_kw (ld_glob I hg T.mg ?_ hdb)
  refine PySem.W.callWith_K (h₀ := X.base) I.ok.mod.kin T.kp (thn (ha.run pos pins s σ H _ I h) fun us s1 hh => ?_) he hpl
  obtain ⟨vs, H1, I1, r1, v, ev, q1⟩ := hh
  subst ev
  refine ⟨I1.kIn, ?_⟩
  obtain ⟨u1, rfl, _⟩ := vals1 r1
  show wpAny _ _ (call (.ref C) [u1]) _ _ _
  obtain ⟨mb, hmb, hbb⟩ := I.ok.mod.blt
  have M1 : Mod X.K X.mg s1.heap := ⟨I1.kIn, I1.ok.mod.glob.keeps I1.bk, ⟨mb, hmb.keeps I1.bk, hbb⟩, I1.nolimit⟩
  obtain ⟨hp, g, dr, tk, os⟩ := s1
  refine wpAny_call (he_made T.txt T.ini M1 (by have := hr.dp; omega) fun h' tk' e t1 d k1 z1 z2 n keep new hoe dne dbig hd => ?_)
  show MkP X pins σ Q (.ref e) ⟨h', g, dr, tk', os⟩
  have old : ∀ c o, hp.get? c = some o → h'.get? c = some o := keep
  have hoe : h'.get? e = some (excObj C t1 (some d) .none) := hoe
  obtain ⟨G', g1, g2⟩ := restrict h' fun c => decide (c ≠ e)
  have gk : ∀ c, c ≠ e → G'.get? c = h'.get? c := fun c hc => g1 c (decide_eq_true hc)
  have ge : G'.get? e = none := g2 e (by simp)
  have oldG : ∀ c o, hp.get? c = some o → G'.get? c = some o := fun c o q => (gk c (Nat.ne_of_lt (Nat.lt_of_lt_of_le (Heap.lt_size q) new))).trans (old c o q)
  obtain ⟨mA, hns, hrel⟩ := he_ns hd
  have ob : ObjOk X.prog X.w (upd H1 d (.xd (heFields kd))) G' d (.xd (heFields kd)) := ⟨mA, hns.at (fun o q => (gk d dne).trans q), hrel⟩
  have J : Inv X pins σ (upd H1 d (.xd (heFields kd))) ⟨G', g, dr, tk', os⟩ := I1.laid (t' := tk') oldG dbig ob
  refine ⟨e, _, _, ⟨G', g, dr, tk', os⟩, _, .ref C, some d, rfl, J, fun c o q => ?_, ge, hoe, ⟨rfl, rfl⟩, rfl, rfl, ?_, rfl, I1.bare, raises_own T.ex T.ty, q1 d (I1.hok.fresh dbig)⟩
  · by_cases hc : c = e
    · have q' : G'.get? c = some o := q
      rw [hc, ge] at q'
      exact nomatch q'
    · exact (gk c hc).symm.trans q
  · rw [upd_ne (Ne.symm dne)]
    exact I1.hok.fresh new
def tRaiseH (C : Addr) (kd : Str) (W : WX) (ta : TA) : TS := fun _ σ H => tMkH C kd ta σ H fun cls d H' => W cls d σ H'
theorem ps_raiseH {e1 : Expr} {ta : TA} {W : WX} {p pos pos2 : Pos} {k : Nat} (hc : X.calm = true) (T : HeC X.prog X.K X.mg nm C D fH cc cda kd) (hr : Room k X.A) (tk : Takes X W) (ha : PA X [e1] ta) (hg : Gl X nm := by rfl) (hdb : (nm == ("__debug__" : Str)) = false := by decide)
    (he : starEach (e1 :: []) X.env = (false, eval e1 X.env) :: starEach [] X.env := by rfl) (hpl : (backTo pos (starEach [] X.env)).any (·.1) = false := by rfl) :
    PS X (.Raise (some (.Call (.Name nm p) [e1] [] pos)) none pos2) (tRaiseH C kd W ta) := ps_raise hc tk (pmk_he T hr ha hg hdb he hpl)
/-- raise C(text): what follows of the classes -/
structure RaiseH (K : Frag) (hs C : Addr) : Prop where
  xc : ExcC K C
  fits : PySem.W.exmOne K (.ref C) (.ref hs) = some true
  base : PySem.W.kitOne K (.ref C) (.type "ValueError") = some true
end
end LH

namespace LH
open PySem PySem.Spec PyProof.Rows L2 Builtin Builtin.Str PySem.StrLaws
/-! ### a text of which nothing is left when some signs are taken from its ends -/
theorem has_mem (y : Str) (c : Nat) : y.cps.contains c = decide (c ∈ TL.tl y) := by
  show y.cps.contains c = decide (c ∈ y.cps.toList)
  simp
theorem strip_none (x y : Str) : (Txt.stripChars x y = ⟨#[]⟩) ↔ (TL.tl x).all (fun c => decide (c ∈ TL.tl y)) = true := by
  have hl : x.cps.toList.length = x.length := by simp [Str.length]
  unfold Txt.stripChars
  rw [stripBy_eq]
  obtain ⟨l1, l2, l3⟩ := lo_facts y.cps.contains x
  obtain ⟨h1, h2, h3, h4⟩ := hi_facts y.cps.contains x (stripLo y.cps.contains true x) l1
  generalize stripLo y.cps.contains true x = lo at *
  generalize stripHi y.cps.contains true x lo = hi at *
  have hs : (strSub x lo hi).cps.toList = (x.cps.toList.drop lo).take (hi - lo) := strSub_toList ..
  have hg : ∀ k, k < x.length → (x.cps.getD k 0) ∈ x.cps.toList := fun k hk => by
    rw [← getD_list, List.getD_eq_getElem?_getD, List.getElem?_eq_getElem (by rw [hl]; exact hk)]
    exact List.getElem_mem _
  rw [List.all_eq_true]
  constructor
  · intro e c hc
    have e0 : (x.cps.toList.drop lo).take (hi - lo) = [] := by rw [← hs, e]
    have e1 : hi = lo := by
      have := congrArg List.length e0
      rw [List.length_take, List.length_drop, hl, List.length_nil] at this
      omega
    have hc' : c ∈ x.cps.toList := hc
    obtain ⟨k, hk, e2⟩ := List.getElem_of_mem hc'
    have ek : c = x.cps.getD k 0 := by
      rw [← getD_list, List.getD_eq_getElem?_getD, List.getElem?_eq_getElem hk, ← e2]; rfl
    rw [hl] at hk
    rw [← has_mem, ek]
    by_cases hkl : k < lo
    · exact l2 k hkl
    · exact h3 k (by omega) hk
  · intro ha
    have hb : ∀ k, k < x.length → y.cps.contains (x.cps.getD k 0) = true := fun k hk => by rw [has_mem]; exact ha _ (hg k hk)
    have : lo = x.length := by
      rcases l3 with h | h
      · exact h
      · by_cases hlt : lo < x.length
        · rw [hb lo hlt] at h; cases h
        · omega
    have e : (x.cps.toList.drop lo).take (hi - lo) = [] := by
      apply List.eq_nil_of_length_eq_zero
      rw [List.length_take, List.length_drop, hl]; omega
    apply TL.ext_tl
    show (strSub x lo hi).cps.toList = []
    rw [hs, e]
theorem strip_eq (x y : Str) : decide (V.str (Txt.stripChars x y) = V.str (Str.ofString "")) = (TL.tl x).all (fun c => decide (c ∈ TL.tl y)) := by
  have e0 : (Str.ofString "") = ⟨#[]⟩ := by decide +kernel
  rw [e0]
  by_cases h : (TL.tl x).all (fun c => decide (c ∈ TL.tl y)) = true
  · rw [h, decide_eq_true (congrArg V.str ((strip_none x y).mpr h))]
  · rw [Bool.not_eq_true] at h
    rw [h, decide_eq_false (fun e => by rw [(strip_none x y).mp (V.str.inj e)] at h; cases h)]
end LH
namespace K04
open PySem PySem.Spec PyProof.Rows L2 LH
def topS (i : Nat) : Stmt := PySem.Challenge.pw_letterhouse_k04_whole_headers_there_and.main.body.getD i (.Pass ⟨0, 0, 0, 0⟩)
def SMALL : Str := Str.ofString "abcdefghijklmnopqrstuvwxyz"
structure Tx (mg : Str → Option Value) (tk : Nat → Tok) : Prop where
  n_ValueError : mg "ValueError" = none
  n_all : mg "all" = none
  n_any : mg "any" = none
  n_enumerate : mg "enumerate" = none
  n_int : mg "int" = none
  n_isinstance : mg "isinstance" = none
  n_len : mg "len" = none
  n_list : mg "list" = none
  n_max : mg "max" = none
  n_min : mg "min" = none
  n_ord : mg "ord" = none
  n_range : mg "range" = none
  n_str : mg "str" = none
  m_PERCENT : mg "PERCENT" = some (.int 37 (tk 0))
  m_SMALL : mg "SMALL" = some (.str SMALL (tk 1))
  m_ROW_SIGNS : mg "ROW_SIGNS" = some (.int 60 (tk 2))
  m_HEADER_WORDS : mg "HEADER_WORDS" = some (.int 3 (tk 3))
  m_HEADER_LETTERS : mg "HEADER_LETTERS" = some (.int 8 (tk 4))
end K04

namespace K04
open PySem PySem.Spec PyProof.Rows L2 LH
/-! ### the classes of refusals -/
/-- what isinstance says of its objects, class by class -/
def KitRow (K : PySem.W.Frag) (ca : Nat → Addr) (C : Addr) (row : List Bool) : Prop := row.length = 19 ∧ ∀ j, j < 19 → PySem.W.kitOne K (.ref C) (.ref (ca (j + 1))) = some (row.getD j false)
structure Ex (K : PySem.W.Frag) (mg : Str → Option Value) (ca : Nat → Addr) : Prop where
  m_HouseError : mg "HouseError" = some (.ref (ca 0))
  m_BadBytes : mg "BadBytes" = some (.ref (ca 1))
  m_BadName : mg "BadName" = some (.ref (ca 2))
  m_BadValue : mg "BadValue" = some (.ref (ca 3))
  m_TooLong : mg "TooLong" = some (.ref (ca 4))
  m_NoTime : mg "NoTime" = some (.ref (ca 5))
  m_BadPiece : mg "BadPiece" = some (.ref (ca 6))
  m_Twice : mg "Twice" = some (.ref (ca 7))
  m_NoLetter : mg "NoLetter" = some (.ref (ca 8))
  m_NoFolder : mg "NoFolder" = some (.ref (ca 9))
  m_BadLine : mg "BadLine" = some (.ref (ca 10))
  m_Wrong : mg "Wrong" = some (.ref (ca 11))
  m_BadRow : mg "BadRow" = some (.ref (ca 12))
  m_BadSixty : mg "BadSixty" = some (.ref (ca 13))
  m_BadSixteens : mg "BadSixteens" = some (.ref (ca 14))
  m_BadTime : mg "BadTime" = some (.ref (ca 15))
  m_BadPeople : mg "BadPeople" = some (.ref (ca 16))
  m_BadHeader : mg "BadHeader" = some (.ref (ca 17))
  m_BadBody : mg "BadBody" = some (.ref (ca 18))
  m_BadRule : mg "BadRule" = some (.ref (ca 19))
  r_BadName : RaiseH K (ca 0) (ca 2)
  t_BadName : KitRow K ca (ca 2) [false, true, false, false, false, false, false, false, false, false, false, false, false, false, false, false, false, false, false]
  r_BadValue : RaiseH K (ca 0) (ca 3)
  t_BadValue : KitRow K ca (ca 3) [false, false, true, false, false, false, false, false, false, false, false, false, false, false, false, false, false, false, false]
  r_TooLong : RaiseH K (ca 0) (ca 4)
  t_TooLong : KitRow K ca (ca 4) [false, false, false, true, false, false, false, false, false, false, false, false, false, false, false, false, false, false, false]
def nms : List Str := [Str.ofString "bytes", Str.ofString "name", Str.ofString "value", Str.ofString "long", Str.ofString "time", Str.ofString "piece", Str.ofString "twice", Str.ofString "letter", Str.ofString "folder", Str.ofString "line", Str.ofString "wrong", Str.ofString "row", Str.ofString "sixty", Str.ofString "sixteens", Str.ofString "badtime", Str.ofString "people", Str.ofString "header", Str.ofString "body", Str.ofString "rule", Str.ofString "base"]
/-- the words of a refusal -/
def kindWords (row : List Bool) : List Str := ((List.range 20).filter fun i => (row ++ [true]).getD i false).map fun i => nms.getD i Str.empty
section
variable {P : Program} {w : World} {K : PySem.W.Frag} {mg : Str → Option Value} {base : Heap} {tk : Nat → Tok} {ca : Nat → Addr}
/-- the list of pairs so far: at p refs to ts, the i-th a pair of a name and its truth -/
def Fnd (H : Hp) (p : Addr) (ts : List Addr) (bs : List Bool) : Prop := H p = some (.lst (ts.map V.ref)) ∧ ∀ i, i < ts.length → H (ts.getD i 0) = some (.tup [.str (nms.getD i Str.empty), .bl (bs.getD i false)])
theorem Fnd.grow {H H' : Hp} {p q : Addr} {ts us : List Addr} {bs : List Bool} (h : Fnd H p ts bs) (s : Same H H') (hq : H' q = some (.lst (ts.map V.ref ++ us.map V.ref))) (hu : ∀ j, j < us.length → H' (us.getD j 0) = some (.tup [.str (nms.getD (ts.length + j) Str.empty), .bl (bs.getD (ts.length + j) false)])) : Fnd H' q (ts ++ us) bs := by
  refine ⟨by rw [hq, List.map_append], fun i hi => ?_⟩
  by_cases hl : i < ts.length
  · rw [getD_app_l _ _ _ hl]
    exact s _ _ (h.2 i hl)
  · rw [getD_app_r _ _ _ (by omega)]
    rw [List.length_append] at hi
    have := hu (i - ts.length) (by omega)
    rw [show ts.length + (i - ts.length) = i by omega] at this
    exact this
/-! ### _law_kind -/
abbrev s__law_kind : Stmt := topS 50
abbrev N__law_kind : List Str := ["_law_e", "_law_found", "_law_words", "_law_word_here", "_law_one_fits"]
abbrev P__law_kind : List Str := ["_law_e"]
theorem sc__law_kind : FnScope N__law_kind ["_law_e"] (defScope s__law_kind) := ⟨rfl, rfl, rfl, by decide +kernel, rfl, by decide +kernel, by decide +kernel⟩
def sp_kind (K : PySem.W.Frag) (ca : Nat → Addr) : Sp := fun vs H Q _ => ∃ (a C dd : Addr) (kd : Str) (row : List Bool), vs = [.ref a] ∧ HeldD H C dd a (heFields kd) ∧ RaiseH K (ca 0) C ∧ KitRow K ca C row ∧ row.getD 10 false = false ∧ New H ((kindWords row).map V.str) Q
set_option maxHeartbeats 8000000 in
theorem ok_kind {f : Addr} {fd : FuncData} {k : Nat} (F : Fun K "_law_kind" "_law_kind" s__law_kind f fd) (T : Tx mg tk) (E : Ex K mg ca) : FnOk P w K mg base CX0 (k + 1) f fd P__law_kind (sp_kind K ca) := by
  refine F.ok sc__law_kind (fun vs H Q _ h => ?_) (fun cdv A outer s H vs Q _ hr h => ?_)
  · obtain ⟨a, C, dd, kd, row, rfl, _⟩ := h
    rfl
  · have nd := sc__law_kind.nd
    obtain ⟨a, C, dd, kd, row, rfl, hE, hR, ⟨hl, hK⟩, hW, q⟩ := h
    refine ⟨_, (pss_cons (ps_set (i := 1) nd rfl (.inl rfl) (pe_lst (pa_cons (pe_tup (pa_cons pe_str (pa_cons (pe_callB (cIsD K) (by rfl) T.n_isinstance (by decide +kernel) (pa_cons (pv 0) (pa_cons (pe_glob (v := .ref (ca 1)) (by rfl) E.m_BadBytes rfl) pa_nil))) pa_nil))) (pa_cons (pe_tup (pa_cons pe_str (pa_cons (pe_callB (cIsD K) (by rfl) T.n_isinstance (by decide +kernel) (pa_cons (pv 0) (pa_cons (pe_glob (v := .ref (ca 2)) (by rfl) E.m_BadName rfl) pa_nil))) pa_nil))) (pa_cons (pe_tup (pa_cons pe_str (pa_cons (pe_callB (cIsD K) (by rfl) T.n_isinstance (by decide +kernel) (pa_cons (pv 0) (pa_cons (pe_glob (v := .ref (ca 3)) (by rfl) E.m_BadValue rfl) pa_nil))) pa_nil))) pa_nil)))))
      (pss_cons (ps_set (i := 1) nd rfl (.inl rfl) (pe_op op_cat (pv 1) (pe_lst (pa_cons (pe_tup (pa_cons pe_str (pa_cons (pe_callB (cIsD K) (by rfl) T.n_isinstance (by decide +kernel) (pa_cons (pv 0) (pa_cons (pe_glob (v := .ref (ca 4)) (by rfl) E.m_TooLong rfl) pa_nil))) pa_nil))) (pa_cons (pe_tup (pa_cons pe_str (pa_cons (pe_callB (cIsD K) (by rfl) T.n_isinstance (by decide +kernel) (pa_cons (pv 0) (pa_cons (pe_glob (v := .ref (ca 5)) (by rfl) E.m_NoTime rfl) pa_nil))) pa_nil))) pa_nil)))))
      (pss_cons (ps_set (i := 1) nd rfl (.inl rfl) (pe_op op_cat (pv 1) (pe_lst (pa_cons (pe_tup (pa_cons pe_str (pa_cons (pe_callB (cIsD K) (by rfl) T.n_isinstance (by decide +kernel) (pa_cons (pv 0) (pa_cons (pe_glob (v := .ref (ca 6)) (by rfl) E.m_BadPiece rfl) pa_nil))) pa_nil))) (pa_cons (pe_tup (pa_cons pe_str (pa_cons (pe_callB (cIsD K) (by rfl) T.n_isinstance (by decide +kernel) (pa_cons (pv 0) (pa_cons (pe_glob (v := .ref (ca 7)) (by rfl) E.m_Twice rfl) pa_nil))) pa_nil))) pa_nil)))))
      (pss_cons (ps_set (i := 1) nd rfl (.inl rfl) (pe_op op_cat (pv 1) (pe_lst (pa_cons (pe_tup (pa_cons pe_str (pa_cons (pe_callB (cIsD K) (by rfl) T.n_isinstance (by decide +kernel) (pa_cons (pv 0) (pa_cons (pe_glob (v := .ref (ca 8)) (by rfl) E.m_NoLetter rfl) pa_nil))) pa_nil))) (pa_cons (pe_tup (pa_cons pe_str (pa_cons (pe_callB (cIsD K) (by rfl) T.n_isinstance (by decide +kernel) (pa_cons (pv 0) (pa_cons (pe_glob (v := .ref (ca 9)) (by rfl) E.m_NoFolder rfl) pa_nil))) pa_nil))) pa_nil)))))
      (pss_cons (ps_set (i := 1) nd rfl (.inl rfl) (pe_op op_cat (pv 1) (pe_lst (pa_cons (pe_tup (pa_cons pe_str (pa_cons (pe_callB (cIsD K) (by rfl) T.n_isinstance (by decide +kernel) (pa_cons (pv 0) (pa_cons (pe_glob (v := .ref (ca 10)) (by rfl) E.m_BadLine rfl) pa_nil))) pa_nil))) (pa_cons (pe_tup (pa_cons pe_str (pa_cons (pe_callB (cIsD K) (by rfl) T.n_isinstance (by decide +kernel) (pa_cons (pv 0) (pa_cons (pe_glob (v := .ref (ca 11)) (by rfl) E.m_Wrong rfl) pa_nil))) pa_nil))) (pa_cons (pe_tup (pa_cons pe_str (pa_cons (pe_callB (cIsD K) (by rfl) T.n_isinstance (by decide +kernel) (pa_cons (pv 0) (pa_cons (pe_glob (v := .ref (ca 12)) (by rfl) E.m_BadRow rfl) pa_nil))) pa_nil))) pa_nil))))))
      (pss_cons (ps_set (i := 1) nd rfl (.inl rfl) (pe_op op_cat (pv 1) (pe_lst (pa_cons (pe_tup (pa_cons pe_str (pa_cons (pe_callB (cIsD K) (by rfl) T.n_isinstance (by decide +kernel) (pa_cons (pv 0) (pa_cons (pe_glob (v := .ref (ca 13)) (by rfl) E.m_BadSixty rfl) pa_nil))) pa_nil))) (pa_cons (pe_tup (pa_cons pe_str (pa_cons (pe_callB (cIsD K) (by rfl) T.n_isinstance (by decide +kernel) (pa_cons (pv 0) (pa_cons (pe_glob (v := .ref (ca 14)) (by rfl) E.m_BadSixteens rfl) pa_nil))) pa_nil))) pa_nil)))))
      (pss_cons (ps_set (i := 1) nd rfl (.inl rfl) (pe_op op_cat (pv 1) (pe_lst (pa_cons (pe_tup (pa_cons pe_str (pa_cons (pe_callB (cIsD K) (by rfl) T.n_isinstance (by decide +kernel) (pa_cons (pv 0) (pa_cons (pe_glob (v := .ref (ca 15)) (by rfl) E.m_BadTime rfl) pa_nil))) pa_nil))) (pa_cons (pe_tup (pa_cons pe_str (pa_cons (pe_callB (cIsD K) (by rfl) T.n_isinstance (by decide +kernel) (pa_cons (pv 0) (pa_cons (pe_glob (v := .ref (ca 16)) (by rfl) E.m_BadPeople rfl) pa_nil))) pa_nil))) pa_nil)))))
      (pss_cons (ps_set (i := 1) nd rfl (.inl rfl) (pe_op op_cat (pv 1) (pe_lst (pa_cons (pe_tup (pa_cons pe_str (pa_cons (pe_callB (cIsD K) (by rfl) T.n_isinstance (by decide +kernel) (pa_cons (pv 0) (pa_cons (pe_glob (v := .ref (ca 17)) (by rfl) E.m_BadHeader rfl) pa_nil))) pa_nil))) (pa_cons (pe_tup (pa_cons pe_str (pa_cons (pe_callB (cIsD K) (by rfl) T.n_isinstance (by decide +kernel) (pa_cons (pv 0) (pa_cons (pe_glob (v := .ref (ca 18)) (by rfl) E.m_BadBody rfl) pa_nil))) pa_nil))) pa_nil)))))
      (pss_cons (ps_set (i := 1) nd rfl (.inl rfl) (pe_op op_cat (pv 1) (pe_lst (pa_cons (pe_tup (pa_cons pe_str (pa_cons (pe_callB (cIsD K) (by rfl) T.n_isinstance (by decide +kernel) (pa_cons (pv 0) (pa_cons (pe_glob (v := .ref (ca 19)) (by rfl) E.m_BadRule rfl) pa_nil))) pa_nil))) (pa_cons (pe_tup (pa_cons pe_str (pa_cons (pe_callB (cIsD K) (by rfl) T.n_isinstance (by decide +kernel) (pa_cons (pv 0) (pa_cons (pe_bltn (v := .ty "ValueError") (by rfl) T.n_ValueError (by decide +kernel) rfl) pa_nil))) pa_nil))) pa_nil)))))
      (pss_cons (ps_setLc (i := 2) (own := [("_law_word_here", 3), ("_law_one_fits", 4)]) (g := gTup K 2 (gCons (gName 3) (gCons (gName 4) gNil))) (by rfl) nd rfl rfl (sw_true rfl rfl rfl (by decide +kernel)) (pi_list (pv 1)) (blkOk_by (N := N__law_kind) (sc := defScope s__law_kind) (by decide +kernel)) (fun _ _ _ _ _ => by exact (pg_tup rfl (pgs_cons (pg_name (i := 3) nd rfl (Or.inl rfl)) (pgs_cons (pg_name (i := 4) nd rfl (Or.inl rfl)) pgs_nil)))) (fun _ _ _ _ _ => (pts_one (pt_val (pv 4)))) (fun _ _ _ _ _ => (pv 3)))
      (pss_cons (ps_if (pt_val (pe_callB (cIsD K) (by rfl) T.n_isinstance (by decide +kernel) (pa_cons (pv 0) (pa_cons (pe_glob (v := .ref (ca 11)) (by rfl) E.m_Wrong rfl) pa_nil))))
        (pss_one (ps_set (i := 2) nd rfl (.inl rfl) (pe_op op_cat (pv 2) (pe_lst (pa_cons (pe_fldD (K := K) (pv 0)) (pa_cons (pe_fldD (K := K) (pv 0)) pa_nil))))))
        pss_nil)
      (pss_one (ps_ret (pv 2)))))))))))))), ?_⟩
    have X := hR.xc
    have rr : ∀ (c : Addr) (u : Value), RelV (.ref c) u → u = .ref c := fun _ _ h => h
    have rt : ∀ (u : Value), RelV (.ty "ValueError") u → u = .type "ValueError" := fun _ h => h
    have bsD : ∀ i, i < 19 → (row ++ [true]).getD i false = row.getD i false := fun i hi => getD_app_l _ _ _ (by omega)
    have bs19 : (row ++ [true]).getD 19 false = true := by rw [getD_app_r _ _ _ (by omega), hl]; rfl
    have n2 : 2 ≤ sizeLine := Nat.le_of_lt (small1000 (by decide))
    have n3 : 3 ≤ sizeLine := Nat.le_of_lt (small1000 (by decide))
    have x0_0 : HeldD H C dd a (heFields kd) := hE
    refine ⟨.ref a, rfl, a, C, dd, _, .ref (ca 1), .ref (ca 1), _, rfl, x0_0, X, rr _, hK 0 (by decide), n2, fun t0 nt0 => ?_⟩
    have v0 := same_upd (o := .tup [.str (Str.ofString "bytes"), .bl (row.getD 0 false)]) nt0
    have x0_1 := x0_0.same v0
    refine ⟨.ref a, rfl, a, C, dd, _, .ref (ca 2), .ref (ca 2), _, rfl, x0_1, X, rr _, hK 1 (by decide), n2, fun t1 nt1 => ?_⟩
    have v1 := same_upd (o := .tup [.str (Str.ofString "name"), .bl (row.getD 1 false)]) nt1
    have x0_2 := x0_1.same v1
    refine ⟨.ref a, rfl, a, C, dd, _, .ref (ca 3), .ref (ca 3), _, rfl, x0_2, X, rr _, hK 2 (by decide), n2, fun t2 nt2 => ?_⟩
    have v2 := same_upd (o := .tup [.str (Str.ofString "value"), .bl (row.getD 2 false)]) nt2
    refine ⟨n3, fun l0 nl0 => ?_⟩
    have w0 := same_upd (o := .lst [V.ref t0, V.ref t1, V.ref t2]) nl0
    have y0 := w0 t0 _ (v2 _ _ (v1 _ _ upd_same))
    have y1 := w0 t1 _ (v2 _ _ upd_same)
    have y2 := w0 t2 _ upd_same
    generalize hH0 : upd _ l0 (.lst [V.ref t0, V.ref t1, V.ref t2]) = H0 at *
    have S0 : Same H H0 := (v0.trans (v1.trans (v2.trans w0)))
    have F0 : Fnd H0 l0 [t0, t1, t2] (row ++ [true]) := by
      refine ⟨by rw [← hH0, upd_same]; rfl, fun i hi => ?_⟩
      have : i = 0 ∨ i = 1 ∨ i = 2 := by have : i < 3 := hi; omega
      rcases this with rfl | rfl | rfl
      · rw [bsD 0 (by decide)]; exact y0
      · rw [bsD 1 (by decide)]; exact y1
      · rw [bsD 2 (by decide)]; exact y2
    have x1_0 : HeldD H0 C dd a (heFields kd) := hE.same S0
    refine ⟨.ref l0, rfl, .ref a, rfl, a, C, dd, _, .ref (ca 4), .ref (ca 4), _, rfl, x1_0, X, rr _, hK 3 (by decide), n2, fun t3 nt3 => ?_⟩
    have v3 := same_upd (o := .tup [.str (Str.ofString "long"), .bl (row.getD 3 false)]) nt3
    have x1_1 := x1_0.same v3
    refine ⟨.ref a, rfl, a, C, dd, _, .ref (ca 5), .ref (ca 5), _, rfl, x1_1, X, rr _, hK 4 (by decide), n2, fun t4 nt4 => ?_⟩
    have v4 := same_upd (o := .tup [.str (Str.ofString "time"), .bl (row.getD 4 false)]) nt4
    refine ⟨n2, fun l1 nl1 => ?_⟩
    have w1 := same_upd (o := .lst [V.ref t3, V.ref t4]) nl1
    have y3 := w1 t3 _ (v4 _ _ upd_same)
    have y4 := w1 t4 _ upd_same
    refine ⟨l0, l1, _, _, rfl, rfl, (v3.trans (v4.trans w1)) _ _ F0.1, upd_same, by rw [List.length_map, sizeLine_eq]; show 5 ≤ 16777216; decide, fun p1 np1 => ?_⟩
    have z1 := same_upd (o := .lst (([t0, t1, t2] : List Addr).map V.ref ++ [V.ref t3, V.ref t4])) np1
    have F1 : Fnd _ p1 [t0, t1, t2, t3, t4] (row ++ [true]) := F0.grow ((v3.trans (v4.trans w1)).trans z1) upd_same (us := [t3, t4]) fun j hj => by
      have : j = 0 ∨ j = 1 := by have : j < 2 := hj; omega
      rcases this with rfl | rfl
      · rw [show [t0, t1, t2].length + 0 = 3 from rfl, bsD 3 (by decide)]; exact z1 _ _ y3
      · rw [show [t0, t1, t2].length + 1 = 4 from rfl, bsD 4 (by decide)]; exact z1 _ _ y4
    have S1 : Same H _ := S0.trans ((v3.trans (v4.trans w1)).trans z1)
    generalize hH1 : upd _ p1 _ = H1 at F1 S1 ⊢
    clear z1 y3 y4 hH1
    have x2_0 : HeldD H1 C dd a (heFields kd) := hE.same S1
    refine ⟨.ref p1, rfl, .ref a, rfl, a, C, dd, _, .ref (ca 6), .ref (ca 6), _, rfl, x2_0, X, rr _, hK 5 (by decide), n2, fun t5 nt5 => ?_⟩
    have v5 := same_upd (o := .tup [.str (Str.ofString "piece"), .bl (row.getD 5 false)]) nt5
    have x2_1 := x2_0.same v5
    refine ⟨.ref a, rfl, a, C, dd, _, .ref (ca 7), .ref (ca 7), _, rfl, x2_1, X, rr _, hK 6 (by decide), n2, fun t6 nt6 => ?_⟩
    have v6 := same_upd (o := .tup [.str (Str.ofString "twice"), .bl (row.getD 6 false)]) nt6
    refine ⟨n2, fun l2 nl2 => ?_⟩
    have w2 := same_upd (o := .lst [V.ref t5, V.ref t6]) nl2
    have y5 := w2 t5 _ (v6 _ _ upd_same)
    have y6 := w2 t6 _ upd_same
    refine ⟨p1, l2, _, _, rfl, rfl, (v5.trans (v6.trans w2)) _ _ F1.1, upd_same, by rw [List.length_map, sizeLine_eq]; show 7 ≤ 16777216; decide, fun p2 np2 => ?_⟩
    have z2 := same_upd (o := .lst (([t0, t1, t2, t3, t4] : List Addr).map V.ref ++ [V.ref t5, V.ref t6])) np2
    have F2 : Fnd _ p2 [t0, t1, t2, t3, t4, t5, t6] (row ++ [true]) := F1.grow ((v5.trans (v6.trans w2)).trans z2) upd_same (us := [t5, t6]) fun j hj => by
      have : j = 0 ∨ j = 1 := by have : j < 2 := hj; omega
      rcases this with rfl | rfl
      · rw [show [t0, t1, t2, t3, t4].length + 0 = 5 from rfl, bsD 5 (by decide)]; exact z2 _ _ y5
      · rw [show [t0, t1, t2, t3, t4].length + 1 = 6 from rfl, bsD 6 (by decide)]; exact z2 _ _ y6
    have S2 : Same H _ := S1.trans ((v5.trans (v6.trans w2)).trans z2)
    generalize hH2 : upd _ p2 _ = H2 at F2 S2 ⊢
    clear z2 y5 y6 hH2
    have x3_0 : HeldD H2 C dd a (heFields kd) := hE.same S2
    refine ⟨.ref p2, rfl, .ref a, rfl, a, C, dd, _, .ref (ca 8), .ref (ca 8), _, rfl, x3_0, X, rr _, hK 7 (by decide), n2, fun t7 nt7 => ?_⟩
    have v7 := same_upd (o := .tup [.str (Str.ofString "letter"), .bl (row.getD 7 false)]) nt7
    have x3_1 := x3_0.same v7
    refine ⟨.ref a, rfl, a, C, dd, _, .ref (ca 9), .ref (ca 9), _, rfl, x3_1, X, rr _, hK 8 (by decide), n2, fun t8 nt8 => ?_⟩
    have v8 := same_upd (o := .tup [.str (Str.ofString "folder"), .bl (row.getD 8 false)]) nt8
    refine ⟨n2, fun l3 nl3 => ?_⟩
    have w3 := same_upd (o := .lst [V.ref t7, V.ref t8]) nl3
    have y7 := w3 t7 _ (v8 _ _ upd_same)
    have y8 := w3 t8 _ upd_same
    refine ⟨p2, l3, _, _, rfl, rfl, (v7.trans (v8.trans w3)) _ _ F2.1, upd_same, by rw [List.length_map, sizeLine_eq]; show 9 ≤ 16777216; decide, fun p3 np3 => ?_⟩
    have z3 := same_upd (o := .lst (([t0, t1, t2, t3, t4, t5, t6] : List Addr).map V.ref ++ [V.ref t7, V.ref t8])) np3
    have F3 : Fnd _ p3 [t0, t1, t2, t3, t4, t5, t6, t7, t8] (row ++ [true]) := F2.grow ((v7.trans (v8.trans w3)).trans z3) upd_same (us := [t7, t8]) fun j hj => by
      have : j = 0 ∨ j = 1 := by have : j < 2 := hj; omega
      rcases this with rfl | rfl
      · rw [show [t0, t1, t2, t3, t4, t5, t6].length + 0 = 7 from rfl, bsD 7 (by decide)]; exact z3 _ _ y7
      · rw [show [t0, t1, t2, t3, t4, t5, t6].length + 1 = 8 from rfl, bsD 8 (by decide)]; exact z3 _ _ y8
    have S3 : Same H _ := S2.trans ((v7.trans (v8.trans w3)).trans z3)
    generalize hH3 : upd _ p3 _ = H3 at F3 S3 ⊢
    clear z3 y7 y8 hH3
    have x4_0 : HeldD H3 C dd a (heFields kd) := hE.same S3
    refine ⟨.ref p3, rfl, .ref a, rfl, a, C, dd, _, .ref (ca 10), .ref (ca 10), _, rfl, x4_0, X, rr _, hK 9 (by decide), n2, fun t9 nt9 => ?_⟩
    have v9 := same_upd (o := .tup [.str (Str.ofString "line"), .bl (row.getD 9 false)]) nt9
    have x4_1 := x4_0.same v9
    refine ⟨.ref a, rfl, a, C, dd, _, .ref (ca 11), .ref (ca 11), _, rfl, x4_1, X, rr _, hK 10 (by decide), n2, fun t10 nt10 => ?_⟩
    have v10 := same_upd (o := .tup [.str (Str.ofString "wrong"), .bl (row.getD 10 false)]) nt10
    have x4_2 := x4_1.same v10
    refine ⟨.ref a, rfl, a, C, dd, _, .ref (ca 12), .ref (ca 12), _, rfl, x4_2, X, rr _, hK 11 (by decide), n2, fun t11 nt11 => ?_⟩
    have v11 := same_upd (o := .tup [.str (Str.ofString "row"), .bl (row.getD 11 false)]) nt11
    refine ⟨n3, fun l4 nl4 => ?_⟩
    have w4 := same_upd (o := .lst [V.ref t9, V.ref t10, V.ref t11]) nl4
    have y9 := w4 t9 _ (v11 _ _ (v10 _ _ upd_same))
    have y10 := w4 t10 _ (v11 _ _ upd_same)
    have y11 := w4 t11 _ upd_same
    refine ⟨p3, l4, _, _, rfl, rfl, (v9.trans (v10.trans (v11.trans w4))) _ _ F3.1, upd_same, by rw [List.length_map, sizeLine_eq]; show 12 ≤ 16777216; decide, fun p4 np4 => ?_⟩
    have z4 := same_upd (o := .lst (([t0, t1, t2, t3, t4, t5, t6, t7, t8] : List Addr).map V.ref ++ [V.ref t9, V.ref t10, V.ref t11])) np4
    have F4 : Fnd _ p4 [t0, t1, t2, t3, t4, t5, t6, t7, t8, t9, t10, t11] (row ++ [true]) := F3.grow ((v9.trans (v10.trans (v11.trans w4))).trans z4) upd_same (us := [t9, t10, t11]) fun j hj => by
      have : j = 0 ∨ j = 1 ∨ j = 2 := by have : j < 3 := hj; omega
      rcases this with rfl | rfl | rfl
      · rw [show [t0, t1, t2, t3, t4, t5, t6, t7, t8].length + 0 = 9 from rfl, bsD 9 (by decide)]; exact z4 _ _ y9
      · rw [show [t0, t1, t2, t3, t4, t5, t6, t7, t8].length + 1 = 10 from rfl, bsD 10 (by decide)]; exact z4 _ _ y10
      · rw [show [t0, t1, t2, t3, t4, t5, t6, t7, t8].length + 2 = 11 from rfl, bsD 11 (by decide)]; exact z4 _ _ y11
    have S4 : Same H _ := S3.trans ((v9.trans (v10.trans (v11.trans w4))).trans z4)
    generalize hH4 : upd _ p4 _ = H4 at F4 S4 ⊢
    clear z4 y9 y10 y11 hH4
    have x5_0 : HeldD H4 C dd a (heFields kd) := hE.same S4
    refine ⟨.ref p4, rfl, .ref a, rfl, a, C, dd, _, .ref (ca 13), .ref (ca 13), _, rfl, x5_0, X, rr _, hK 12 (by decide), n2, fun t12 nt12 => ?_⟩
    have v12 := same_upd (o := .tup [.str (Str.ofString "sixty"), .bl (row.getD 12 false)]) nt12
    have x5_1 := x5_0.same v12
    refine ⟨.ref a, rfl, a, C, dd, _, .ref (ca 14), .ref (ca 14), _, rfl, x5_1, X, rr _, hK 13 (by decide), n2, fun t13 nt13 => ?_⟩
    have v13 := same_upd (o := .tup [.str (Str.ofString "sixteens"), .bl (row.getD 13 false)]) nt13
    refine ⟨n2, fun l5 nl5 => ?_⟩
    have w5 := same_upd (o := .lst [V.ref t12, V.ref t13]) nl5
    have y12 := w5 t12 _ (v13 _ _ upd_same)
    have y13 := w5 t13 _ upd_same
    refine ⟨p4, l5, _, _, rfl, rfl, (v12.trans (v13.trans w5)) _ _ F4.1, upd_same, by rw [List.length_map, sizeLine_eq]; show 14 ≤ 16777216; decide, fun p5 np5 => ?_⟩
    have z5 := same_upd (o := .lst (([t0, t1, t2, t3, t4, t5, t6, t7, t8, t9, t10, t11] : List Addr).map V.ref ++ [V.ref t12, V.ref t13])) np5
    have F5 : Fnd _ p5 [t0, t1, t2, t3, t4, t5, t6, t7, t8, t9, t10, t11, t12, t13] (row ++ [true]) := F4.grow ((v12.trans (v13.trans w5)).trans z5) upd_same (us := [t12, t13]) fun j hj => by
      have : j = 0 ∨ j = 1 := by have : j < 2 := hj; omega
      rcases this with rfl | rfl
      · rw [show [t0, t1, t2, t3, t4, t5, t6, t7, t8, t9, t10, t11].length + 0 = 12 from rfl, bsD 12 (by decide)]; exact z5 _ _ y12
      · rw [show [t0, t1, t2, t3, t4, t5, t6, t7, t8, t9, t10, t11].length + 1 = 13 from rfl, bsD 13 (by decide)]; exact z5 _ _ y13
    have S5 : Same H _ := S4.trans ((v12.trans (v13.trans w5)).trans z5)
    generalize hH5 : upd _ p5 _ = H5 at F5 S5 ⊢
    clear z5 y12 y13 hH5
    have x6_0 : HeldD H5 C dd a (heFields kd) := hE.same S5
    refine ⟨.ref p5, rfl, .ref a, rfl, a, C, dd, _, .ref (ca 15), .ref (ca 15), _, rfl, x6_0, X, rr _, hK 14 (by decide), n2, fun t14 nt14 => ?_⟩
    have v14 := same_upd (o := .tup [.str (Str.ofString "badtime"), .bl (row.getD 14 false)]) nt14
    have x6_1 := x6_0.same v14
    refine ⟨.ref a, rfl, a, C, dd, _, .ref (ca 16), .ref (ca 16), _, rfl, x6_1, X, rr _, hK 15 (by decide), n2, fun t15 nt15 => ?_⟩
    have v15 := same_upd (o := .tup [.str (Str.ofString "people"), .bl (row.getD 15 false)]) nt15
    refine ⟨n2, fun l6 nl6 => ?_⟩
    have w6 := same_upd (o := .lst [V.ref t14, V.ref t15]) nl6
    have y14 := w6 t14 _ (v15 _ _ upd_same)
    have y15 := w6 t15 _ upd_same
    refine ⟨p5, l6, _, _, rfl, rfl, (v14.trans (v15.trans w6)) _ _ F5.1, upd_same, by rw [List.length_map, sizeLine_eq]; show 16 ≤ 16777216; decide, fun p6 np6 => ?_⟩
    have z6 := same_upd (o := .lst (([t0, t1, t2, t3, t4, t5, t6, t7, t8, t9, t10, t11, t12, t13] : List Addr).map V.ref ++ [V.ref t14, V.ref t15])) np6
    have F6 : Fnd _ p6 [t0, t1, t2, t3, t4, t5, t6, t7, t8, t9, t10, t11, t12, t13, t14, t15] (row ++ [true]) := F5.grow ((v14.trans (v15.trans w6)).trans z6) upd_same (us := [t14, t15]) fun j hj => by
      have : j = 0 ∨ j = 1 := by have : j < 2 := hj; omega
      rcases this with rfl | rfl
      · rw [show [t0, t1, t2, t3, t4, t5, t6, t7, t8, t9, t10, t11, t12, t13].length + 0 = 14 from rfl, bsD 14 (by decide)]; exact z6 _ _ y14
      · rw [show [t0, t1, t2, t3, t4, t5, t6, t7, t8, t9, t10, t11, t12, t13].length + 1 = 15 from rfl, bsD 15 (by decide)]; exact z6 _ _ y15
    have S6 : Same H _ := S5.trans ((v14.trans (v15.trans w6)).trans z6)
    generalize hH6 : upd _ p6 _ = H6 at F6 S6 ⊢
    clear z6 y14 y15 hH6
    have x7_0 : HeldD H6 C dd a (heFields kd) := hE.same S6
    refine ⟨.ref p6, rfl, .ref a, rfl, a, C, dd, _, .ref (ca 17), .ref (ca 17), _, rfl, x7_0, X, rr _, hK 16 (by decide), n2, fun t16 nt16 => ?_⟩
    have v16 := same_upd (o := .tup [.str (Str.ofString "header"), .bl (row.getD 16 false)]) nt16
    have x7_1 := x7_0.same v16
    refine ⟨.ref a, rfl, a, C, dd, _, .ref (ca 18), .ref (ca 18), _, rfl, x7_1, X, rr _, hK 17 (by decide), n2, fun t17 nt17 => ?_⟩
    have v17 := same_upd (o := .tup [.str (Str.ofString "body"), .bl (row.getD 17 false)]) nt17
    refine ⟨n2, fun l7 nl7 => ?_⟩
    have w7 := same_upd (o := .lst [V.ref t16, V.ref t17]) nl7
    have y16 := w7 t16 _ (v17 _ _ upd_same)
    have y17 := w7 t17 _ upd_same
    refine ⟨p6, l7, _, _, rfl, rfl, (v16.trans (v17.trans w7)) _ _ F6.1, upd_same, by rw [List.length_map, sizeLine_eq]; show 18 ≤ 16777216; decide, fun p7 np7 => ?_⟩
    have z7 := same_upd (o := .lst (([t0, t1, t2, t3, t4, t5, t6, t7, t8, t9, t10, t11, t12, t13, t14, t15] : List Addr).map V.ref ++ [V.ref t16, V.ref t17])) np7
    have F7 : Fnd _ p7 [t0, t1, t2, t3, t4, t5, t6, t7, t8, t9, t10, t11, t12, t13, t14, t15, t16, t17] (row ++ [true]) := F6.grow ((v16.trans (v17.trans w7)).trans z7) upd_same (us := [t16, t17]) fun j hj => by
      have : j = 0 ∨ j = 1 := by have : j < 2 := hj; omega
      rcases this with rfl | rfl
      · rw [show [t0, t1, t2, t3, t4, t5, t6, t7, t8, t9, t10, t11, t12, t13, t14, t15].length + 0 = 16 from rfl, bsD 16 (by decide)]; exact z7 _ _ y16
      · rw [show [t0, t1, t2, t3, t4, t5, t6, t7, t8, t9, t10, t11, t12, t13, t14, t15].length + 1 = 17 from rfl, bsD 17 (by decide)]; exact z7 _ _ y17
    have S7 : Same H _ := S6.trans ((v16.trans (v17.trans w7)).trans z7)
    generalize hH7 : upd _ p7 _ = H7 at F7 S7 ⊢
    clear z7 y16 y17 hH7
    have x8_0 : HeldD H7 C dd a (heFields kd) := hE.same S7
    refine ⟨.ref p7, rfl, .ref a, rfl, a, C, dd, _, .ref (ca 19), .ref (ca 19), _, rfl, x8_0, X, rr _, hK 18 (by decide), n2, fun t18 nt18 => ?_⟩
    have v18 := same_upd (o := .tup [.str (Str.ofString "rule"), .bl (row.getD 18 false)]) nt18
    have x8_1 := x8_0.same v18
    refine ⟨.ref a, rfl, a, C, dd, _, .ty "ValueError", .type "ValueError", _, rfl, x8_1, X, rt, hR.base, n2, fun t19 nt19 => ?_⟩
    have v19 := same_upd (o := .tup [.str (Str.ofString "base"), .bl (true)]) nt19
    refine ⟨n2, fun l8 nl8 => ?_⟩
    have w8 := same_upd (o := .lst [V.ref t18, V.ref t19]) nl8
    have y18 := w8 t18 _ (v19 _ _ upd_same)
    have y19 := w8 t19 _ upd_same
    refine ⟨p7, l8, _, _, rfl, rfl, (v18.trans (v19.trans w8)) _ _ F7.1, upd_same, by rw [List.length_map, sizeLine_eq]; show 20 ≤ 16777216; decide, fun p8 np8 => ?_⟩
    have z8 := same_upd (o := .lst (([t0, t1, t2, t3, t4, t5, t6, t7, t8, t9, t10, t11, t12, t13, t14, t15, t16, t17] : List Addr).map V.ref ++ [V.ref t18, V.ref t19])) np8
    have F8 : Fnd _ p8 [t0, t1, t2, t3, t4, t5, t6, t7, t8, t9, t10, t11, t12, t13, t14, t15, t16, t17, t18, t19] (row ++ [true]) := F7.grow ((v18.trans (v19.trans w8)).trans z8) upd_same (us := [t18, t19]) fun j hj => by
      have : j = 0 ∨ j = 1 := by have : j < 2 := hj; omega
      rcases this with rfl | rfl
      · rw [show [t0, t1, t2, t3, t4, t5, t6, t7, t8, t9, t10, t11, t12, t13, t14, t15, t16, t17].length + 0 = 18 from rfl, bsD 18 (by decide)]; exact z8 _ _ y18
      · rw [show [t0, t1, t2, t3, t4, t5, t6, t7, t8, t9, t10, t11, t12, t13, t14, t15, t16, t17].length + 1 = 19 from rfl, bs19]; exact z8 _ _ y19
    have S8 : Same H _ := S7.trans ((v18.trans (v19.trans w8)).trans z8)
    generalize hH8 : upd _ p8 _ = H8 at F8 S8 ⊢
    clear z8 y18 y19 hH8
    generalize hts : [t0, t1, t2, t3, t4, t5, t6, t7, t8, t9, t10, t11, t12, t13, t14, t15, t16, t17, t18, t19] = ts at F8
    have htl : ts.length = 20 := by rw [← hts]; rfl
    refine ⟨.ref p8, rfl, p8, rfl, ⟨_, .inl (.inl F8.1)⟩, fun D hD => lc_pairs (ts := ts) (ps := fun i => (.str (nms.getD i Str.empty), .bl ((row ++ [true]).getD i false))) (fun i => .str (nms.getD i Str.empty)) (fun i => (row ++ [true]).getD i false) (by decide) (.inl (.inl F8.1)) (fun i hi => .inl (.inl (F8.2 i hi))) hD (by rw [htl]; exact Nat.le_of_lt (small1000 (by decide))) (fun i H9 Q9 hi sm q9 => ?_) (fun i H9 Q9 hi sm hb q9 => ?_) (fun H9 s9 e9 => ?_)⟩
    · exact ⟨.bl ((row ++ [true]).getD i false), rfl, _, rfl, q9 _ (Same.refl _)⟩
    · exact ⟨.str (nms.getD i Str.empty), rfl, q9 _ (Same.refl _)⟩
    · refine ⟨.ref a, rfl, a, C, dd, _, .ref (ca 11), .ref (ca 11), _, rfl, (hE.same S8).same s9, X, rr _, hK 10 (by decide), _, rfl, ?_⟩
      rw [hW]
      refine iteF ⟨.ref D, rfl, q H9 D (S8.trans s9) (S8.free hD) ?_⟩
      rw [e9, htl]
      unfold kindWords
      rw [List.map_map]
      rfl
end
end K04

namespace K04
open PySem PySem.Spec PyProof.Rows L2 LH
section
variable {P : Program} {w : World} {K : PySem.W.Frag} {mg : Str → Option Value} {base : Heap} {tk : Nat → Tok}
def isSign (c : Nat) : Bool := decide (32 ≤ c) && decide (c ≤ 126) && !decide (c = 37)
def isSmall (c : Nat) : Bool := decide (c ∈ TL.tl SMALL)
def smallW (l : List Nat) (m : Nat) : Bool := decide (1 ≤ l.length) && decide (l.length ≤ m) && l.all isSmall
def isHN (l : List Nat) : Bool := decide ((splitL 45 l).length ≤ 3) && (splitL 45 l).all fun x => smallW x 8
def isVal (l : List Nat) : Bool := l.all isSign && (decide (l = []) || !decide ([] ∈ splitL 32 l))
/-- a thing that is no text -/
def NoStr (K : PySem.W.Frag) (H : Hp) (x : V) : Prop := ∃ t, TyX K H x t ∧ PySem.W.kitOne K t (.type "str") = some false
/-! ### is_sign -/
abbrev s_is_sign : Stmt := topS 24
abbrev N_is_sign : List Str := ["sign"]
abbrev P_is_sign : List Str := ["sign"]
theorem sc_is_sign : FnScope N_is_sign ["sign"] (defScope s_is_sign) := ⟨rfl, rfl, rfl, by decide +kernel, rfl, by decide +kernel, by decide +kernel⟩
def sp_is_sign : Sp := fun vs H Q _ => ∃ c : Nat, vs = [.str ⟨#[c]⟩] ∧ Tell H (.bl (isSign c)) Q
theorem ok_is_sign {f : Addr} {fd : FuncData} {k : Nat} (F : Fun K "is_sign" "is_sign" s_is_sign f fd) (T : Tx mg tk) : FnOk P w K mg base CX0 (k + 1) f fd ["sign"] sp_is_sign := by
  refine F.ok sc_is_sign (fun vs H Q E h => ?_) (fun cdv A outer s H vs Q E hr h => ?_)
  · obtain ⟨i, rfl, _⟩ := h
    rfl
  · have nd := sc_is_sign.nd
    obtain ⟨c, rfl, q⟩ := h
    refine ⟨_, (pss_one (ps_ret (pe_and (pe_chain op_le_str op_le_str pe_str (pv 0) pe_str) (pe_one (pe_cmpR op_ne (pe_callB call_ord (by rfl) T.n_ord (by decide +kernel) (pa_cons (pv 0) pa_nil)) (pe_glob (v := .int 37) (by rfl) T.m_PERCENT ⟨_, rfl⟩) (nomark _)))))), ?_⟩
    refine ⟨.str ⟨#[c]⟩, rfl, Str.ofString " ", ⟨#[c]⟩, rfl, rfl, _, rfl, ?_⟩
    have e1 : (!decide ((⟨#[c]⟩ : Str).cps.toList < (Str.ofString " ").cps.toList)) = decide (32 ≤ c) := by
      rw [show (Str.ofString " ").cps.toList = [32] by decide +kernel]
      show (!decide ([c] < [32])) = _
      by_cases h : 32 ≤ c
      · rw [decide_eq_true h, decide_eq_false (by simp [List.cons_lt_cons_iff]; omega)]; rfl
      · rw [decide_eq_false h, decide_eq_true (by simp [List.cons_lt_cons_iff]; omega)]; rfl
    have e2 : (!decide ((Str.ofString "~").cps.toList < (⟨#[c]⟩ : Str).cps.toList)) = decide (c ≤ 126) := by
      rw [show (Str.ofString "~").cps.toList = [126] by decide +kernel]
      show (!decide ([126] < [c])) = _
      by_cases h : c ≤ 126
      · rw [decide_eq_true h, decide_eq_false (by simp [List.cons_lt_cons_iff]; omega)]; rfl
      · rw [decide_eq_false h, decide_eq_true (by simp [List.cons_lt_cons_iff]; omega)]; rfl
    have q0 := q H (Same.refl _)
    unfold isSign at q0
    rw [e1]
    by_cases h1 : 32 ≤ c
    · rw [decide_eq_true h1] at q0 ⊢
      refine iteT ⟨_, _, rfl, rfl, _, rfl, ?_⟩
      rw [e2]
      by_cases h2 : c ≤ 126
      · rw [decide_eq_true h2] at q0 ⊢
        refine iteT ⟨.str ⟨#[c]⟩, rfl, ⟨#[c]⟩, rfl, rfl, ?_⟩
        refine ⟨rfl, ?_⟩
        have e3 : (!decide (V.int (((⟨#[c]⟩ : Str).cps.getD 0 0 : Nat) : Int) = V.int 37)) = !decide (c = 37) := by
          show (!decide (V.int (c : Int) = V.int 37)) = _
          congr 1
          by_cases h : c = 37
          · subst h; rfl
          · rw [decide_eq_false h, decide_eq_false (fun z => h (by have := V.int.inj z; omega))]
        rw [e3]
        exact q0
      · rw [decide_eq_false h2] at q0 ⊢
        refine iteF q0
    · rw [decide_eq_false h1] at q0 ⊢
      refine iteF ⟨false, rfl, iteF q0⟩
/-! ### is_small_word -/
abbrev s_is_small_word : Stmt := topS 31
abbrev N_is_small_word : List Str := ["text", "most"]
abbrev P_is_small_word : List Str := ["text", "most"]
theorem sc_is_small_word : FnScope N_is_small_word ["text", "most"] (defScope s_is_small_word) := ⟨rfl, rfl, rfl, by decide +kernel, rfl, by decide +kernel, by decide +kernel⟩
def sp_small_word : Sp := fun vs H Q _ => ∃ (z : Str) (m : Nat), vs = [.str z, .int (m : Int)] ∧ z.length ≤ 100000 ∧ Tell H (.bl (smallW (TL.tl z) m)) Q
theorem ok_small_word {f : Addr} {fd : FuncData} {k : Nat} (F : Fun K "is_small_word" "is_small_word" s_is_small_word f fd) (T : Tx mg tk) : FnOk P w K mg base CX0 (k + 1) f fd ["text", "most"] sp_small_word := by
  refine F.ok sc_is_small_word (fun vs H Q E h => ?_) (fun cdv A outer s H vs Q E hr h => ?_)
  · obtain ⟨i, m, rfl, _⟩ := h
    rfl
  · have nd := sc_is_small_word.nd
    obtain ⟨z, m, rfl, hz, q⟩ := h
    refine ⟨_, (pss_one (ps_ret (pe_and (pe_chain op_le op_le pe_int (pe_callB call_len_str (by rfl) T.n_len (by decide +kernel) (pa_cons (pv 0) pa_nil)) (pv 1)) (pe_one (pe_cmpR op_eq (pe_m1 PySem.F.slot_str_strip PySem.F.type_str_strip mt_stripChars (pv 0) (pe_glob (v := .str SMALL) (by rfl) T.m_SMALL ⟨_, rfl⟩)) pe_str (nomark _)))))), ?_⟩
    have hzl : z.length = (TL.tl z).length := TL.len_tl z
    have hsl : z.length ≤ sizeLine := by rw [sizeLine_eq]; omega
    refine ⟨.str z, rfl, z, rfl, hsl, 1, _, rfl, rfl, _, rfl, ?_⟩
    have q0 := q H (Same.refl _)
    unfold smallW at q0 q
    by_cases h1 : 1 ≤ (TL.tl z).length
    · rw [decide_eq_true (show (1 : Int) ≤ ((z.length : Nat) : Int) by omega)]
      rw [decide_eq_true h1] at q0 q
      refine iteT ⟨.int m, rfl, _, _, rfl, rfl, _, rfl, ?_⟩
      by_cases h2 : (TL.tl z).length ≤ m
      · rw [decide_eq_true (show ((z.length : Nat) : Int) ≤ (m : Int) by omega)]
        rw [decide_eq_true h2] at q0 q
        refine iteT ⟨.str z, rfl, ⟨_, rfl⟩, z, SMALL, rfl, rfl, hsl, ?_⟩
        refine ⟨rfl, ?_⟩
        rw [strip_eq]
        exact q0
      · rw [decide_eq_false (show ¬ ((z.length : Nat) : Int) ≤ (m : Int) by omega)]
        rw [decide_eq_false h2] at q0
        exact iteF q0
    · rw [decide_eq_false (show ¬ (1 : Int) ≤ ((z.length : Nat) : Int) by omega)]
      rw [decide_eq_false h1] at q0
      exact iteF ⟨false, rfl, iteF q0⟩
/-! ### is_header_name -/
abbrev s_is_header_name : Stmt := topS 32
abbrev N_is_header_name : List Str := ["thing", "words", "word"]
abbrev P_is_header_name : List Str := ["thing"]
theorem sc_is_header_name : FnScope N_is_header_name ["thing"] (defScope s_is_header_name) := ⟨rfl, rfl, rfl, by decide +kernel, rfl, by decide +kernel, by decide +kernel⟩
def sp_header_name (K : PySem.W.Frag) : Sp := fun vs H Q _ => ∃ x : V, vs = [x] ∧ ((∃ z : Str, x = .str z ∧ z.length ≤ 100000 ∧ Tell H (.bl (isHN (TL.tl z))) Q) ∨ (NoStr K H x ∧ Tell H (.bl false) Q))
theorem ok_header_name {f fS : Addr} {fd fdS : FuncData} (F : Fun K "is_header_name" "is_header_name" s_is_header_name f fd) (T : Tx mg tk) (D_is_small_word : Def P w K mg base "is_small_word" 1 fS fdS ["text", "most"] sp_small_word) : FnOk P w K mg base CX0 2 f fd ["thing"] (sp_header_name K) := by
  refine F.ok sc_is_header_name (fun vs H Q E h => ?_) (fun cdv A outer s H vs Q E hr h => ?_)
  · obtain ⟨x, rfl, _⟩ := h
    rfl
  · have nd := sc_is_header_name.nd
    obtain ⟨x, rfl, h⟩ := h
    refine ⟨_, (pss_cons (ps_if (pt_not (pt_val (pe_callB (cIsi K) (by rfl) T.n_isinstance (by decide +kernel) (pa_cons (pv 0) (pa_cons (pe_bltn (v := .ty "str") (by rfl) T.n_str (by decide +kernel) rfl) pa_nil)))))
        (pss_one (ps_ret pe_bl))
        pss_nil)
      (pss_cons (ps_set (i := 1) nd rfl (.inl rfl) (pe_split (pv 0) pe_str))
      (pss_one (ps_ret (pe_and (pe_cmpR op_le (pe_callB (cLen K) (by rfl) T.n_len (by decide +kernel) (pa_cons (pv 1) pa_nil)) (pe_glob (v := .int 3) (by rfl) T.m_HEADER_WORDS ⟨_, rfl⟩) (nomark _)) (pe_one (pe_callB (cAll K) (by rfl) T.n_all (by decide +kernel) (pa_cons (pe_lc (own := [("word", 2)]) (g := gName 2) (by rfl) nd (pi_list (pv 1)) (blkOk_by (N := N_is_header_name) (sc := defScope s_is_header_name) (by decide +kernel)) (fun _ _ _ _ _ => (pg_name (i := 2) nd rfl (Or.inl rfl))) (fun _ _ _ _ _ => pts_nil) (fun _ _ _ _ _ => (pe_def D_is_small_word (hr.mono (by decide)) (pa_cons (pv 2) (pa_cons (pe_glob (v := .int 8) (by rfl) T.m_HEADER_LETTERS ⟨_, rfl⟩) pa_nil))))) pa_nil)))))))), ?_⟩
    rcases h with ⟨z, rfl, hz, q⟩ | ⟨⟨t, ty, hk⟩, q⟩
    · refine ⟨.str z, rfl, .str z, .ty "str", _, _, true, rfl, .ty _, .base (.str z), kit_ty (by decide +kernel), true, rfl, iteF ?_⟩
      have hzl : z.length = (TL.tl z).length := TL.len_tl z
      have hsp := split_tl (x := z) (y := Str.ofString "-") (s := 45) (by decide +kernel) (by decide)
      refine ⟨.str z, rfl, ⟨_, rfl⟩, z, Str.ofString "-", rfl, rfl, by decide +kernel, by rw [sizeLine_eq]; omega, fun p np => ?_⟩
      have s1 := same_upd (o := .lst ((Txt.split z (Str.ofString "-")).map V.str)) np
      generalize Txt.split z (Str.ofString "-") = ws at *
      have hwl : ws.length = (splitL 45 (TL.tl z)).length := by rw [← hsp, List.length_map]
      have hlw := splitL_len 45 (TL.tl z)
      refine ⟨.ref p, rfl, p, _, rfl, .inl (.inl (.inl upd_same)), _, _, rfl, rfl, _, rfl, ?_⟩
      have hm : (ws.map V.str).length = ws.length := List.length_map ..
      rw [hm]
      have q0 := q _ s1
      unfold isHN at q0 q
      by_cases h1 : (splitL 45 (TL.tl z)).length ≤ 3
      · rw [decide_eq_true (show ((ws.length : Nat) : Int) ≤ 3 by omega)]
        rw [decide_eq_true h1] at q
        refine iteT ⟨.ref p, rfl, p, rfl, ⟨_, .inl (.inl upd_same)⟩, fun D hD => lc_pure (fun i => (ws.map V.str).getD i .non) (fun i => .bl (smallW (TL.tl (ws.getD i Str.empty)) 8)) walk_listF (fun H1 sm => sm.seq (.inl (.inl upd_same))) hD (by rw [hm, sizeLine_eq]; omega) (fun i H1 Q1 hi sm q1 => ?_) (fun H1 sm e => ?_)⟩
        · rw [hm] at hi
          have ei : (ws.map V.str).getD i .non = .str (ws.getD i Str.empty) := by
            rw [List.getD_eq_getElem?_getD, List.getElem?_map, List.getElem?_eq_getElem hi, List.getD_eq_getElem?_getD, List.getElem?_eq_getElem hi]
            rfl
          rw [ei]
          refine ⟨.str (ws.getD i Str.empty), rfl, ws.getD i Str.empty, 8, rfl, ?_, q1⟩
          have hmem : TL.tl (ws.getD i Str.empty) ∈ splitL 45 (TL.tl z) := by
            rw [← hsp, List.getD_eq_getElem?_getD, List.getElem?_eq_getElem hi]
            exact List.mem_map.mpr ⟨ws[i], List.getElem_mem hi, rfl⟩
          have := splitL_le 45 (TL.tl z) _ hmem
          rw [TL.len_tl]
          omega
        · refine ⟨D, (List.range ws.length).map fun i => smallW (TL.tl (ws.getD i Str.empty)) 8, rfl, .inl (.inl (by rw [e, hm, List.map_map]; rfl)), ?_⟩
          rw [lall_range ws Str.empty fun x => smallW (TL.tl x) 8]
          have ea : (ws.all fun x => smallW (TL.tl x) 8) = (splitL 45 (TL.tl z)).all fun x => smallW x 8 := by
            rw [← hsp, List.all_map]
            rfl
          rw [ea]
          exact q _ (s1.trans sm)
      · rw [decide_eq_false (show ¬ ((ws.length : Nat) : Int) ≤ 3 by omega)]
        rw [decide_eq_false h1] at q0
        exact iteF q0
    · exact ⟨x, rfl, x, .ty "str", t, _, false, rfl, .ty _, ty, hk, false, rfl, iteT (q _ (Same.refl _))⟩
/-! ### is_value -/
abbrev s_is_value : Stmt := topS 33
abbrev N_is_value : List Str := ["thing", "sign"]
abbrev P_is_value : List Str := ["thing"]
theorem sc_is_value : FnScope N_is_value ["thing"] (defScope s_is_value) := ⟨rfl, rfl, rfl, by decide +kernel, rfl, by decide +kernel, by decide +kernel⟩
def sp_value (K : PySem.W.Frag) : Sp := fun vs H Q _ => ∃ x : V, vs = [x] ∧ ((∃ z : Str, x = .str z ∧ z.length ≤ 100000 ∧ Tell H (.bl (isVal (TL.tl z))) Q) ∨ (NoStr K H x ∧ Tell H (.bl false) Q))
theorem ok_value {f fS : Addr} {fd fdS : FuncData} (F : Fun K "is_value" "is_value" s_is_value f fd) (T : Tx mg tk) (D_is_sign : Def P w K mg base "is_sign" 1 fS fdS ["sign"] sp_is_sign) : FnOk P w K mg base CX0 2 f fd ["thing"] (sp_value K) := by
  refine F.ok sc_is_value (fun vs H Q E h => ?_) (fun cdv A outer s H vs Q E hr h => ?_)
  · obtain ⟨x, rfl, _⟩ := h
    rfl
  · have nd := sc_is_value.nd
    obtain ⟨x, rfl, h⟩ := h
    refine ⟨_, (pss_cons (ps_if (PW.pt (pw_or (pt_not (pt_val (pe_callB (cIsi K) (by rfl) T.n_isinstance (by decide +kernel) (pa_cons (pv 0) (pa_cons (pe_bltn (v := .ty "str") (by rfl) T.n_str (by decide +kernel) rfl) pa_nil))))) (pw_or1 (pt_not (pt_val (pe_callB (cAll K) (by rfl) T.n_all (by decide +kernel) (pa_cons (pe_lc (own := [("sign", 1)]) (g := gName 1) (by rfl) nd (pi_str (pv 0)) (blkOk_by (N := N_is_value) (sc := defScope s_is_value) (by decide +kernel)) (fun _ _ _ _ _ => (pg_name (i := 1) nd rfl (Or.inl rfl))) (fun _ _ _ _ _ => pts_nil) (fun _ _ _ _ _ => (pe_def D_is_sign (hr.mono (by decide)) (pa_cons (pv 1) pa_nil)))) pa_nil)))))))
        (pss_one (ps_ret pe_bl))
        pss_nil)
      (pss_one (ps_ret (pe_or (pe_cmpR op_eq (pv 0) pe_str (nomark _)) (pe_one (pe_cmpR (oNotIn K) pe_str (pe_split (pv 0) pe_str) (by rfl))))))), ?_⟩
    rcases h with ⟨z, rfl, hz, q⟩ | ⟨⟨t, ty, hk⟩, q⟩
    · refine ⟨.str z, rfl, .str z, .ty "str", _, _, true, rfl, .ty _, .base (.str z), kit_ty (by decide +kernel), true, rfl, iteF ?_⟩
      have hzl : z.length = (TL.tl z).length := TL.len_tl z
      have hsl : z.length ≤ sizeLine := by rw [sizeLine_eq]; omega
      unfold isVal at q
      refine ⟨.str z, rfl, z, rfl, fun D hD => lc_pure (fun i => .str ⟨#[(TL.tl z).getD i 0]⟩) (fun i => .bl (isSign ((TL.tl z).getD i 0))) walk_strF (fun _ _ => trivial) hD (by rw [← hzl]; exact hsl) (fun i H1 Q1 hi sm q1 => ?_) (fun H1 sm e => ?_)⟩
      · exact ⟨.str ⟨#[(TL.tl z).getD i 0]⟩, rfl, (TL.tl z).getD i 0, rfl, q1⟩
      · refine ⟨D, (List.range (TL.tl z).length).map fun i => isSign ((TL.tl z).getD i 0), rfl, .inl (.inl (by rw [e, List.map_map]; rfl)), _, rfl, ?_⟩
        rw [lall_range]
        cases hs : (TL.tl z).all isSign with
        | false =>
          rw [hs] at q
          exact iteT (q _ sm)
        | true =>
          rw [hs] at q
          refine iteF ⟨.str z, rfl, rfl, _, rfl, ?_⟩
          have hsp := split_tl (x := z) (y := Str.ofString " ") (s := 32) (by decide +kernel) (by decide)
          by_cases h0 : TL.tl z = []
          · have ez : z = Str.ofString "" := TL.ext_tl (by rw [h0]; decide +kernel)
            rw [decide_eq_true h0] at q
            rw [ez, decide_eq_true rfl]
            exact iteT (q _ sm)
          · have ez : ¬ z = Str.ofString "" := fun h => h0 (by rw [h]; decide +kernel)
            rw [decide_eq_false h0] at q
            rw [decide_eq_false (show ¬ V.str z = V.str (Str.ofString "") from fun h => ez (V.str.inj h))]
            refine iteF ⟨.str z, rfl, ⟨_, rfl⟩, z, Str.ofString " ", rfl, rfl, by decide +kernel, by rw [sizeLine_eq]; omega, fun p np => ?_⟩
            have s1 := same_upd (o := .lst ((Txt.split z (Str.ofString " ")).map V.str)) np
            generalize Txt.split z (Str.ofString " ") = ws at *
            refine ⟨p, _, rfl, .inl (.inl (.inl upd_same)), rfl, by simp [flatV], ?_⟩
            have ei : inV (.str (Str.ofString "")) (ws.map V.str) = decide ([] ∈ splitL 32 (TL.tl z)) := by
              rw [← hsp]
              unfold inV
              rw [List.any_map]
              have : ∀ ws : List Str, (ws.any ((fun y => eqV y (.str (Str.ofString ""))) ∘ V.str)) = decide ([] ∈ ws.map TL.tl) := by
                intro ws
                induction ws with
                | nil => rfl
                | cons x r ih =>
                  rw [List.any_cons, ih, List.map_cons]
                  show ((x == Str.ofString "") || _) = _
                  by_cases hx : x = Str.ofString ""
                  · have : TL.tl x = [] := by rw [hx]; decide +kernel
                    simp [hx, this]
                    left; decide +kernel
                  · have h2 : ¬ TL.tl x = [] := fun h => hx (TL.ext_tl (by rw [h]; decide +kernel))
                    have h3 : ¬ [] = TL.tl x := fun h => h2 h.symm
                    simp [hx, h3]
              exact this ws
            show Q (.bl (!inV (.str (Str.ofString "")) (ws.map V.str))) _
            rw [ei]
            exact q _ (sm.trans s1)
    · exact ⟨x, rfl, x, .ty "str", t, _, false, rfl, .ty _, ty, hk, false, rfl, iteT (q _ (Same.refl _))⟩
end
end K04
namespace K04
open PySem PySem.Spec PyProof.Rows L2 LH
section
variable {P : Program} {w : World} {K : PySem.W.Frag} {mg : Str → Option Value} {base : Heap} {tk : Nat → Tok}
/-! ### _law_cell, _law_mixed, _law_next, _law_sixty -/
/-! ### _law_cell -/
abbrev s__law_cell : Stmt := topS 43
abbrev N__law_cell : List Str := ["_law_script", "_law_k"]
abbrev P__law_cell : List Str := ["_law_script", "_law_k"]
theorem sc__law_cell : FnScope N__law_cell ["_law_script", "_law_k"] (defScope s__law_cell) := ⟨rfl, rfl, rfl, by decide +kernel, rfl, by decide +kernel, by decide +kernel⟩
def sp_cell (K : PySem.W.Frag) : Sp := fun vs H Q _ => ∃ (a : Addr) (ns : List Int) (k : Nat), vs = [.ref a, .int (k : Int)] ∧ SqL K H a (ns.map V.int) ∧ Tell H (.int (ns.getD k 0)) Q
theorem ok_cell {f : Addr} {fd : FuncData} {k : Nat} (F : Fun K "_law_cell" "_law_cell" s__law_cell f fd) (T : Tx mg tk) : FnOk P w K mg base CX0 (k + 1) f fd P__law_cell (sp_cell K) := by
  refine F.ok sc__law_cell (fun vs H Q E h => ?_) (fun cdv A outer s H vs Q E hr h => ?_)
  · obtain ⟨a, ns, j, rfl, _⟩ := h
    rfl
  · have nd := sc__law_cell.nd
    obtain ⟨a, ns, j, rfl, hS, q⟩ := h
    refine ⟨_, (pss_cons (ps_if (pt_cmpR op_lt (pv 1) (pe_callB (cLen K) (by rfl) T.n_len (by decide +kernel) (pa_cons (pv 0) pa_nil)) (nomark _))
        (pss_one (ps_ret (pe_ix (ixL K) (pv 0) (pv 1) (fun _ _ => rfl))))
        pss_nil)
      (pss_one (ps_ret pe_int))), ?_⟩
    refine ⟨.int j, rfl, .ref a, rfl, a, _, rfl, .inl hS, _, _, rfl, rfl, _, rfl, ite2 (fun e => ?_) (fun e => ?_)⟩
    · have h1 : j < ns.length := by
        have := of_decide_eq_true e
        rw [List.length_map] at this
        omega
      refine ⟨.ref a, rfl, .int j, rfl, a, _, j, .int (ns[j]), rfl, rfl, hS, atI_nat (by rw [List.getElem?_map, List.getElem?_eq_getElem h1]; rfl), ?_⟩
      have := q H (Same.refl _)
      rw [List.getD_eq_getElem?_getD, List.getElem?_eq_getElem h1] at this
      exact this
    · have h1 : ns.length ≤ j := by
        have : ¬ (j : Int) < ((ns.map V.int).length : Nat) := fun z => e (decide_eq_true z)
        rw [List.length_map] at this
        omega
      have := q H (Same.refl _)
      rw [List.getD_eq_getElem?_getD, List.getElem?_eq_none h1] at this
      exact this
/-! ### _law_mixed -/
abbrev s__law_mixed : Stmt := topS 44
abbrev N__law_mixed : List Str := ["_law_cell_here", "_law_k"]
abbrev P__law_mixed : List Str := ["_law_cell_here", "_law_k"]
theorem sc__law_mixed : FnScope N__law_mixed ["_law_cell_here", "_law_k"] (defScope s__law_mixed) := ⟨rfl, rfl, rfl, by decide +kernel, rfl, by decide +kernel, by decide +kernel⟩
def mixed (c k : Int) : Int := (c * 48271 + 7919 * k * k * k + 104729) % 2147483647 * 16807 % 2147483629
theorem mixed_lt (c k : Int) : 0 ≤ mixed c k ∧ mixed c k < 2147483629 := ⟨Int.emod_nonneg _ (by decide), Int.emod_lt_of_pos _ (by decide)⟩
def sp_mixed : Sp := fun vs H Q _ => ∃ (c k : Int), vs = [.int c, .int k] ∧ 0 ≤ k ∧ k < 1000 ∧ Tell H (.int (mixed c k)) Q
theorem ok_mixed {f : Addr} {fd : FuncData} {k : Nat} (F : Fun K "_law_mixed" "_law_mixed" s__law_mixed f fd) : FnOk P w K mg base CX0 (k + 1) f fd P__law_mixed sp_mixed := by
  refine F.ok sc__law_mixed (fun vs H Q E h => ?_) (fun cdv A outer s H vs Q E hr h => ?_)
  · obtain ⟨c, j, rfl, _⟩ := h
    rfl
  · have nd := sc__law_mixed.nd
    obtain ⟨c, j, rfl, h0, h1, q⟩ := h
    refine ⟨_, (pss_one (ps_ret (pe_op op_mod (pe_op op_mul (pe_op op_mod (pe_op op_add (pe_op op_add (pe_op op_mul (pv 0) pe_int) (pe_op op_mul (pe_op op_mul (pe_op op_mul pe_int (pv 1)) (pv 1)) (pv 1))) pe_int) pe_int) pe_int) pe_int))), ?_⟩
    refine ⟨.int c, rfl, c, 48271, rfl, rfl, .inr (by decide), .int j, rfl, 7919, j, rfl, rfl, .inl (by decide), .int j, rfl, _, j, rfl, rfl, .inr ⟨by omega, by omega⟩, .int j, rfl, _, j, rfl, rfl, .inr ⟨by omega, by omega⟩, _, _, rfl, rfl, _, _, rfl, rfl, _, _, rfl, rfl, (show (0 : Int) < 2147483647 by decide), _, _, rfl, rfl, .inr (by decide), _, _, rfl, rfl, (show (0 : Int) < 2147483629 by decide), q _ (Same.refl _)⟩
/-! ### _law_next -/
abbrev s__law_next : Stmt := topS 45
abbrev N__law_next : List Str := ["_law_number", "_law_k"]
abbrev P__law_next : List Str := ["_law_number", "_law_k"]
theorem sc__law_next : FnScope N__law_next ["_law_number", "_law_k"] (defScope s__law_next) := ⟨rfl, rfl, rfl, by decide +kernel, rfl, by decide +kernel, by decide +kernel⟩
def nextN (n k : Int) : Int := (n * (k * k + 1) + 1009 * k + 11) * 69621 % 2147483629
theorem nextN_lt (c k : Int) : 0 ≤ nextN c k ∧ nextN c k < 2147483629 := ⟨Int.emod_nonneg _ (by decide), Int.emod_lt_of_pos _ (by decide)⟩
def sp_next : Sp := fun vs H Q _ => ∃ (c k : Int), vs = [.int c, .int k] ∧ 0 ≤ c ∧ c < 2147483648 ∧ 0 ≤ k ∧ k < 1000 ∧ Tell H (.int (nextN c k)) Q
theorem ok_next {f : Addr} {fd : FuncData} {k : Nat} (F : Fun K "_law_next" "_law_next" s__law_next f fd) : FnOk P w K mg base CX0 (k + 1) f fd P__law_next sp_next := by
  refine F.ok sc__law_next (fun vs H Q E h => ?_) (fun cdv A outer s H vs Q E hr h => ?_)
  · obtain ⟨c, j, rfl, _⟩ := h
    rfl
  · have nd := sc__law_next.nd
    obtain ⟨c, j, rfl, hc, hc1, h0, h1, q⟩ := h
    refine ⟨_, (pss_one (ps_ret (pe_op op_mod (pe_op op_mul (pe_op op_add (pe_op op_add (pe_op op_mul (pv 0) (pe_op op_add (pe_op op_mul (pv 1) (pv 1)) pe_int)) (pe_op op_mul pe_int (pv 1))) pe_int) pe_int) pe_int))), ?_⟩
    refine ⟨.int c, rfl, .int j, rfl, .int j, rfl, j, j, rfl, rfl, .inr ⟨by omega, by omega⟩, _, 1, rfl, rfl, c, _, rfl, rfl, .inl ⟨by omega, by omega⟩, .int j, rfl, 1009, j, rfl, rfl, .inl (by decide), _, _, rfl, rfl, _, _, rfl, rfl, _, _, rfl, rfl, .inr (by decide), _, _, rfl, rfl, (show (0 : Int) < 2147483629 by decide), q _ (Same.refl _)⟩
end
end K04

namespace K04
open PySem PySem.Spec PyProof.Rows L2 LH
section
variable {P : Program} {w : World} {K : PySem.W.Frag} {mg : Str → Option Value} {base : Heap} {tk : Nat → Tok}
/-! ### the signs -/
def SG1 : Str := Str.ofString " !\"#$&'()*+,-./0123456789:;<=>?@ABCDEFGHIJKLMNOPQRSTUVWXYZ[\\]^_`"
def SG2 : Str := Str.ofString "abcdefghijklmnopqrstuvwxyz{|}~"
def SIGNS : Str := SG1 ++ SG2
theorem tl_SIGNS : TL.tl SIGNS = ((List.range 95).map fun x => x + 32).filter fun x => decide (x ≠ 37) := by
  unfold SIGNS
  rw [TL.tl_append]
  decide +kernel
theorem SIGNS_len : SIGNS.length = 94 := by rw [TL.len_tl, tl_SIGNS]; decide +kernel
theorem in_SIGNS (c : Nat) : decide (c ∈ TL.tl SIGNS) = isSign c := by
  rw [tl_SIGNS]
  unfold isSign
  rw [Bool.eq_iff_iff]
  simp only [List.mem_filter, List.mem_map, List.mem_range, decide_eq_true_eq, Bool.and_eq_true, Bool.not_eq_true', decide_eq_false_iff_not]
  constructor
  · rintro ⟨⟨a, ha, rfl⟩, h2⟩
    exact ⟨⟨by omega, by omega⟩, h2⟩
  · rintro ⟨⟨h1, h2⟩, h3⟩
    exact ⟨⟨c - 32, by omega, by omega⟩, h3⟩
theorem sign_ok {c : Nat} (h : isSign c = true) : c < 1114112 := by
  unfold isSign at h
  simp only [Bool.and_eq_true, decide_eq_true_eq] at h
  omega
theorem tl_SMALL : TL.tl SMALL = (List.range 26).map (· + 97) := by decide +kernel
theorem isSmall_iff (c : Nat) : isSmall c = true ↔ 97 ≤ c ∧ c ≤ 122 := by
  unfold isSmall
  rw [decide_eq_true_eq, tl_SMALL]
  simp only [List.mem_map, List.mem_range]
  constructor
  · rintro ⟨a, ha, rfl⟩; omega
  · rintro ⟨h1, h2⟩; exact ⟨c - 97, by omega, by omega⟩
theorem small_ok {c : Nat} (h : isSmall c = true) : c < 1114112 := by
  have := (isSmall_iff c).mp h
  omega
def smallAt (n : Int) : Nat := (TL.tl SMALL).getD n.toNat 0
theorem smallAt_at {n : Int} (h0 : 0 ≤ n) (h1 : n < 26) : atI (TL.tl SMALL) n = some (smallAt n) ∧ isSmall (smallAt n) = true := by
  have hl : n.toNat < (TL.tl SMALL).length := by rw [tl_SMALL]; simp; omega
  obtain ⟨m, rfl⟩ : ∃ m : Nat, n = (m : Int) := ⟨n.toNat, by omega⟩
  unfold smallAt
  rw [Int.toNat_natCast] at hl ⊢
  rw [List.getD_eq_getElem?_getD, List.getElem?_eq_getElem hl]
  refine ⟨atI_nat (List.getElem?_eq_getElem hl), ?_⟩
  unfold isSmall
  exact decide_eq_true (List.getElem_mem hl)
/-! ### _law_signs -/
abbrev s__law_signs : Stmt := topS 46
abbrev N__law_signs : List Str := ["_law_some"]
abbrev P__law_signs : List Str := []
theorem sc__law_signs : FnScope N__law_signs [] (defScope s__law_signs) := ⟨rfl, rfl, rfl, by decide +kernel, rfl, by decide +kernel, by decide +kernel⟩
def sp_signs : Sp := fun vs H Q _ => vs = [] ∧ Q (.str SIGNS) H
theorem ok_signs {f : Addr} {fd : FuncData} {k : Nat} (F : Fun K "_law_signs" "_law_signs" s__law_signs f fd) : FnOk P w K mg base CX0 (k + 1) f fd P__law_signs sp_signs := by
  refine F.ok sc__law_signs (fun vs H Q E h => ?_) (fun cdv A outer s H vs Q E hr h => ?_)
  · obtain ⟨rfl, _⟩ := h
    rfl
  · have nd := sc__law_signs.nd
    obtain ⟨rfl, q⟩ := h
    refine ⟨_, (pss_cons (ps_set (i := 0) nd rfl (.inl rfl) pe_str)
      (pss_one (ps_ret (pe_op op_add_str (pv 0) pe_str)))), ?_⟩
    exact ⟨.str SG1, rfl, SG1, SG2, rfl, rfl, Nat.le_of_lt (small1000 (by decide +kernel)), q⟩
end
end K04

namespace K04
open PySem PySem.Spec PyProof.Rows L2 LH
section
variable {P : Program} {w : World} {K : PySem.W.Frag} {mg : Str → Option Value} {base : Heap} {tk : Nat → Tok}
theorem tl_dash : TL.tl (Str.ofString "-") = [45] := by decide +kernel
theorem tl_blank : TL.tl (Str.ofString " ") = [32] := by decide +kernel
theorem hn_small {l : List Nat} (h : isHN l = true) : ∀ x ∈ splitL 45 l, Sm x ∧ 1 ≤ x.length ∧ x.length ≤ 8 := fun x hx => by
  unfold isHN at h
  rw [Bool.and_eq_true, List.all_eq_true] at h
  have hw := h.2 x hx
  unfold smallW at hw
  rw [Bool.and_eq_true, Bool.and_eq_true, decide_eq_true_eq, decide_eq_true_eq, List.all_eq_true] at hw
  exact ⟨fun c hc => (isSmall_iff c).mp (hw.2 c hc), hw.1.1, hw.1.2⟩
theorem hn_many {l : List Nat} (h : isHN l = true) : (splitL 45 l).length ≤ 3 := by
  unfold isHN at h
  rw [Bool.and_eq_true, decide_eq_true_eq] at h
  exact h.1
theorem great_ok {l : List Nat} (h : isHN l = true) : ∀ c ∈ great l, c < 1114112 := fun c hc => by
  rcases joinL_mem _ _ c hc with h1 | ⟨p, hp, hc⟩
  · rw [List.mem_singleton.mp h1]; decide
  · obtain ⟨x, hx, rfl⟩ := List.mem_map.mp hp
    have hs := (hn_small h x hx).1
    cases x with
    | nil => cases hc
    | cons d r =>
      rcases List.mem_cons.mp hc with rfl | hc
      · have := hs d (by simp); omega
      · have := hs c (by simp [hc]); omega
theorem great_len {l : List Nat} (h : isHN l = true) : (great l).length ≤ 27 := by
  unfold great
  have h1 := joinL_len [45] ((splitL 45 l).map cap)
  have h2 := sum_le 8 (((splitL 45 l).map cap).map List.length) fun x hx => by
    obtain ⟨y, hy, rfl⟩ := List.mem_map.mp hx
    obtain ⟨u, hu, rfl⟩ := List.mem_map.mp hy
    rw [cap_len]
    exact (hn_small h u hu).2.2
  have h3 := hn_many h
  rw [List.length_map] at h2
  rw [List.length_map] at h1 h2
  have : ([45] : List Nat).length = 1 := rfl
  rw [this] at h1
  omega
theorem sm_ok {l : List Nat} (h : Sm l) : ∀ c ∈ l, c < 1114112 := fun c hc => by have := h c hc; omega
/-! ### great_name -/
abbrev s_great_name : Stmt := topS 36
abbrev N_great_name : List Str := ["name", "word"]
abbrev P_great_name : List Str := ["name"]
theorem sc_great_name : FnScope N_great_name ["name"] (defScope s_great_name) := ⟨rfl, rfl, rfl, by decide +kernel, rfl, by decide +kernel, by decide +kernel⟩
def sp_great : Sp := fun vs H Q _ => ∃ z : Str, vs = [.str z] ∧ isHN (TL.tl z) = true ∧ z.length ≤ 1000 ∧ Tell H (.str ⟨(great (TL.tl z)).toArray⟩) Q
theorem ok_great {f : Addr} {fd : FuncData} {k : Nat} (F : Fun K "great_name" "great_name" s_great_name f fd) : FnOk P w K mg base CX0 (k + 1) f fd P_great_name sp_great := by
  refine F.ok sc_great_name (fun vs H Q E h => ?_) (fun cdv A outer s H vs Q E hr h => ?_)
  · obtain ⟨z, rfl, _⟩ := h
    rfl
  · have nd := sc_great_name.nd
    obtain ⟨z, rfl, hn, hz, q⟩ := h
    refine ⟨_, (pss_one (ps_ret (pe_join pe_str (pe_lc (own := [("word", 1)]) (g := gName 1) (by rfl) nd (pi_list (pe_split (pv 0) pe_str)) (blkOk_by (N := N_great_name) (sc := defScope s_great_name) (by decide +kernel)) (fun _ _ _ _ _ => (pg_name (i := 1) nd rfl (Or.inl rfl))) (fun _ _ _ _ _ => pts_nil) (fun _ _ _ _ _ => (pe_capitalize (pv 1))))))), ?_⟩
    have hsp := split_tl (x := z) (y := Str.ofString "-") (s := 45) tl_dash (by decide)
    have hsm := hn_small hn
    have hmy := hn_many hn
    refine ⟨⟨_, rfl⟩, .str z, rfl, ⟨_, rfl⟩, z, Str.ofString "-", rfl, rfl, by decide +kernel, by rw [sizeLine_eq]; omega, fun p np => ?_⟩
    have s1 := same_upd (o := .lst ((Txt.split z (Str.ofString "-")).map V.str)) np
    generalize Txt.split z (Str.ofString "-") = ws at *
    have hm : (ws.map V.str).length = ws.length := List.length_map ..
    have hwl : ws.length = (splitL 45 (TL.tl z)).length := by rw [← hsp, List.length_map]
    have hws : ∀ x ∈ ws, Sm (TL.tl x) ∧ x.length ≤ 8 := fun x hx => by
      have := hsm (TL.tl x) (by rw [← hsp]; exact List.mem_map.mpr ⟨x, hx, rfl⟩)
      exact ⟨this.1, by rw [TL.len_tl]; exact this.2.2⟩
    refine ⟨p, rfl, ⟨_, .inl (.inl upd_same)⟩, fun D hD => lc_pure (fun i => (ws.map V.str).getD i .non) (fun i => .str (Txt.capitalize (ws.getD i Str.empty))) walk_listF (fun H1 sm => sm.seq (.inl (.inl upd_same))) hD (by rw [hm, sizeLine_eq]; omega) (fun i H1 Q1 hi sm q1 => ?_) (fun H1 sm e => ?_)⟩
    · rw [hm] at hi
      rw [getD_str ws i hi]
      have hxm : ws.getD i Str.empty ∈ ws := by
        rw [List.getD_eq_getElem?_getD, List.getElem?_eq_getElem hi]
        exact List.getElem_mem hi
      have := (hws _ hxm).2
      exact ⟨.str (ws.getD i Str.empty), rfl, ⟨_, rfl⟩, _, rfl, rfl, by omega, q1 _ (Same.refl _)⟩
    · rw [hm] at e
      have em : (List.range ws.length).map (fun i => V.str (Txt.capitalize (ws.getD i Str.empty))) = (ws.map Txt.capitalize).map V.str := by
        conv => rhs; rw [← LH.range_getD ws Str.empty]
        rw [List.map_map, List.map_map]
        rfl
      rw [em] at e
      have ecap : (ws.map Txt.capitalize).map TL.tl = (splitL 45 (TL.tl z)).map cap := by
        rw [← hsp, List.map_map, List.map_map]
        exact List.map_congr_left fun x hx => cap_eq x (hws x hx).1
      have eJ : TL.tl (Txt.join (Str.ofString "-") (ws.map Txt.capitalize)) = great (TL.tl z) := by
        rw [TL.join_eq, TL.tl_join, ecap, tl_dash]
        rfl
      have hb := join_len_le (sep := Str.ofString "-") (ws := ws.map Txt.capitalize) (k := 8) (n := 3) (fun x hx => by
        obtain ⟨y, hy, rfl⟩ := List.mem_map.mp hx
        rw [TL.len_tl, cap_eq y (hws y hy).1, cap_len, ← TL.len_tl]
        exact (hws y hy).2) (by rw [List.length_map]; omega)
      have hb2 : 3 * (8 + (Str.ofString "-").length) = 27 := by decide +kernel
      refine ⟨Str.ofString "-", D, ws.map Txt.capitalize, rfl, rfl, .inl (.inl (.inl e)), by omega, ?_⟩
      have : Txt.join (Str.ofString "-") (ws.map Txt.capitalize) = ⟨(great (TL.tl z)).toArray⟩ := TL.ext_tl eJ
      rw [this]
      exact q _ (s1.trans sm)
/-! ### goes_into_rows -/
abbrev s_goes_into_rows : Stmt := topS 35
abbrev N_goes_into_rows : List Str := ["word"]
abbrev P_goes_into_rows : List Str := ["word"]
theorem sc_goes_into_rows : FnScope N_goes_into_rows ["word"] (defScope s_goes_into_rows) := ⟨rfl, rfl, rfl, by decide +kernel, rfl, by decide +kernel, by decide +kernel⟩
def sp_goes : Sp := fun vs H Q _ => ∃ z : Str, vs = [.str z] ∧ z.length ≤ 100000 ∧ Tell H (.bl (decide (z.length < 60))) Q
theorem ok_goes {f : Addr} {fd : FuncData} {k : Nat} (F : Fun K "goes_into_rows" "goes_into_rows" s_goes_into_rows f fd) (T : Tx mg tk) : FnOk P w K mg base CX0 (k + 1) f fd P_goes_into_rows sp_goes := by
  refine F.ok sc_goes_into_rows (fun vs H Q E h => ?_) (fun cdv A outer s H vs Q E hr h => ?_)
  · obtain ⟨z, rfl, _⟩ := h
    rfl
  · have nd := sc_goes_into_rows.nd
    obtain ⟨z, rfl, hz, q⟩ := h
    refine ⟨_, (pss_one (ps_ret (pe_cmpR op_lt (pe_callB call_len_str (by rfl) T.n_len (by decide +kernel) (pa_cons (pv 0) pa_nil)) (pe_glob (v := .int 60) (by rfl) T.m_ROW_SIGNS ⟨_, rfl⟩) (nomark _)))), ?_⟩
    refine ⟨_, rfl, _, rfl, by rw [sizeLine_eq]; omega, _, 60, rfl, rfl, ?_⟩
    have e : decide (((z.length : Nat) : Int) < 60) = decide (z.length < 60) := decide_eq_decide.mpr (by omega)
    show Q (.bl (decide (((z.length : Nat) : Int) < 60))) _
    rw [e]
    exact q _ (Same.refl _)
/-! ### folded -/
abbrev s_folded : Stmt := topS 34
abbrev N_folded : List Str := ["name", "value", "words", "rows", "word"]
abbrev P_folded : List Str := ["name", "value"]
theorem sc_folded : FnScope N_folded ["name", "value"] (defScope s_folded) := ⟨rfl, rfl, rfl, by decide +kernel, rfl, by decide +kernel, by decide +kernel⟩
/-- words of a value -/
def WsOk (ws : List Str) : Prop := ∀ x ∈ ws, WordL (TL.tl x) ∧ x.length ≤ 59
def rowsH (l : List Nat) (ws : List Str) : List V := (strL (hrows l (ws.map TL.tl))).map V.str
def sp_folded : Sp := fun vs H Q _ => ∃ (z : Str) (ws : List Str), vs = [.str z, .str (Txt.join (Str.ofString " ") ws)] ∧ isHN (TL.tl z) = true ∧ z.length ≤ 1000 ∧ WsOk ws ∧ ws.length ≤ 100 ∧ New H (rowsH (TL.tl z) ws) Q
theorem val_len {ws : List Str} (h : WsOk ws) (hl : ws.length ≤ 100) : (Txt.join (Str.ofString " ") ws).length ≤ 6000 ∧ (ws.map (·.length)).sum + ws.length * (Str.ofString " ").length ≤ 6000 := by
  have hb := join_len_le (sep := Str.ofString " ") (k := 59) (n := 100) (fun x hx => (h x hx).2) hl
  have hb2 : 100 * (59 + (Str.ofString " ").length) = 6000 := by decide +kernel
  have := joined_len (Str.ofString " ") ws
  exact ⟨by omega, by omega⟩
theorem val_ok {ws : List Str} (h : WsOk ws) : isVal (TL.tl (Txt.join (Str.ofString " ") ws)) = true := by
  rw [TL.join_eq, TL.tl_join, tl_blank]
  unfold isVal
  rw [Bool.and_eq_true]
  constructor
  · rw [List.all_eq_true]
    intro c hc
    rcases joinL_mem _ _ c hc with h1 | ⟨p, hp, hc⟩
    · rw [List.mem_singleton.mp h1]; rfl
    · obtain ⟨x, hx, rfl⟩ := List.mem_map.mp hp
      have := (h x hx).1.2 c hc
      unfold isSign
      simp only [Bool.and_eq_true, decide_eq_true_eq, Bool.not_eq_true', decide_eq_false_iff_not]
      omega
  · cases ws with
    | nil => rfl
    | cons x r =>
      rw [splitL_join 32 _ (by simp) fun p hp => ?_]
      · rw [Bool.or_eq_true]
        right
        have : ¬ ([] : List Nat) ∈ (x :: r).map TL.tl := fun hm => by
          obtain ⟨y, hy, e⟩ := List.mem_map.mp hm
          exact (h y hy).1.1 e
        rw [decide_eq_false this]
        rfl
      · obtain ⟨y, hy, rfl⟩ := List.mem_map.mp hp
        intro hm
        have := (h y hy).1.2 32 hm
        omega
theorem ok_folded {f fH fV fG fR : Addr} {fd fdH fdV fdG fdR : FuncData} (F : Fun K "folded" "folded" s_folded f fd) (T : Tx mg tk) (D_is_header_name : Def P w K mg base "is_header_name" 2 fH fdH ["thing"] (sp_header_name K)) (D_is_value : Def P w K mg base "is_value" 2 fV fdV ["thing"] (sp_value K)) (D_great_name : Def P w K mg base "great_name" 1 fG fdG P_great_name sp_great) (D_goes_into_rows : Def P w K mg base "goes_into_rows" 1 fR fdR P_goes_into_rows sp_goes) : FnOk P w K mg base CX0 3 f fd P_folded sp_folded := by
  refine F.ok sc_folded (fun vs H Q E h => ?_) (fun cdv A outer s H vs Q E hr h => ?_)
  · obtain ⟨z, ws, rfl, _⟩ := h
    rfl
  · have nd := sc_folded.nd
    obtain ⟨z, ws, rfl, hn, hz, hw, hwl, q⟩ := h
    refine ⟨_, (pss_cons (ps_if (pt_not (pt_val (pe_def D_is_header_name (hr.mono (by decide)) (pa_cons (pv 0) pa_nil))))
        (pss_one ps_never)
        pss_nil)
      (pss_cons (ps_if (pt_not (pt_val (pe_def D_is_value (hr.mono (by decide)) (pa_cons (pv 1) pa_nil))))
        (pss_one ps_never)
        pss_nil)
      (pss_cons (ps_set (i := 2) nd rfl (.inl rfl) (pe_words (pv 1)))
      (pss_cons (ps_if (pt_not (pt_val (pe_callB (cAll K) (by rfl) T.n_all (by decide +kernel) (pa_cons (pe_lc (own := [("word", 4)]) (g := gName 4) (by rfl) nd (pi_list (pv 2)) (blkOk_by (N := N_folded) (sc := defScope s_folded) (by decide +kernel)) (fun _ _ _ _ _ => (pg_name (i := 4) nd rfl (Or.inl rfl))) (fun _ _ _ _ _ => pts_nil) (fun _ _ _ _ _ => (pe_def D_goes_into_rows (hr.mono (by decide)) (pa_cons (pv 4) pa_nil)))) pa_nil))))
        (pss_one ps_never)
        pss_nil)
      (pss_cons (ps_set (i := 3) nd rfl (.inl rfl) (pe_lst (pa_cons (pe_op op_add_str (pe_def D_great_name (hr.mono (by decide)) (pa_cons (pv 0) pa_nil)) pe_str) pa_nil)))
      (pss_cons (ps_for PassesOwn.never rfl (pi_list (pv 2)) (pg_name (i := 4) nd rfl (Or.inl rfl))
        (pss_cons (ps_if (pt_cmpR op_gt (pe_op op_add (pe_op op_add (pe_callB call_len_str (by rfl) T.n_len (by decide +kernel) (pa_cons (pe_ix (ixL K) (pv 3) (pe_un un_neg pe_int) (fun _ _ => rfl)) pa_nil)) pe_int) (pe_callB call_len_str (by rfl) T.n_len (by decide +kernel) (pa_cons (pv 4) pa_nil))) (pe_glob (v := .int 60) (by rfl) T.m_ROW_SIGNS ⟨_, rfl⟩) (nomark _))
          (pss_one (ps_expr (pe_bm PySem.F.plainAttrs_list PySem.F.slot_list_append PySem.F.type_list_append mt_append (pv 3) (pa_cons pe_str pa_nil))))
          pss_nil)
        (pss_one (ps_augS (pv 3) (pe_un un_neg pe_int) (get_listK K) (pe_op op_add_str pe_str (pv 4)) iop_add_str set_list))))
      (pss_one (ps_ret (pv 3))))))))), ?_⟩
    have hvl := val_len hw hwl
    refine ⟨.str z, rfl, _, rfl, .inl ⟨z, rfl, by omega, fun H1 s1 => ⟨_, rfl, ?_⟩⟩⟩
    rw [hn]
    refine iteF ⟨_, rfl, _, rfl, .inl ⟨_, rfl, by omega, fun H2 s2 => ⟨_, rfl, ?_⟩⟩⟩
    rw [val_ok hw]
    refine iteF ⟨_, rfl, ⟨_, rfl⟩, _, rfl, rfl, by rw [sizeLine_eq]; omega, fun p np => ?_⟩
    rw [words_join ws (fun x hx => (hw x hx).1) _ tl_blank]
    have s3 := same_upd (o := .lst (ws.map V.str)) np
    have hm : (ws.map V.str).length = ws.length := List.length_map ..
    generalize hH3 : upd H2 p (.lst (ws.map V.str)) = H3 at *
    have e3 : H3 p = some (.lst (ws.map V.str)) := by rw [← hH3, upd_same]
    refine ⟨.ref p, rfl, p, rfl, ⟨_, .inl (.inl e3)⟩, fun D hD => lc_pure (fun i => (ws.map V.str).getD i .non) (fun i => .bl true) walk_listF (fun H4 sm => sm.seq (.inl (.inl e3))) hD (by rw [hm, sizeLine_eq]; omega) (fun i H4 Q4 hi sm q4 => ?_) (fun H4 s4 e4 => ?_)⟩
    · rw [hm] at hi
      rw [getD_str ws i hi]
      have hxm : ws.getD i Str.empty ∈ ws := by
        rw [List.getD_eq_getElem?_getD, List.getElem?_eq_getElem hi]
        exact List.getElem_mem hi
      have := (hw _ hxm).2
      refine ⟨.str (ws.getD i Str.empty), rfl, _, rfl, by omega, fun H5 s5 => ?_⟩
      rw [decide_eq_true (show (ws.getD i Str.empty).length < 60 by omega)]
      exact q4 _ s5
    · refine ⟨D, (List.range ws.length).map fun _ => true, rfl, .inl (.inl (by rw [e4, hm, List.map_map]; rfl)), _, rfl, ?_⟩
      have ea : ((List.range ws.length).map fun _ => true).all id = true := by
        rw [List.all_map]
        exact List.all_eq_true.mpr fun _ _ => rfl
      rw [ea]
      have hgl := great_len hn
      have hgs : (⟨(great (TL.tl z)).toArray⟩ : Str).length = (great (TL.tl z)).length := mk_len _
      refine iteF ⟨.str z, rfl, z, rfl, hn, hz, fun H5 s5 => ⟨_, Str.ofString ":", rfl, rfl, by rw [hgs, sizeLine_eq, show (Str.ofString ":").length = 1 by decide +kernel]; omega, Nat.le_of_lt (small1000 (show 1 ≤ 1000 by decide)), fun o no => ?_⟩⟩
      have ehd : (⟨(great (TL.tl z)).toArray⟩ : Str) ++ Str.ofString ":" = ⟨(great (TL.tl z) ++ [58]).toArray⟩ := TL.ext_tl (by rw [TL.tl_append, show TL.tl (Str.ofString ":") = [58] by decide +kernel])
      rw [ehd]
      have s6 := same_upd (o := .lst [V.str ⟨(great (TL.tl z) ++ [58]).toArray⟩]) no
      have sA : Same H H5 := s1.trans (s2.trans (s3.trans (s4.trans s5)))
      have hno : H o = none := sA.free no
      have e6 := s6 _ _ (s5 _ _ (s4 _ _ e3))
      refine ⟨.ref p, rfl, p, rfl, ⟨_, .inl (.inl e6)⟩, for_it walk_list (fun i σ H' => ∃ y4, σ = [some (.str z), some (.str (Txt.join (Str.ofString " ") ws)), some (.ref p), some (.ref o), y4] ∧ Same H5 H' ∧ H' o = some (.lst ((strL (hrows (TL.tl z) ((ws.take i).map TL.tl))).map V.str)))
        ⟨none, rfl, s6, upd_same⟩ (fun i σ H' _ h => by obtain ⟨y, rfl, sm, _⟩ := h; exact .inl (.inl (sm _ _ (s5 _ _ (s4 _ _ e3))))) (fun i x σ H' H'' hi hP hy => ?_) (fun σ H' hP => ?_)⟩
      · obtain ⟨y4, rfl, sm, eo⟩ := hP
        obtain ⟨rfl, hx⟩ := hy
        rw [hm] at hi
        rw [List.getElem?_map, List.getElem?_eq_getElem hi] at hx
        obtain rfl := Option.some.inj hx
        have hwi := hw ws[i] (List.getElem_mem hi)
        have hfl := hfold_len (TL.tl z) (by omega) ((ws.take i).map TL.tl) fun x hx => by
          obtain ⟨y, hy, rfl⟩ := List.mem_map.mp hx
          rw [← TL.len_tl]
          exact (hw y (List.mem_of_mem_take hy)).2
        have hst : hrows (TL.tl z) ((ws.take (i + 1)).map TL.tl) = (hstep (hfold (TL.tl z) ((ws.take i).map TL.tl)) (TL.tl ws[i])).1 ++ [(hstep (hfold (TL.tl z) ((ws.take i).map TL.tl)) (TL.tl ws[i])).2] := by
          unfold hrows
          rw [List.take_add_one, List.getElem?_eq_getElem hi, Option.toList_some, List.map_append, List.map_singleton, hfold_snoc]
        unfold hrows at eo
        have htl : ((ws.take i).map TL.tl).length = i := by rw [List.length_map, List.length_take]; omega
        rw [htl] at hfl
        generalize hfold (TL.tl z) ((ws.take i).map TL.tl) = st at *
        obtain ⟨d, c⟩ := st
        rw [strL_app, List.map_append] at eo
        have eo : H'' o = some (.lst ((strL d).map V.str ++ [.str ⟨c.toArray⟩])) := eo
        have hdl : ((strL d).map V.str).length = d.length := by unfold strL; rw [List.length_map, List.length_map]
        have hcl : (⟨c.toArray⟩ : Str).length = c.length := mk_len _
        have hxl : ws[i].length = (TL.tl ws[i]).length := TL.len_tl _
        have ebl : Str.ofString " " ++ ws[i] = ⟨(32 :: TL.tl ws[i]).toArray⟩ := TL.ext_tl (by rw [TL.tl_append, tl_blank]; rfl)
        refine ⟨.ref o, rfl, 1, rfl, o, _, -1, .str ⟨c.toArray⟩, rfl, rfl, .inl (.inl eo), atI_last _ _, _, rfl, by rw [hcl, sizeLine_eq]; have := hfl.1; simp only at this; omega, _, 1, rfl, rfl, .str ws[i], rfl, _, rfl, by rw [sizeLine_eq]; omega, _, _, rfl, rfl, _, 60, rfl, rfl, _, rfl, ?_⟩
        have hdec : decide ((60 : Int) < ((⟨c.toArray⟩ : Str).length : Nat) + 1 + ((ws[i].length : Nat) : Int)) = decide (60 < c.length + 1 + (TL.tl ws[i]).length) := decide_eq_decide.mpr (by rw [hcl, hxl]; omega)
        show (if decide ((60 : Int) < ((⟨c.toArray⟩ : Str).length : Nat) + 1 + ((ws[i].length : Nat) : Int)) = true then _ else _)
        rw [hdec]
        unfold hstep at hst
        refine ite2 (fun hc => ?_) (fun hc => ?_)
        · have hc' := of_decide_eq_true hc
          rw [if_pos hc'] at hst
          refine ⟨.ref o, rfl, .inl ⟨rfl, _, .inl (.inl eo)⟩, o, _, _, rfl, rfl, eo, ?_, ?_⟩
          · rw [List.length_append, hdl, sizeLine_eq]
            have := hfl.2.2
            simp only at this
            show d.length + 1 < 16777216
            omega
          refine ⟨.ref o, rfl, 1, rfl, o, _, -1, .str (Str.ofString ""), rfl, rfl, .inl (.inl upd_same), atI_last _ _, .str ws[i], rfl, Str.ofString " ", ws[i], rfl, rfl, ?_, Str.ofString "", _, rfl, rfl, ?_, o, _, -1, _, rfl, rfl, upd_same, ixN_last _ _, ?_⟩
          · rw [show (Str.ofString " ").length = 1 by decide +kernel, sizeLine_eq]; omega
          · rw [len_app, show (Str.ofString " ").length = 1 by decide +kernel, show (Str.ofString "").length = 0 by decide +kernel, sizeLine_eq]; omega
          · refine ⟨_, rfl, fun b x e => ?_, ?_⟩
            · rw [upd_ne (ne_of_none e no), upd_ne (ne_of_none e no)]
              exact sm _ _ e
            · have ee : Str.ofString "" ++ (Str.ofString " " ++ ws[i]) = ⟨(32 :: TL.tl ws[i]).toArray⟩ := TL.ext_tl (by rw [TL.tl_append, tl_empty, ebl]; rfl)
              rw [upd_same, hst, set_last, ee, strL_app, strL_app, List.map_append, List.map_append]
              rfl
        · have hc' : ¬ 60 < c.length + 1 + (TL.tl ws[i]).length := fun h => hc (decide_eq_true h)
          rw [if_neg hc'] at hst
          refine ⟨.ref o, rfl, 1, rfl, o, _, -1, .str ⟨c.toArray⟩, rfl, rfl, .inl (.inl eo), atI_last _ _, .str ws[i], rfl, Str.ofString " ", ws[i], rfl, rfl, ?_, ⟨c.toArray⟩, _, rfl, rfl, ?_, o, _, -1, _, rfl, rfl, eo, ixN_last _ _, ?_⟩
          · rw [show (Str.ofString " ").length = 1 by decide +kernel, sizeLine_eq]; omega
          · rw [len_app, hcl, show (Str.ofString " ").length = 1 by decide +kernel, sizeLine_eq]; omega
          · refine ⟨_, rfl, fun b x e => ?_, ?_⟩
            · rw [upd_ne (ne_of_none e no)]
              exact sm _ _ e
            · have ee : (⟨c.toArray⟩ : Str) ++ (Str.ofString " " ++ ws[i]) = ⟨(c ++ 32 :: TL.tl ws[i]).toArray⟩ := TL.ext_tl (by rw [TL.tl_append, ebl])
              rw [upd_same, hst, set_last, ee, strL_app, List.map_append]
              rfl
      · obtain ⟨y4, rfl, sm, eo⟩ := hP
        rw [hm, List.take_length] at eo
        exact ⟨.ref o, rfl, q H' o (sA.trans sm) hno eo⟩
end
end K04

namespace K04
open PySem PySem.Spec PyProof.Rows L2 LH
section
variable {P : Program} {w : World} {K : PySem.W.Frag} {mg : Str → Option Value} {base : Heap} {tk : Nat → Tok}
/-! ### names and words of the law -/
theorem smallW_of {l : List Nat} {m : Nat} (h : ∀ c ∈ l, isSmall c = true) (h1 : 1 ≤ l.length) (h2 : l.length ≤ m) : smallW l m = true := by
  unfold smallW
  rw [decide_eq_true h1, decide_eq_true h2, List.all_eq_true.mpr h]
  rfl
theorem hn_join {ws : List Str} (hne : ws ≠ []) (hl : ws.length ≤ 3) (h : ∀ x ∈ ws, (∀ c ∈ TL.tl x, isSmall c = true) ∧ 1 ≤ x.length ∧ x.length ≤ 8) : isHN (TL.tl (Txt.join (Str.ofString "-") ws)) = true := by
  rw [TL.join_eq, TL.tl_join, tl_dash]
  unfold isHN
  rw [splitL_join 45 _ (by simpa using hne) fun p hp => ?_]
  · rw [List.length_map, decide_eq_true hl, Bool.true_and, List.all_map, List.all_eq_true]
    intro x hx
    have := h x hx
    exact smallW_of this.1 (by rw [← TL.len_tl]; exact this.2.1) (by rw [← TL.len_tl]; exact this.2.2)
  · obtain ⟨y, hy, rfl⟩ := List.mem_map.mp hp
    intro hm
    have := (isSmall_iff 45).mp ((h y hy).1 45 hm)
    omega
/-! ### _law_name -/
abbrev s__law_name : Stmt := topS 47
abbrev N__law_name : List Str := ["_law_number", "_law_words", "_law_k", "_law_more", "_law_size", "_law_j"]
abbrev P__law_name : List Str := ["_law_number"]
theorem sc__law_name : FnScope N__law_name ["_law_number"] (defScope s__law_name) := ⟨rfl, rfl, rfl, by decide +kernel, rfl, by decide +kernel, by decide +kernel⟩
def sp_lname : Sp := fun vs H Q _ => ∃ (n : Int), vs = [.int n] ∧ 0 ≤ n ∧ n < 2147483648 ∧ ∀ z : Str, isHN (TL.tl z) = true → z.length ≤ 30 → Tell H (.str z) Q
theorem ok_lname {f fN : Addr} {fd fdN : FuncData} (F : Fun K "_law_name" "_law_name" s__law_name f fd) (T : Tx mg tk) (D__law_next : Def P w K mg base "_law_next" 1 fN fdN P__law_next sp_next) : FnOk P w K mg base CX0 2 f fd P__law_name sp_lname := by
  refine F.ok sc__law_name (fun vs H Q E h => ?_) (fun cdv A outer s H vs Q E hr h => ?_)
  · obtain ⟨n, rfl, _⟩ := h
    rfl
  · have nd := sc__law_name.nd
    obtain ⟨n, rfl, h0, h1, q⟩ := h
    refine ⟨_, (pss_cons (ps_set (i := 1) nd rfl (.inl rfl) (pe_lst pa_nil))
      (pss_cons (ps_for PassesOwn.never rfl (pi_range1 (by rfl) T.n_range (pa_cons (pe_op op_add pe_int (pe_op op_mod (pv 0) pe_int)) pa_nil)) (pg_name (i := 2) nd rfl (Or.inl rfl))
        (pss_cons (ps_set (i := 3) nd rfl (.inr rfl) (pe_def D__law_next (hr.mono (by decide)) (pa_cons (pv 0) (pa_cons (pv 2) pa_nil))))
        (pss_cons (ps_set (i := 4) nd rfl (.inl rfl) (pe_ix (ixL K) (pe_lst (pa_cons (pe_op op_add pe_int (pe_op op_mod (pe_op op_fdiv (pv 3) pe_int) pe_int)) (pa_cons pe_int pa_nil))) (pe_callTy call_int1 (by rfl) T.n_int (by decide +kernel) (pa_cons (pe_cmpR op_lt (pe_op op_mod (pv 3) pe_int) pe_int (nomark _)) pa_nil)) (fun _ _ => rfl)))
        (pss_one (ps_expr (pe_bm PySem.F.plainAttrs_list PySem.F.slot_list_append PySem.F.type_list_append mt_append (pv 1) (pa_cons (pe_join pe_str (pe_lc (own := [("_law_j", 5)]) (g := gName 5) (by rfl) nd (pi_range1 (by rfl) T.n_range (pa_cons (pv 4) pa_nil)) (blkOk_by (N := N__law_name) (sc := defScope s__law_name) (by decide +kernel)) (fun _ _ _ _ _ => (pg_name (i := 5) nd rfl (Or.inl rfl))) (fun _ _ _ _ _ => pts_nil) (fun _ _ _ _ _ => (pe_ix ix_str pe_str (pe_op op_mod (pe_op op_fdiv (pe_def D__law_next (hr.mono (by decide)) (pa_cons (pv 3) (pa_cons (pv 5) pa_nil))) pe_int) pe_int) (fun _ _ => rfl))))) pa_nil)))))))
      (pss_one (ps_ret (pe_join pe_str (pv 1)))))), ?_⟩
    have hm : 0 ≤ n % 3 ∧ n % 3 < 3 := ⟨Int.emod_nonneg _ (by decide), Int.emod_lt_of_pos _ (by decide)⟩
    refine ⟨Nat.zero_le _, fun o no => ?_⟩
    refine ⟨.int n, rfl, n, 3, rfl, rfl, (show (0 : Int) < 3 by decide), 1, _, rfl, rfl, 1 + n % 3, rfl, by omega, by omega, for_it walk_range (fun i σ H' => ∃ (y2 y3 y4 y5 : Option V) (ws : List Str), σ = [some (.int n), some (.ref o), y2, y3, y4, y5] ∧ Same H H' ∧ H' o = some (.lst (ws.map V.str)) ∧ ws.length = i ∧ ∀ x ∈ ws, (∀ c ∈ TL.tl x, isSmall c = true) ∧ 1 ≤ x.length ∧ x.length ≤ 8)
      ⟨none, none, none, none, [], rfl, same_upd no, upd_same, rfl, (fun _ h => by cases h)⟩ (fun _ _ _ _ _ => trivial) (fun i x σ H' H'' hi hP hy => ?_) (fun σ H' hP => ?_)⟩
    · obtain ⟨y2, y3, y4, y5, ws, rfl, sm, eo, hl, hw⟩ := hP
      obtain ⟨rfl, rfl⟩ := hy
      refine ⟨.int n, rfl, _, rfl, n, 0 + (i : Int), rfl, h0, h1, by omega, by omega, fun H2 s2 => ?_⟩
      have hN := nextN_lt n (0 + (i : Int))
      generalize nextN n (0 + (i : Int)) = R at hN
      have hr8 : 0 ≤ R / 7 % 8 ∧ R / 7 % 8 < 8 := ⟨Int.emod_nonneg _ (by decide), Int.emod_lt_of_pos _ (by decide)⟩
      have key : ∀ b : Bool, ∃ t : Nat, atI [V.int (1 + R / 7 % 8), .int 8] (if b then 1 else 0) = some (.int t) ∧ 1 ≤ t ∧ t ≤ 8 := fun b => by
        cases b with
        | false =>
          refine ⟨(1 + R / 7 % 8).toNat, ?_, by omega, by omega⟩
          rw [Int.toNat_of_nonneg (by omega)]
          rfl
        | true => exact ⟨8, rfl, by decide, by decide⟩
      obtain ⟨m, em, hm1, hm8⟩ := key (decide (R % 7 < 2))
      refine ⟨.int R, rfl, R, 7, rfl, rfl, ⟨by decide, by decide⟩, _, 8, rfl, rfl, (show (0 : Int) < 8 by decide), 1, _, rfl, rfl, Nat.le_of_lt (small1000 (show 2 ≤ 1000 by decide)), fun p np => ?_⟩
      have sp := same_upd (o := .lst [V.int (1 + R / 7 % 8), .int 8]) np
      have eo2 := sp _ _ (s2 _ _ eo)
      refine ⟨.int R, rfl, R, 7, rfl, rfl, (show (0 : Int) < 7 by decide), _, 2, rfl, rfl, .inr ⟨_, rfl, p, _, _, .int m, rfl, rfl, .inl (.inl upd_same), em, ?_⟩⟩
      refine ⟨.ref o, rfl, .inl ⟨rfl, _, .inl (.inl eo2)⟩, ⟨_, rfl⟩, .int m, rfl, m, rfl, by omega, by omega, fun D hD => lc_pure (n := m) (fun i => .int (0 + (i : Int))) (fun i => .str ⟨#[smallAt (nextN R (0 + (i : Int)) / 3 % 26)]⟩) walk_range (fun _ _ => trivial) hD (by rw [sizeLine_eq]; omega) (fun j H1 Q1 hj sm q1 => ?_) (fun H3 sm3 e => ?_)⟩
      · refine ⟨.int R, rfl, .int (0 + (j : Int)), rfl, R, 0 + (j : Int), rfl, hN.1, by omega, by omega, by omega, fun H2 s2 => ?_⟩
        have hk := smallAt_at (n := nextN R (0 + (j : Int)) / 3 % 26) (Int.emod_nonneg _ (by decide)) (Int.emod_lt_of_pos _ (by decide))
        exact ⟨_, 3, rfl, rfl, ⟨by decide, by decide⟩, _, 26, rfl, rfl, (show (0 : Int) < 26 by decide), SMALL, _, _, rfl, rfl, Nat.le_of_lt (small1000 (by decide +kernel)), hk.1, q1 _ s2⟩
      · have e2 : (List.range m).map (fun i : Nat => V.str ⟨#[smallAt (nextN R (0 + (i : Int)) / 3 % 26)]⟩) = ((List.range m).map fun i : Nat => (⟨#[smallAt (nextN R (0 + (i : Int)) / 3 % 26)]⟩ : Str)).map V.str := by
          rw [List.map_map]; rfl
        rw [e2] at e
        have ones : ∀ l : List Nat, ((l.map fun i : Nat => (⟨#[smallAt (nextN R (0 + (i : Int)) / 3 % 26)]⟩ : Str)).map TL.tl).flatten = l.map fun i : Nat => smallAt (nextN R (0 + (i : Int)) / 3 % 26) := fun l => by
          rw [List.map_map]
          induction l with
          | nil => rfl
          | cons x r ih => rw [List.map_cons, List.flatten_cons, ih]; rfl
        have ej : TL.tl (Txt.join (Str.ofString "") ((List.range m).map fun i : Nat => (⟨#[smallAt (nextN R (0 + (i : Int)) / 3 % 26)]⟩ : Str))) = (List.range m).map fun i : Nat => smallAt (nextN R (0 + (i : Int)) / 3 % 26) := by
          rw [tl_join0, ones]
        refine ⟨Str.ofString "", D, _, rfl, rfl, .inl (.inl (.inl e)), ?_, ?_⟩
        · rw [sum_len, ones, List.length_map, List.length_range]
          show m + _ * 0 ≤ 16777216
          omega
        generalize Txt.join (Str.ofString "") ((List.range m).map fun i : Nat => (⟨#[smallAt (nextN R (0 + (i : Int)) / 3 % 26)]⟩ : Str)) = J at ej
        have hJ : J.length = m := by rw [TL.len_tl, ej, List.length_map, List.length_range]
        have eo3 := sm3 _ _ eo2
        refine ⟨o, _, _, rfl, rfl, eo3, ?_, ?_⟩
        · rw [List.length_map]; exact small1000 (by omega)
        · refine ⟨_, _, _, _, ws ++ [J], rfl, fun b x e => ?_, ?_, by rw [List.length_append, List.length_singleton]; omega, fun x hx => ?_⟩
          · rw [upd_ne (ne_of_none e no)]
            exact sm3 _ _ (sp _ _ (s2 _ _ (sm _ _ e)))
          · rw [upd_same, List.map_append]
            rfl
          · rcases List.mem_append.mp hx with h | h
            · exact hw x h
            · rw [List.mem_singleton.mp h]
              refine ⟨fun c hc => ?_, by omega, by omega⟩
              rw [ej] at hc
              obtain ⟨i, _, rfl⟩ := List.mem_map.mp hc
              exact (smallAt_at (Int.emod_nonneg _ (by decide)) (Int.emod_lt_of_pos _ (by decide))).2
    · obtain ⟨y2, y3, y4, y5, ws, rfl, sm, eo, hl, hw⟩ := hP
      have hb := join_len_le (sep := Str.ofString "-") (k := 8) (n := 3) (fun x hx => (hw x hx).2.2) (by omega)
      have hb2 : 3 * (8 + (Str.ofString "-").length) = 27 := by decide +kernel
      refine ⟨⟨_, rfl⟩, .ref o, rfl, Str.ofString "-", o, ws, rfl, rfl, .inl (.inl (.inl eo)), by omega, q _ (hn_join ?_ (by omega) hw) ?_ _ sm⟩
      · intro h
        rw [h] at hl
        simp only [List.length_nil] at hl
        omega
      · have := joined_len (Str.ofString "-") ws
        omega
/-! ### _law_word -/
abbrev s__law_word : Stmt := topS 48
abbrev N__law_word : List Str := ["_law_number", "_law_size", "_law_signs_here", "_law_j"]
abbrev P__law_word : List Str := ["_law_number", "_law_size"]
theorem sc__law_word : FnScope N__law_word ["_law_number", "_law_size"] (defScope s__law_word) := ⟨rfl, rfl, rfl, by decide +kernel, rfl, by decide +kernel, by decide +kernel⟩
/-- the sign of a word by its number -/
def wordAt (n : Int) : Nat := ((TL.tl SIGNS).drop 1).getD n.toNat 0
theorem word_signs : (TL.tl SIGNS).drop 1 = ((List.range 94).map fun x => x + 33).filter fun x => decide (x ≠ 37) := by
  rw [tl_SIGNS]
  decide +kernel
theorem word_signs_len : ((TL.tl SIGNS).drop 1).length = 93 := by
  rw [List.length_drop, ← TL.len_tl, SIGNS_len]
theorem wordAt_at {n : Int} (h0 : 0 ≤ n) (h1 : n < 93) : atI ((TL.tl SIGNS).drop 1) n = some (wordAt n) ∧ (33 ≤ wordAt n ∧ wordAt n ≤ 126 ∧ wordAt n ≠ 37) := by
  have hl : n.toNat < ((TL.tl SIGNS).drop 1).length := by rw [word_signs_len]; omega
  obtain ⟨m, rfl⟩ : ∃ m : Nat, n = (m : Int) := ⟨n.toNat, by omega⟩
  unfold wordAt
  rw [Int.toNat_natCast] at hl ⊢
  rw [List.getD_eq_getElem?_getD, List.getElem?_eq_getElem hl]
  refine ⟨atI_nat (List.getElem?_eq_getElem hl), ?_⟩
  have hm := List.getElem_mem hl
  rw [Option.getD_some]
  generalize ((TL.tl SIGNS).drop 1)[m] = c at hm
  rw [word_signs, List.mem_filter] at hm
  obtain ⟨a, ha, rfl⟩ := List.mem_map.mp hm.1
  have := List.mem_range.mp ha
  have h3 := of_decide_eq_true hm.2
  omega
def sp_lword : Sp := fun vs H Q _ => ∃ (n : Int) (m : Nat), vs = [.int n, .int (m : Int)] ∧ 0 ≤ n ∧ n < 2147483648 ∧ 1 ≤ m ∧ m ≤ 500 ∧ ∀ z : Str, WordL (TL.tl z) → z.length = m → Tell H (.str z) Q
theorem ok_lword {f fN fS : Addr} {fd fdN fdS : FuncData} (F : Fun K "_law_word" "_law_word" s__law_word f fd) (T : Tx mg tk) (D__law_next : Def P w K mg base "_law_next" 1 fN fdN P__law_next sp_next) (D__law_signs : Def P w K mg base "_law_signs" 1 fS fdS P__law_signs sp_signs) : FnOk P w K mg base CX0 2 f fd P__law_word sp_lword := by
  refine F.ok sc__law_word (fun vs H Q E h => ?_) (fun cdv A outer s H vs Q E hr h => ?_)
  · obtain ⟨n, m, rfl, _⟩ := h
    rfl
  · have nd := sc__law_word.nd
    obtain ⟨n, m, rfl, h0, h1, hm1, hm, q⟩ := h
    refine ⟨_, (pss_cons (ps_set (i := 2) nd rfl (.inr rfl) (pe_slice sl_str (pe_def0 D__law_signs (hr.mono (by decide))) (po_some pe_int) po_none))
      (pss_one (ps_ret (pe_join pe_str (pe_lc (own := [("_law_j", 3)]) (g := gName 3) (by rfl) nd (pi_range1 (by rfl) T.n_range (pa_cons (pv 1) pa_nil)) (blkOk_by (N := N__law_word) (sc := defScope s__law_word) (by decide +kernel)) (fun _ _ _ _ _ => (pg_name (i := 3) nd rfl (Or.inl rfl))) (fun _ _ _ _ _ => pts_nil) (fun _ _ _ _ _ => (pe_ix ix_str (pv 2) (pe_op op_mod (pe_op op_fdiv (pe_def D__law_next (hr.mono (by decide)) (pa_cons (pv 0) (pa_cons (pv 3) pa_nil))) pe_int) pe_int) (fun _ _ => rfl)))))))), ?_⟩
    have ecut : TL.tl (cutS SIGNS (some 1) none) = (TL.tl SIGNS).drop 1 := by rw [show (1 : Int) = ((1 : Nat) : Int) from rfl, cutS_from]
    refine ⟨rfl, 1, rfl, SIGNS, rfl, by rw [SIGNS_len]; exact Nat.le_of_lt (small1000 (by decide)), ?_⟩
    have hcl : (cutS SIGNS (some 1) none).length = 93 := by rw [TL.len_tl, ecut, word_signs_len]
    refine ⟨⟨_, rfl⟩, .int m, rfl, m, rfl, by omega, by omega, fun D hD => lc_pure (n := m) (fun i => .int (0 + (i : Int))) (fun i => .str ⟨#[wordAt (nextN n (0 + (i : Int)) / 5 % 93)]⟩) walk_range (fun _ _ => trivial) hD (by rw [sizeLine_eq]; omega) (fun i H1 Q1 hi sm q1 => ?_) (fun H1 sm e => ?_)⟩
    · refine ⟨.str (cutS SIGNS (some 1) none), rfl, .int n, rfl, .int (0 + (i : Int)), rfl, n, 0 + (i : Int), rfl, h0, h1, by omega, by omega, fun H2 s2 => ?_⟩
      have hk := wordAt_at (n := nextN n (0 + (i : Int)) / 5 % 93) (Int.emod_nonneg _ (by decide)) (Int.emod_lt_of_pos _ (by decide))
      refine ⟨_, 5, rfl, rfl, ⟨by decide, by decide⟩, _, 93, rfl, rfl, (show (0 : Int) < 93 by decide), _, _, _, rfl, rfl, by rw [hcl]; exact Nat.le_of_lt (small1000 (by decide)), ?_, q1 _ s2⟩
      have := hk.1
      rw [← ecut] at this
      exact this
    · have e2 : (List.range m).map (fun i : Nat => V.str ⟨#[wordAt (nextN n (0 + (i : Int)) / 5 % 93)]⟩) = ((List.range m).map fun i : Nat => (⟨#[wordAt (nextN n (0 + (i : Int)) / 5 % 93)]⟩ : Str)).map V.str := by
        rw [List.map_map]; rfl
      rw [e2] at e
      have ones : ∀ l : List Nat, ((l.map fun i : Nat => (⟨#[wordAt (nextN n (0 + (i : Int)) / 5 % 93)]⟩ : Str)).map TL.tl).flatten = l.map fun i : Nat => wordAt (nextN n (0 + (i : Int)) / 5 % 93) := fun l => by
        rw [List.map_map]
        induction l with
        | nil => rfl
        | cons x r ih => rw [List.map_cons, List.flatten_cons, ih]; rfl
      have ej : TL.tl (Txt.join (Str.ofString "") ((List.range m).map fun i : Nat => (⟨#[wordAt (nextN n (0 + (i : Int)) / 5 % 93)]⟩ : Str))) = (List.range m).map fun i : Nat => wordAt (nextN n (0 + (i : Int)) / 5 % 93) := by
        rw [tl_join0, ones]
      refine ⟨Str.ofString "", D, _, rfl, rfl, .inl (.inl (.inl e)), ?_, ?_⟩
      · rw [sum_len, ones, List.length_map, List.length_range]
        show m + _ * 0 ≤ 16777216
        omega
      · refine q _ ⟨fun h => ?_, fun c hc => ?_⟩ ?_ _ sm
        · have := congrArg List.length (ej.symm.trans h)
          rw [List.length_map, List.length_range, List.length_nil] at this
          omega
        · rw [ej] at hc
          obtain ⟨i, _, rfl⟩ := List.mem_map.mp hc
          exact (wordAt_at (Int.emod_nonneg _ (by decide)) (Int.emod_lt_of_pos _ (by decide))).2
        · rw [TL.len_tl, ej, List.length_map, List.length_range]
end
end K04

namespace K04
open PySem PySem.Spec PyProof.Rows L2 LH
section
variable {P : Program} {w : World} {K : PySem.W.Frag} {mg : Str → Option Value} {base : Heap} {tk : Nat → Tok} {ca : Nat → Addr}
/-- a def that may raise, as its callers see it -/
structure DefX (P : Program) (w : World) (K : PySem.W.Frag) (mg : Str → Option Value) (base : Heap) (x : Str) (k : Nat) (f : Addr) (fd : FuncData) (ps : List Str) (sp : Sp) : Prop where
  ok : FnOk P w K mg base (L2.CX P w) k f fd ps sp
  mg : mg x = some (.ref f)
  kp : PySem.W.keepIn K (.ref f) = true
  bd : Binds K fd ps []
/-- a refusal by the class at C -/
def Refuse (H : Hp) (C : Addr) (kd : Str) (E : XK) : Prop := ∀ H1 d, Same H H1 → H1 d = none → E (.ref C) (some d) (upd H1 d (.xd (heFields kd)))
/-- a text that is none by its signs, or no text at all -/
def BadBy (g : List Nat → Bool) (H : Hp) (x : V) : Prop := (∃ z : Str, x = .str z ∧ z.length ≤ 100000 ∧ g (TL.tl z) = false) ∨ Odd H x
theorem BadBy.same {g : List Nat → Bool} {H H' : Hp} {x : V} (s : Same H H') (h : BadBy g H x) : BadBy g H' x := h.imp (fun h => h) fun h => h.same s
def sp_foldedX (ca : Nat → Addr) : Sp := fun vs H Q E => ∃ x y : V, vs = [x, y] ∧
  ((BadBy isHN H x ∧ Refuse H (ca 2) "badname" E) ∨ ∃ z : Str, x = .str z ∧ isHN (TL.tl z) = true ∧ z.length ≤ 1000 ∧
    ((BadBy isVal H y ∧ Refuse H (ca 3) "badvalue" E) ∨ ∃ ws : List Str, y = .str (Txt.join (Str.ofString " ") ws) ∧ (∀ u ∈ ws, WordL (TL.tl u) ∧ u.length ≤ 600) ∧ ws.length ≤ 100 ∧
      (∃ u ∈ ws, 60 ≤ u.length) ∧ Refuse H (ca 4) "toolong" E))
theorem val_lenX {ws : List Str} (h : ∀ u ∈ ws, WordL (TL.tl u) ∧ u.length ≤ 600) (hl : ws.length ≤ 100) : (Txt.join (Str.ofString " ") ws).length ≤ 60100 ∧ (ws.map (·.length)).sum + ws.length * (Str.ofString " ").length ≤ 60100 := by
  have hb := join_len_le (sep := Str.ofString " ") (k := 600) (n := 100) (fun x hx => (h x hx).2) hl
  have hb2 : 100 * (600 + (Str.ofString " ").length) = 60100 := by decide +kernel
  have := joined_len (Str.ofString " ") ws
  exact ⟨by omega, by omega⟩
theorem val_okX {ws : List Str} (h : ∀ u ∈ ws, WordL (TL.tl u)) : isVal (TL.tl (Txt.join (Str.ofString " ") ws)) = true := by
  rw [TL.join_eq, TL.tl_join, tl_blank]
  unfold isVal
  rw [Bool.and_eq_true]
  constructor
  · rw [List.all_eq_true]
    intro c hc
    rcases joinL_mem _ _ c hc with h1 | ⟨p, hp, hc⟩
    · rw [List.mem_singleton.mp h1]; rfl
    · obtain ⟨x, hx, rfl⟩ := List.mem_map.mp hp
      have := (h x hx).2 c hc
      unfold isSign
      simp only [Bool.and_eq_true, decide_eq_true_eq, Bool.not_eq_true', decide_eq_false_iff_not]
      omega
  · cases ws with
    | nil => rfl
    | cons x r =>
      rw [splitL_join 32 _ (by simp) fun p hp => ?_]
      · rw [Bool.or_eq_true]
        right
        have : ¬ ([] : List Nat) ∈ (x :: r).map TL.tl := fun hm => by
          obtain ⟨y, hy, e⟩ := List.mem_map.mp hm
          exact (h y hy).1 e
        rw [decide_eq_false this]
        rfl
      · obtain ⟨y, hy, rfl⟩ := List.mem_map.mp hp
        intro hm
        have := (h y hy).2 32 hm
        omega
theorem ok_foldedX {f fH fV fG fR fI cc cda : Addr} {fd fdH fdV fdG fdR : FuncData} (F : Fun K "folded" "folded" s_folded f fd) (T : Tx mg tk) (W_BadName : HeC P K mg "BadName" (ca 2) (ca 0) fI cc cda "badname") (W_BadValue : HeC P K mg "BadValue" (ca 3) (ca 0) fI cc cda "badvalue") (W_TooLong : HeC P K mg "TooLong" (ca 4) (ca 0) fI cc cda "toolong") (D_is_header_name : Def P w K mg base "is_header_name" 2 fH fdH ["thing"] (sp_header_name K)) (D_is_value : Def P w K mg base "is_value" 2 fV fdV ["thing"] (sp_value K)) (D_great_name : Def P w K mg base "great_name" 1 fG fdG P_great_name sp_great) (D_goes_into_rows : Def P w K mg base "goes_into_rows" 1 fR fdR P_goes_into_rows sp_goes) : FnOk P w K mg base (L2.CX P w) 3 f fd P_folded (sp_foldedX ca) := by
  refine F.okX sc_folded (fun vs H Q Ex h => ?_) (fun cdv A outer s H vs Q Ex hr h => ?_)
  · obtain ⟨x, y, rfl, _⟩ := h
    rfl
  · have nd := sc_folded.nd
    obtain ⟨x, y, rfl, h⟩ := h
    refine ⟨_, (pss_cons (ps_if (pt_not (pt_val (pe_def D_is_header_name (hr.mono (by decide)) (pa_cons (pv 0) pa_nil))))
        (pss_one (ps_raiseH rfl W_BadName hr (takes_of rfl rfl rfl rfl) (by exact (pa_cons pe_str pa_nil))))
        pss_nil)
      (pss_cons (ps_if (pt_not (pt_val (pe_def D_is_value (hr.mono (by decide)) (pa_cons (pv 1) pa_nil))))
        (pss_one (ps_raiseH rfl W_BadValue hr (takes_of rfl rfl rfl rfl) (by exact (pa_cons pe_str pa_nil))))
        pss_nil)
      (pss_cons (ps_set (i := 2) nd rfl (.inl rfl) (pe_words (pv 1)))
      (pss_cons (ps_if (pt_not (pt_val (pe_callB (cAll K) (by rfl) T.n_all (by decide +kernel) (pa_cons (pe_lc (own := [("word", 4)]) (g := gName 4) (by rfl) nd (pi_list (pv 2)) (blkOk_by (N := N_folded) (sc := defScope s_folded) (by decide +kernel)) (fun _ _ _ _ _ => (pg_name (i := 4) nd rfl (Or.inl rfl))) (fun _ _ _ _ _ => pts_nil) (fun _ _ _ _ _ => (pe_def D_goes_into_rows (hr.mono (by decide)) (pa_cons (pv 4) pa_nil)))) pa_nil))))
        (pss_one (ps_raiseH rfl W_TooLong hr (takes_of rfl rfl rfl rfl) (by exact (pa_cons pe_str pa_nil))))
        pss_nil)
      (PSs.nox (pss_cons (ps_set (i := 3) nd rfl (.inl rfl) (pe_lst (pa_cons (pe_op op_add_str (pe_def D_great_name (hr.mono (by decide)) (pa_cons (pv 0) pa_nil)) pe_str) pa_nil)))
      (pss_cons (ps_for PassesOwn.never rfl (pi_list (pv 2)) (pg_name (i := 4) nd rfl (Or.inl rfl))
        (pss_cons (ps_if (pt_cmpR op_gt (pe_op op_add (pe_op op_add (pe_callB call_len_str (by rfl) T.n_len (by decide +kernel) (pa_cons (pe_ix (ixL K) (pv 3) (pe_un un_neg pe_int) (fun _ _ => rfl)) pa_nil)) pe_int) (pe_callB call_len_str (by rfl) T.n_len (by decide +kernel) (pa_cons (pv 4) pa_nil))) (pe_glob (v := .int 60) (by rfl) T.m_ROW_SIGNS ⟨_, rfl⟩) (nomark _))
          (pss_one (ps_expr (pe_bm PySem.F.plainAttrs_list PySem.F.slot_list_append PySem.F.type_list_append mt_append (pv 3) (pa_cons pe_str pa_nil))))
          pss_nil)
        (pss_one (ps_augS (pv 3) (pe_un un_neg pe_int) (get_listK K) (pe_op op_add_str pe_str (pv 4)) iop_add_str set_list))))
      (pss_one (ps_ret (pv 3)))))))))), ?_⟩
    have test : ∀ (g : List Nat → Bool) (H : Hp) (x : V) (Q' : VK), BadBy g H x → Tell H (.bl false) Q' → ((∃ z : Str, x = .str z ∧ z.length ≤ 100000 ∧ Tell H (.bl (g (TL.tl z))) Q') ∨ (NoStr K H x ∧ Tell H (.bl false) Q')) := fun g H x Q' hb hq => by
      rcases hb with ⟨z, rfl, hz, hg⟩ | ho
      · exact .inl ⟨z, rfl, hz, by rw [hg]; exact hq⟩
      · exact .inr ⟨ho.ty, hq⟩
    rcases h with ⟨hb, r⟩ | ⟨z, rfl, hn, hz, h⟩
    · exact ⟨x, rfl, x, rfl, test isHN H x _ hb fun H1 s1 => ⟨false, rfl, iteT ⟨_, rfl, fun d hd => r H1 d s1 hd⟩⟩⟩
    refine ⟨.str z, rfl, _, rfl, .inl ⟨z, rfl, by omega, fun H1 s1 => ⟨_, rfl, ?_⟩⟩⟩
    rw [hn]
    rcases h with ⟨hb, r⟩ | ⟨ws, rfl, hw, hwl, h⟩
    · exact iteF ⟨y, rfl, y, rfl, test isVal H1 y _ (hb.same s1) fun H2 s2 => ⟨false, rfl, iteT ⟨_, rfl, fun d hd => r H2 d (s1.trans s2) hd⟩⟩⟩
    have hvl := val_lenX hw hwl
    refine iteF ⟨_, rfl, _, rfl, .inl ⟨_, rfl, by omega, fun H2 s2 => ⟨_, rfl, ?_⟩⟩⟩
    rw [val_okX fun u hu => (hw u hu).1]
    refine iteF ⟨_, rfl, ⟨_, rfl⟩, _, rfl, rfl, by rw [sizeLine_eq]; omega, fun p np => ?_⟩
    rw [words_join ws (fun x hx => (hw x hx).1) _ tl_blank]
    have s3 := same_upd (o := .lst (ws.map V.str)) np
    have hm : (ws.map V.str).length = ws.length := List.length_map ..
    generalize hH3 : upd H2 p (.lst (ws.map V.str)) = H3 at *
    have e3 : H3 p = some (.lst (ws.map V.str)) := by rw [← hH3, upd_same]
    refine ⟨.ref p, rfl, p, rfl, ⟨_, .inl (.inl e3)⟩, fun D hD => lc_pure (fun i => (ws.map V.str).getD i .non) (fun i => .bl (decide ((ws.getD i Str.empty).length < 60))) walk_listF (fun H4 sm => sm.seq (.inl (.inl e3))) hD (by rw [hm, sizeLine_eq]; omega) (fun i H4 Q4 hi sm q4 => ?_) (fun H4 s4 e4 => ?_)⟩
    · rw [hm] at hi
      rw [getD_str ws i hi]
      have hxm : ws.getD i Str.empty ∈ ws := by
        rw [List.getD_eq_getElem?_getD, List.getElem?_eq_getElem hi]
        exact List.getElem_mem hi
      have := (hw _ hxm).2
      exact ⟨.str (ws.getD i Str.empty), rfl, _, rfl, by omega, fun H5 s5 => q4 _ s5⟩
    · rw [hm] at e4
      refine ⟨D, (List.range ws.length).map fun i => decide ((ws.getD i Str.empty).length < 60), rfl, .inl (.inl (by rw [e4, List.map_map]; rfl)), _, rfl, ?_⟩
      have ea : ((List.range ws.length).map fun i => decide ((ws.getD i Str.empty).length < 60)).all id = ws.all fun u => decide (u.length < 60) := by
        conv => rhs; rw [← LH.range_getD ws Str.empty]
        rw [List.all_map, List.all_map]
        rfl
      rw [ea]
      have sA := s1.trans (s2.trans (s3.trans s4))
      obtain ⟨⟨u, hu, hu60⟩, r⟩ := h
      rw [show (ws.all fun u => decide (u.length < 60)) = false from List.all_eq_false.mpr ⟨u, hu, by rw [decide_eq_true_eq]; omega⟩]
      exact iteT ⟨_, rfl, fun d hd => r _ d sA hd⟩
/-- all that folded promises -/
def sp_foldedA (ca : Nat → Addr) : Sp := fun vs H Q E => sp_foldedX ca vs H Q E ∨ sp_folded vs H Q E
theorem kw_BadName : kindWords [false, true, false, false, false, false, false, false, false, false, false, false, false, false, false, false, false, false, false] = [Str.ofString "name", Str.ofString "base"] := by decide +kernel
theorem kw_BadValue : kindWords [false, false, true, false, false, false, false, false, false, false, false, false, false, false, false, false, false, false, false] = [Str.ofString "value", Str.ofString "base"] := by decide +kernel
theorem kw_TooLong : kindWords [false, false, false, true, false, false, false, false, false, false, false, false, false, false, false, false, false, false, false] = [Str.ofString "long", Str.ofString "base"] := by decide +kernel
/-! ### _law_told -/
abbrev s__law_told : Stmt := topS 51
abbrev N__law_told : List Str := ["_law_name_here", "_law_value_here", "_law_refusal", "_law_found", "_law_e"]
abbrev P__law_told : List Str := ["_law_name_here", "_law_value_here"]
theorem sc__law_told : FnScope N__law_told ["_law_name_here", "_law_value_here"] (defScope s__law_told) := ⟨rfl, rfl, rfl, by decide +kernel, rfl, by decide +kernel, by decide +kernel⟩
def sp_told (ca : Nat → Addr) : Sp := fun vs H Q _ => ∃ x y : V, vs = [x, y] ∧
  ((BadBy isHN H x ∧ New H ([Str.ofString "name", Str.ofString "base"].map V.str) Q) ∨ ∃ z : Str, x = .str z ∧ isHN (TL.tl z) = true ∧ z.length ≤ 1000 ∧
    ((BadBy isVal H y ∧ New H ([Str.ofString "value", Str.ofString "base"].map V.str) Q) ∨ ∃ ws : List Str, y = .str (Txt.join (Str.ofString " ") ws) ∧ (∀ u ∈ ws, WordL (TL.tl u) ∧ u.length ≤ 600) ∧ ws.length ≤ 100 ∧
      (((∃ u ∈ ws, 60 ≤ u.length) ∧ New H ([Str.ofString "long", Str.ofString "base"].map V.str) Q) ∨ (WsOk ws ∧ New H (rowsH (TL.tl z) ws) Q))))
theorem ok_told {f fF fK : Addr} {fd fdF fdK : FuncData} (F : Fun K "_law_told" "_law_told" s__law_told f fd) (T : Tx mg tk) (E : Ex K mg ca) (D_folded : DefX P w K mg base "folded" 3 fF fdF P_folded (sp_foldedA ca)) (D__law_kind : Def P w K mg base "_law_kind" 1 fK fdK P__law_kind (sp_kind K ca)) : FnOk P w K mg base CX0 4 f fd P__law_told (sp_told ca) := by
  refine F.ok sc__law_told (fun vs H Q _ h => ?_) (fun cdv A outer s H vs Q _ hr h => ?_)
  · obtain ⟨x, y, rfl, _⟩ := h
    rfl
  · have nd := sc__law_told.nd
    obtain ⟨x, y, rfl, h⟩ := h
    refine ⟨_, (pss_cons (ps_set (i := 2) nd rfl (.inl rfl) pe_non)
      (pss_cons (ps_set (i := 3) nd rfl (.inl rfl) pe_non)
      (pss_cons (ps_try_hold (i := 4) rfl rfl rfl nd rfl rfl ⟨rfl, by decide, .inl E.m_HouseError⟩ (fun W pn xe tk _ => (pss_one (ps_set (i := 3) nd rfl (.inl rfl) (pe_callS D_folded.ok (hr.mono (by decide)) (by rfl) D_folded.mg D_folded.kp D_folded.bd (fun σ => L2.passAt tk σ) (pa_cons (pv 0) (pa_cons (pv 1) pa_nil)))))) (fun a oe pn => (pss_one (ps_set (i := 2) nd rfl (.inl rfl) (pv 4)))))
      (pss_cons (ps_if (pt_cmpR op_isN (pv 2) pe_non (nomark _))
        (pss_one (ps_ret (pv 3)))
        pss_nil)
      (pss_one (ps_ret (pe_def D__law_kind (hr.mono (by decide)) (pa_cons (pv 2) pa_nil)))))))), ?_⟩
    have held : ∀ (H1 : Hp) (d a C : Addr) (kd : Str), H1 d = none → (upd H1 d (.xd (heFields kd))) a = none → HeldD (upd (upd H1 d (.xd (heFields kd))) a (ExH (.ref C) (some d) a)) C d a (heFields kd) := fun H1 d a C kd hd ha => by
      refine ⟨upd_same, ?_⟩
      have : d ≠ a := fun e => by
        rw [← e, upd_same] at ha
        exact nomatch ha
      rw [upd_ne this, upd_same]
    rcases h with ⟨hb, q⟩ | ⟨z, rfl, hn, hz, ⟨hb, q⟩ | ⟨ws, rfl, hw, hwl, ⟨hl, q⟩ | ⟨hok, q⟩⟩⟩
    · refine ⟨_, rfl, _, rfl, .inl ⟨x, y, rfl, .inl ⟨hb, fun H1 d s1 hd => ⟨E.r_BadName.fits, fun a na => ⟨.ref a, rfl, fun n1 => ⟨.ref a, rfl, rfl, _, rfl, ?_⟩⟩⟩⟩⟩⟩
      rw [decide_eq_false (fun h => nomatch h)]
      have s2 := (same_upd (o := .xd (heFields "badname")) hd).trans (same_upd (o := ExH (.ref (ca 2)) (some d) a) n1)
      refine iteF ⟨.ref a, rfl, a, ca 2, d, "badname", _, rfl, held H1 d a (ca 2) "badname" hd n1, E.r_BadName, E.t_BadName, rfl, fun H2 p s3 np e2 => ?_⟩
      rw [kw_BadName] at e2
      exact q H2 p (s1.trans (s2.trans s3)) ((s1.trans s2).free np) e2
    · refine ⟨_, rfl, _, rfl, .inl ⟨_, y, rfl, .inr ⟨z, rfl, hn, hz, .inl ⟨hb, fun H1 d s1 hd => ⟨E.r_BadValue.fits, fun a na => ⟨.ref a, rfl, fun n1 => ⟨.ref a, rfl, rfl, _, rfl, ?_⟩⟩⟩⟩⟩⟩⟩
      rw [decide_eq_false (fun h => nomatch h)]
      have s2 := (same_upd (o := .xd (heFields "badvalue")) hd).trans (same_upd (o := ExH (.ref (ca 3)) (some d) a) n1)
      refine iteF ⟨.ref a, rfl, a, ca 3, d, "badvalue", _, rfl, held H1 d a (ca 3) "badvalue" hd n1, E.r_BadValue, E.t_BadValue, rfl, fun H2 p s3 np e2 => ?_⟩
      rw [kw_BadValue] at e2
      exact q H2 p (s1.trans (s2.trans s3)) ((s1.trans s2).free np) e2
    · refine ⟨_, rfl, _, rfl, .inl ⟨_, _, rfl, .inr ⟨z, rfl, hn, hz, .inr ⟨ws, rfl, hw, hwl, hl, fun H1 d s1 hd => ⟨E.r_TooLong.fits, fun a na => ⟨.ref a, rfl, fun n1 => ⟨.ref a, rfl, rfl, _, rfl, ?_⟩⟩⟩⟩⟩⟩⟩
      rw [decide_eq_false (fun h => nomatch h)]
      have s2 := (same_upd (o := .xd (heFields "toolong")) hd).trans (same_upd (o := ExH (.ref (ca 4)) (some d) a) n1)
      refine iteF ⟨.ref a, rfl, a, ca 4, d, "toolong", _, rfl, held H1 d a (ca 4) "toolong" hd n1, E.r_TooLong, E.t_TooLong, rfl, fun H2 p s3 np e2 => ?_⟩
      rw [kw_TooLong] at e2
      exact q H2 p (s1.trans (s2.trans s3)) ((s1.trans s2).free np) e2
    · refine ⟨_, rfl, _, rfl, .inr ⟨z, ws, rfl, hn, hz, hok, hwl, fun H1 p s1 np e1 => ?_⟩⟩
      exact ⟨.non, rfl, rfl, _, rfl, iteT ⟨.ref p, rfl, q H1 p s1 np e1⟩⟩
end
end K04

namespace K04
open PySem PySem.Spec PyProof.Rows L2 LH
section
variable {P : Program} {w : World} {K : PySem.W.Frag} {mg : Str → Option Value} {base : Heap} {tk : Nat → Tok} {ca : Nat → Addr}
theorem drop_cons {α : Type} {l : List α} {i : Nat} (h : i < l.length) : l.drop i = l[i] :: l.drop (i + 1) := List.drop_eq_getElem_cons h
/-! ### wrong_sign_place -/
abbrev s_wrong_sign_place : Stmt := topS 25
abbrev N_wrong_sign_place : List Str := ["row", "at"]
abbrev P_wrong_sign_place : List Str := ["row"]
theorem sc_wrong_sign_place : FnScope N_wrong_sign_place ["row"] (defScope s_wrong_sign_place) := ⟨rfl, rfl, rfl, by decide +kernel, rfl, by decide +kernel, by decide +kernel⟩
def wsp : Nat → List Nat → Nat
  | _, [] => 0
  | n, c :: r => if n = 60 ∨ isSign c = false then n + 1 else wsp (n + 1) r
def sp_wsp : Sp := fun vs H Q _ => ∃ z : Str, vs = [.str z] ∧ z.length ≤ 100000 ∧ Tell H (.int (wsp 0 (TL.tl z) : Nat)) Q
theorem ok_wsp {f fS : Addr} {fd fdS : FuncData} (F : Fun K "wrong_sign_place" "wrong_sign_place" s_wrong_sign_place f fd) (T : Tx mg tk) (D_is_sign : Def P w K mg base "is_sign" 1 fS fdS ["sign"] sp_is_sign) : FnOk P w K mg base CX0 2 f fd P_wrong_sign_place sp_wsp := by
  refine F.ok sc_wrong_sign_place (fun vs H Q E h => ?_) (fun cdv A outer s H vs Q E hr h => ?_)
  · obtain ⟨z, rfl, _⟩ := h
    rfl
  · have nd := sc_wrong_sign_place.nd
    obtain ⟨z, rfl, hz, q⟩ := h
    refine ⟨_, (pss_cons (ps_for PassesOwn.never rfl (pi_range1 (by rfl) T.n_range (pa_cons (pe_callB call_len_str (by rfl) T.n_len (by decide +kernel) (pa_cons (pv 0) pa_nil)) pa_nil)) (pg_name (i := 1) nd rfl (Or.inl rfl))
        (pss_one (ps_if (PW.pt (pw_or (pt_cmpR op_eq (pv 1) (pe_glob (v := .int 60) (by rfl) T.m_ROW_SIGNS ⟨_, rfl⟩) (nomark _)) (pw_or1 (pt_not (pt_val (pe_def D_is_sign (hr.mono (by decide)) (pa_cons (pe_ix ix_str (pv 0) (pv 1) (fun _ _ => rfl)) pa_nil)))))))
          (pss_one (ps_ret (pe_op op_add (pv 1) pe_int)))
          pss_nil)))
      (pss_one (ps_ret pe_int))), ?_⟩
    have hzl : z.length = (TL.tl z).length := TL.len_tl z
    have hzs : z.length ≤ sizeLine := by rw [sizeLine_eq]; omega
    refine ⟨.str z, rfl, z, rfl, hzs, (z.length : Nat), rfl, by omega, by omega, for_it walk_range (fun i σ H' => ∃ y1, σ = [some (.str z), y1] ∧ Same H H' ∧ wsp 0 (TL.tl z) = wsp i ((TL.tl z).drop i)) ⟨none, rfl, Same.refl _, rfl⟩
      (fun _ _ _ _ _ => trivial) (fun i x σ H1 H2 hi hP hy => ?_) (fun σ H1 hP => ?_)⟩
    · obtain ⟨y1, rfl, sm, e⟩ := hP
      obtain ⟨rfl, rfl⟩ := hy
      have hil : i < (TL.tl z).length := by omega
      rw [drop_cons hil, wsp] at e
      refine ⟨_, rfl, rfl, _, rfl, ?_⟩
      have e60 : decide (V.int (0 + (i : Int)) = V.int 60) = decide (i = 60) := decide_eq_decide.mpr ⟨fun h => by have := V.int.inj h; omega, fun h => by rw [h]; rfl⟩
      show (if decide (V.int (0 + (i : Int)) = V.int 60) = true then _ else _)
      rw [e60]
      have fin : ∀ H', Same H2 H' → (i = 60 ∨ isSign (TL.tl z)[i] = false) → Q (.int (0 + (i : Int) + 1)) H' := fun H' s' hc => by
        rw [if_pos hc] at e
        rw [show (0 : Int) + (i : Int) + 1 = ((wsp 0 (TL.tl z) : Nat) : Int) by rw [e]; omega]
        exact q _ (sm.trans s')
      refine ite2 (fun hc => ?_) (fun hc => ?_)
      · exact iteT ⟨_, rfl, _, 1, rfl, rfl, fin _ (Same.refl _) (.inl (of_decide_eq_true hc))⟩
      · have h60 : i ≠ 60 := fun h => hc (decide_eq_true h)
        refine ⟨.str z, rfl, _, rfl, z, _, _, rfl, rfl, hzs, lat_of (j := i) (by omega) (List.getElem?_eq_getElem hil), (TL.tl z)[i], rfl, fun H3 s3 => ⟨_, rfl, ?_⟩⟩
        cases hs : isSign (TL.tl z)[i] with
        | false => exact iteT ⟨_, rfl, _, 1, rfl, rfl, fin _ s3 (.inr hs)⟩
        | true =>
          rw [if_neg (fun h => h.elim h60 (fun h => by rw [hs] at h; exact nomatch h))] at e
          exact iteF ⟨_, rfl, sm.trans s3, e⟩
    · obtain ⟨y1, rfl, sm, e⟩ := hP
      have : (TL.tl z).drop ((z.length : Int).toNat) = [] := List.drop_of_length_le (by omega)
      rw [this] at e
      have e0 : wsp 0 (TL.tl z) = 0 := e
      rw [e0] at q
      exact q _ sm
/-! ### is_letter -/
abbrev s_is_letter : Stmt := topS 41
abbrev N_is_letter : List Str := ["sign"]
abbrev P_is_letter : List Str := ["sign"]
theorem sc_is_letter : FnScope N_is_letter ["sign"] (defScope s_is_letter) := ⟨rfl, rfl, rfl, by decide +kernel, rfl, by decide +kernel, by decide +kernel⟩
def sp_is_letter : Sp := fun vs H Q _ => ∃ c : Nat, vs = [.str ⟨#[c]⟩] ∧ Tell H (.bl (isLet c)) Q
theorem le_one (s : Str) (a c : Nat) (hs : s.cps.toList = [a]) : (!decide ((⟨#[c]⟩ : Str).cps.toList < s.cps.toList)) = decide (a ≤ c) := by
  rw [hs]
  show (!decide ([c] < [a])) = _
  by_cases h : a ≤ c
  · rw [decide_eq_true h, decide_eq_false (by simp [List.cons_lt_cons_iff]; omega)]; rfl
  · rw [decide_eq_false h, decide_eq_true (by simp [List.cons_lt_cons_iff]; omega)]; rfl
theorem ge_one (s : Str) (a c : Nat) (hs : s.cps.toList = [a]) : (!decide (s.cps.toList < (⟨#[c]⟩ : Str).cps.toList)) = decide (c ≤ a) := by
  rw [hs]
  show (!decide ([a] < [c])) = _
  by_cases h : c ≤ a
  · rw [decide_eq_true h, decide_eq_false (by simp [List.cons_lt_cons_iff]; omega)]; rfl
  · rw [decide_eq_false h, decide_eq_true (by simp [List.cons_lt_cons_iff]; omega)]; rfl
theorem ok_is_letter {f : Addr} {fd : FuncData} {k : Nat} (F : Fun K "is_letter" "is_letter" s_is_letter f fd) : FnOk P w K mg base CX0 (k + 1) f fd P_is_letter sp_is_letter := by
  refine F.ok sc_is_letter (fun vs H Q E h => ?_) (fun cdv A outer s H vs Q E hr h => ?_)
  · obtain ⟨c, rfl, _⟩ := h
    rfl
  · have nd := sc_is_letter.nd
    obtain ⟨c, rfl, q⟩ := h
    refine ⟨_, (pss_one (ps_ret (pe_or (pe_chain op_le_str op_le_str pe_str (pv 0) pe_str) (pe_one (pe_chain op_le_str op_le_str pe_str (pv 0) pe_str))))), ?_⟩
    have key : ∀ (lo hi : Str) (a b : Nat), lo.cps.toList = [a] → hi.cps.toList = [b] → ∀ Q' : VK, Tell H (.bl (decide (a ≤ c) && decide (c ≤ b))) Q' → ∃ v, (some (some (V.str ⟨#[c]⟩)) = some (some v)) ∧ ∃ i j, V.str lo = .str i ∧ v = .str j ∧ (∃ k, V.bl (!decide (j.cps.toList < i.cps.toList)) = .bl k ∧ if k = true then ∃ i2 j2, v = .str i2 ∧ V.str hi = .str j2 ∧ Q' (.bl (!decide (j2.cps.toList < i2.cps.toList))) H else Q' (.bl false) H) := fun lo hi a b h1 h2 Q' hq => by
      refine ⟨_, rfl, lo, ⟨#[c]⟩, rfl, rfl, _, rfl, ?_⟩
      rw [le_one lo a c h1]
      by_cases ha : a ≤ c
      · rw [decide_eq_true ha] at hq ⊢
        refine iteT ⟨⟨#[c]⟩, hi, rfl, rfl, ?_⟩
        rw [ge_one hi b c h2]
        exact hq _ (Same.refl _)
      · rw [decide_eq_false ha] at hq ⊢
        exact iteF (hq _ (Same.refl _))
    refine orV (decide (97 ≤ c) && decide (c ≤ 122)) (decide (65 ≤ c) && decide (c ≤ 90)) (fun Q' q' => key _ _ 97 122 (by decide +kernel) (by decide +kernel) Q' q') (fun _ H1 Q' s1 q' => ?_) q
    refine ⟨_, rfl, Str.ofString "A", ⟨#[c]⟩, rfl, rfl, _, rfl, ?_⟩
    rw [le_one _ 65 c (by decide +kernel)]
    by_cases ha : 65 ≤ c
    · rw [decide_eq_true ha] at q' ⊢
      refine iteT ⟨⟨#[c]⟩, Str.ofString "Z", rfl, rfl, ?_⟩
      rw [ge_one _ 90 c (by decide +kernel)]
      exact q' _ (Same.refl _)
    · rw [decide_eq_false ha] at q' ⊢
      exact iteF (q' _ (Same.refl _))
/-! ### name_signs -/
abbrev s_name_signs : Stmt := topS 40
abbrev N_name_signs : List Str := ["row", "words", "letters", "at"]
abbrev P_name_signs : List Str := ["row"]
theorem sc_name_signs : FnScope N_name_signs ["row"] (defScope s_name_signs) := ⟨rfl, rfl, rfl, by decide +kernel, rfl, by decide +kernel, by decide +kernel⟩
def sp_name_signs : Sp := fun vs H Q _ => ∃ z : Str, vs = [.str z] ∧ z.length ≤ 100000 ∧ Tell H (.int (nsig 1 0 (TL.tl z) : Nat)) Q
theorem ok_name_signs {f fL : Addr} {fd fdL : FuncData} (F : Fun K "name_signs" "name_signs" s_name_signs f fd) (T : Tx mg tk) (D_is_letter : Def P w K mg base "is_letter" 1 fL fdL P_is_letter sp_is_letter) : FnOk P w K mg base CX0 2 f fd P_name_signs sp_name_signs := by
  refine F.ok sc_name_signs (fun vs H Q E h => ?_) (fun cdv A outer s H vs Q E hr h => ?_)
  · obtain ⟨z, rfl, _⟩ := h
    rfl
  · have nd := sc_name_signs.nd
    obtain ⟨z, rfl, hz, q⟩ := h
    refine ⟨_, (pss_cons (ps_set (i := 1) nd rfl (.inl rfl) pe_int)
      (pss_cons (ps_set (i := 2) nd rfl (.inl rfl) pe_int)
      (pss_cons (ps_for PassesOwn.never rfl (pi_range1 (by rfl) T.n_range (pa_cons (pe_callB call_len_str (by rfl) T.n_len (by decide +kernel) (pa_cons (pv 0) pa_nil)) pa_nil)) (pg_name (i := 3) nd rfl (Or.inl rfl))
        (pss_one (ps_if (PW.pt (pw_and (pt_cmpR op_eq (pe_ix ix_str (pv 0) (pv 3) (fun _ _ => rfl)) pe_str (nomark _)) (pw_and (pt_cmpR op_gt (pv 2) pe_int (nomark _)) (pw_and1 (pt_cmpR op_lt (pv 1) (pe_glob (v := .int 3) (by rfl) T.m_HEADER_WORDS ⟨_, rfl⟩) (nomark _))))))
          (pss_cons (ps_aug (i := 1) nd rfl (.inl rfl) pe_int ip_add)
          (pss_one (ps_set (i := 2) nd rfl (.inl rfl) pe_int)))
          (pss_one (ps_if (PW.pt (pw_and (pt_val (pe_def D_is_letter (hr.mono (by decide)) (pa_cons (pe_ix ix_str (pv 0) (pv 3) (fun _ _ => rfl)) pa_nil))) (pw_and1 (pt_cmpR op_lt (pv 2) (pe_glob (v := .int 8) (by rfl) T.m_HEADER_LETTERS ⟨_, rfl⟩) (nomark _)))))
            (pss_one (ps_aug (i := 2) nd rfl (.inl rfl) pe_int ip_add))
            (pss_one (ps_ret (pv 3))))))))
      (pss_one (ps_ret (pe_callB call_len_str (by rfl) T.n_len (by decide +kernel) (pa_cons (pv 0) pa_nil))))))), ?_⟩
    have hzl : z.length = (TL.tl z).length := TL.len_tl z
    have hzs : z.length ≤ sizeLine := by rw [sizeLine_eq]; omega
    refine ⟨.str z, rfl, z, rfl, hzs, (z.length : Nat), rfl, by omega, by omega, for_it walk_range (fun i σ H' => ∃ (a b : Nat) (y3 : Option V), σ = [some (.str z), some (.int a), some (.int b), y3] ∧ Same H H' ∧ nsig 1 0 (TL.tl z) = i + nsig a b ((TL.tl z).drop i)) ⟨1, 0, none, rfl, Same.refl _, by simp⟩
      (fun _ _ _ _ _ => trivial) (fun i x σ H1 H2 hi hP hy => ?_) (fun σ H1 hP => ?_)⟩
    · obtain ⟨a, b, y3, rfl, sm, e⟩ := hP
      obtain ⟨rfl, rfl⟩ := hy
      have hil : i < (TL.tl z).length := by omega
      rw [drop_cons hil, nsig] at e
      have hat : atI z.cps.toList (0 + (i : Int)) = some (TL.tl z)[i] := lat_of (j := i) (by omega) (List.getElem?_eq_getElem hil)
      generalize (TL.tl z)[i] = c at *
      have edash : decide (V.str ⟨#[c]⟩ = V.str (Str.ofString "-")) = decide (c = 45) := decide_eq_decide.mpr ⟨fun h => by
          have := congrArg TL.tl (V.str.inj h)
          rw [tl_dash] at this
          simpa [TL.tl] using this, fun h => congrArg V.str (TL.ext_tl (by rw [tl_dash, h]))⟩
      have rest : ¬ (c = 45 ∧ 0 < b ∧ a < 3) → isLet c = true ∧ b < 8 → nsig 1 0 (TL.tl z) = (i + 1) + nsig a (b + 1) ((TL.tl z).drop (i + 1)) := fun h1 h2 => by
        rw [if_neg h1, if_pos h2] at e
        omega
      have stop : ¬ (c = 45 ∧ 0 < b ∧ a < 3) → ¬ (isLet c = true ∧ b < 8) → nsig 1 0 (TL.tl z) = i := fun h1 h2 => by
        rw [if_neg h1, if_neg h2] at e
        omega
      refine ⟨.str z, rfl, _, rfl, z, _, c, rfl, rfl, hzs, hat, rfl, _, rfl, ?_⟩
      rw [edash]
      by_cases hc : c = 45 ∧ 0 < b ∧ a < 3
      · rw [if_pos hc] at e
        rw [decide_eq_true hc.1]
        refine iteT ⟨.int b, rfl, _, 0, rfl, rfl, _, rfl, ?_⟩
        show (if decide ((0 : Int) < (b : Int)) = true then _ else _)
        rw [decide_eq_true (show (0 : Int) < (b : Int) by omega)]
        refine iteT ⟨.int a, rfl, _, 3, rfl, rfl, _, rfl, ?_⟩
        show (if decide ((a : Int) < 3) = true then _ else _)
        rw [decide_eq_true (show (a : Int) < 3 by omega)]
        exact iteT ⟨.int a, rfl, _, 1, rfl, rfl, a + 1, 0, _, rfl, sm, by omega⟩
      · have three : c ≠ 45 ∨ (c = 45 ∧ ¬ 0 < b) ∨ (c = 45 ∧ 0 < b ∧ ¬ a < 3) := by omega
        rcases three with h1 | ⟨h1, h2⟩ | ⟨h1, h2, h3⟩
        · rw [decide_eq_false h1]
          refine iteF ?_
          refine ⟨.str z, rfl, _, rfl, z, _, c, rfl, rfl, hzs, hat, c, rfl, fun H3 s3 => ⟨_, rfl, ?_⟩⟩
          by_cases hl : isLet c = true ∧ b < 8
          · rw [hl.1]
            refine iteT ⟨.int b, rfl, _, 8, rfl, rfl, _, rfl, ?_⟩
            show (if decide ((b : Int) < 8) = true then _ else _)
            rw [decide_eq_true (show (b : Int) < 8 by omega)]
            exact iteT ⟨.int b, rfl, _, 1, rfl, rfl, a, b + 1, _, rfl, sm.trans s3, rest hc hl⟩
          · have es := stop hc hl
            have fin : ∀ H', Same H2 H' → Q (.int (0 + (i : Int))) H' := fun H' s' => by
              rw [show (0 : Int) + (i : Int) = ((nsig 1 0 (TL.tl z) : Nat) : Int) by rw [es]; omega]
              exact q _ (sm.trans s')
            cases hi2 : isLet c with
            | false => exact iteF ⟨_, rfl, fin _ s3⟩
            | true =>
              refine iteT ⟨.int b, rfl, _, 8, rfl, rfl, _, rfl, ?_⟩
              show (if decide ((b : Int) < 8) = true then _ else _)
              rw [decide_eq_false (show ¬ (b : Int) < 8 by have : ¬ b < 8 := fun h => hl ⟨hi2, h⟩; omega)]
              exact iteF ⟨_, rfl, fin _ s3⟩
        · rw [decide_eq_true h1]
          refine iteT ⟨.int b, rfl, _, 0, rfl, rfl, _, rfl, ?_⟩
          show (if decide ((0 : Int) < (b : Int)) = true then _ else _)
          rw [decide_eq_false (show ¬ (0 : Int) < (b : Int) by omega)]
          refine iteF ?_
          refine ⟨.str z, rfl, _, rfl, z, _, c, rfl, rfl, hzs, hat, c, rfl, fun H3 s3 => ⟨_, rfl, ?_⟩⟩
          by_cases hl : isLet c = true ∧ b < 8
          · rw [hl.1]
            refine iteT ⟨.int b, rfl, _, 8, rfl, rfl, _, rfl, ?_⟩
            show (if decide ((b : Int) < 8) = true then _ else _)
            rw [decide_eq_true (show (b : Int) < 8 by omega)]
            exact iteT ⟨.int b, rfl, _, 1, rfl, rfl, a, b + 1, _, rfl, sm.trans s3, rest hc hl⟩
          · have es := stop hc hl
            have fin : ∀ H', Same H2 H' → Q (.int (0 + (i : Int))) H' := fun H' s' => by
              rw [show (0 : Int) + (i : Int) = ((nsig 1 0 (TL.tl z) : Nat) : Int) by rw [es]; omega]
              exact q _ (sm.trans s')
            cases hi2 : isLet c with
            | false => exact iteF ⟨_, rfl, fin _ s3⟩
            | true =>
              refine iteT ⟨.int b, rfl, _, 8, rfl, rfl, _, rfl, ?_⟩
              show (if decide ((b : Int) < 8) = true then _ else _)
              rw [decide_eq_false (show ¬ (b : Int) < 8 by have : ¬ b < 8 := fun h => hl ⟨hi2, h⟩; omega)]
              exact iteF ⟨_, rfl, fin _ s3⟩
        · rw [decide_eq_true h1]
          refine iteT ⟨.int b, rfl, _, 0, rfl, rfl, _, rfl, ?_⟩
          show (if decide ((0 : Int) < (b : Int)) = true then _ else _)
          rw [decide_eq_true (show (0 : Int) < (b : Int) by omega)]
          refine iteT ⟨.int a, rfl, _, 3, rfl, rfl, _, rfl, ?_⟩
          show (if decide ((a : Int) < 3) = true then _ else _)
          rw [decide_eq_false (show ¬ (a : Int) < 3 by omega)]
          refine iteF ?_
          refine ⟨.str z, rfl, _, rfl, z, _, c, rfl, rfl, hzs, hat, c, rfl, fun H3 s3 => ⟨_, rfl, ?_⟩⟩
          by_cases hl : isLet c = true ∧ b < 8
          · rw [hl.1]
            refine iteT ⟨.int b, rfl, _, 8, rfl, rfl, _, rfl, ?_⟩
            show (if decide ((b : Int) < 8) = true then _ else _)
            rw [decide_eq_true (show (b : Int) < 8 by omega)]
            exact iteT ⟨.int b, rfl, _, 1, rfl, rfl, a, b + 1, _, rfl, sm.trans s3, rest hc hl⟩
          · have es := stop hc hl
            have fin : ∀ H', Same H2 H' → Q (.int (0 + (i : Int))) H' := fun H' s' => by
              rw [show (0 : Int) + (i : Int) = ((nsig 1 0 (TL.tl z) : Nat) : Int) by rw [es]; omega]
              exact q _ (sm.trans s')
            cases hi2 : isLet c with
            | false => exact iteF ⟨_, rfl, fin _ s3⟩
            | true =>
              refine iteT ⟨.int b, rfl, _, 8, rfl, rfl, _, rfl, ?_⟩
              show (if decide ((b : Int) < 8) = true then _ else _)
              rw [decide_eq_false (show ¬ (b : Int) < 8 by have : ¬ b < 8 := fun h => hl ⟨hi2, h⟩; omega)]
              exact iteF ⟨_, rfl, fin _ s3⟩
    · obtain ⟨a, b, y3, rfl, sm, e⟩ := hP
      have : (TL.tl z).drop ((z.length : Int).toNat) = [] := List.drop_of_length_le (by omega)
      rw [this, show nsig a b [] = 0 from rfl] at e
      refine ⟨.str z, rfl, z, rfl, hzs, ?_⟩
      have : ((z.length : Nat) : Int) = ((nsig 1 0 (TL.tl z) : Nat) : Int) := by omega
      rw [this]
      exact q _ sm
end
end K04

namespace K04
open PySem PySem.Spec PyProof.Rows L2 LH
section
variable {P : Program} {w : World} {K : PySem.W.Frag} {mg : Str → Option Value} {base : Heap} {tk : Nat → Tok} {ca : Nat → Addr}
/-! ### no_text_row -/
abbrev s_no_text_row : Stmt := topS 26
abbrev N_no_text_row : List Str := ["rows", "at"]
abbrev P_no_text_row : List Str := ["rows"]
theorem sc_no_text_row : FnScope N_no_text_row ["rows"] (defScope s_no_text_row) := ⟨rfl, rfl, rfl, by decide +kernel, rfl, by decide +kernel, by decide +kernel⟩
def sp_no_text (K : PySem.W.Frag) : Sp := fun vs H Q _ => ∃ (a : Addr) (R : List Str), vs = [.ref a] ∧ H a = some (.lst (R.map V.str)) ∧ R.length ≤ 100000 ∧ Tell H (.int 0) Q
theorem ok_no_text {f : Addr} {fd : FuncData} {k : Nat} (F : Fun K "no_text_row" "no_text_row" s_no_text_row f fd) (T : Tx mg tk) : FnOk P w K mg base CX0 (k + 1) f fd P_no_text_row (sp_no_text K) := by
  refine F.ok sc_no_text_row (fun vs H Q E h => ?_) (fun cdv A outer s H vs Q E hr h => ?_)
  · obtain ⟨a, R, rfl, _⟩ := h
    rfl
  · have nd := sc_no_text_row.nd
    obtain ⟨a, R, rfl, hS, hl, q⟩ := h
    refine ⟨_, (pss_cons (ps_if (pt_not (pt_val (pe_callB (cIsi K) (by rfl) T.n_isinstance (by decide +kernel) (pa_cons (pv 0) (pa_cons (pe_bltn (v := .ty "list") (by rfl) T.n_list (by decide +kernel) rfl) pa_nil)))))
        (pss_one (ps_ret pe_int))
        pss_nil)
      (pss_cons (ps_for PassesOwn.never rfl (pi_range1 (by rfl) T.n_range (pa_cons (pe_callB (cLen K) (by rfl) T.n_len (by decide +kernel) (pa_cons (pv 0) pa_nil)) pa_nil)) (pg_name (i := 1) nd rfl (Or.inl rfl))
        (pss_one (ps_if (pt_not (pt_val (pe_callB (cIsi K) (by rfl) T.n_isinstance (by decide +kernel) (pa_cons (pe_ix (ixL K) (pv 0) (pv 1) (fun _ _ => rfl)) (pa_cons (pe_bltn (v := .ty "str") (by rfl) T.n_str (by decide +kernel) rfl) pa_nil)))))
          (pss_one (ps_ret (pe_op op_add (pv 1) pe_int)))
          pss_nil)))
      (pss_one (ps_ret pe_int)))), ?_⟩
    have hRm : (R.map V.str).length = R.length := List.length_map ..
    refine ⟨.ref a, rfl, .ref a, .ty "list", _, _, true, rfl, .ty _, .base (.lst hS), kit_ty (by decide +kernel), true, rfl, iteF ?_⟩
    refine ⟨.ref a, rfl, a, _, rfl, .inl (.inl (.inl hS)), (R.length : Nat), by rw [hRm], by omega, by omega, for_it walk_range (fun i σ H' => ∃ y1, σ = [some (.ref a), y1] ∧ Same H H') ⟨none, rfl, Same.refl _⟩
      (fun _ _ _ _ _ => trivial) (fun i x σ H1 H2 hi hP hy => ?_) (fun σ H1 hP => ?_)⟩
    · obtain ⟨y1, rfl, sm⟩ := hP
      obtain ⟨rfl, rfl⟩ := hy
      have hil : i < R.length := by omega
      refine ⟨.ref a, rfl, _, rfl, a, _, _, .str R[i], rfl, rfl, .inl (.inl (sm _ _ hS)), lat_of (j := i) (by omega) (by rw [List.getElem?_map, List.getElem?_eq_getElem hil]; rfl), ?_⟩
      refine ⟨_, .ty "str", _, _, true, rfl, .ty _, .base (.str _), kit_ty (by decide +kernel), true, rfl, iteF ?_⟩
      exact ⟨_, rfl, sm⟩
    · obtain ⟨y1, rfl, sm⟩ := hP
      exact q _ sm
/-! ### a row's first wrong place -/
theorem nsig_ascii : ∀ (l : List Nat) (a b : Nat), ∀ c ∈ l.take (nsig a b l), c < 128
  | [], _, _ => fun c h => by simp at h
  | c :: r, a, b => by
    intro d hd
    rw [nsig] at hd
    by_cases h1 : c = 45 ∧ 0 < b ∧ a < 3
    · rw [if_pos h1, Nat.add_comm, List.take_succ_cons] at hd
      rcases List.mem_cons.mp hd with rfl | h
      · omega
      · exact nsig_ascii r _ _ d h
    · rw [if_neg h1] at hd
      by_cases h2 : isLet c = true ∧ b < 8
      · rw [if_pos h2, Nat.add_comm, List.take_succ_cons] at hd
        rcases List.mem_cons.mp hd with rfl | h
        · exact (let_no_dash h2.1).2.2
        · exact nsig_ascii r _ _ d h
      · rw [if_neg h2] at hd
        simp at hd
theorem nsig_le : ∀ (l : List Nat) (a b : Nat), nsig a b l ≤ l.length
  | [], _, _ => Nat.le_refl _
  | c :: r, a, b => by
    rw [nsig, List.length_cons]
    split
    · have := nsig_le r (a + 1) 0; omega
    · split
      · have := nsig_le r a (b + 1); omega
      · omega
def rowPlace (behind : Bool) (l : List Nat) : Nat :=
  if behind = true ∧ l[0]? = some 32 then wsp 0 l
  else if isHN ((l.take (nsig 1 0 l)).map lowC) = false ∨ l[nsig 1 0 l]? ≠ some 58 then nsig 1 0 l + 1 else wsp 0 l
/-! ### wrong_row_place -/
abbrev s_wrong_row_place : Stmt := topS 39
abbrev N_wrong_row_place : List Str := ["row", "behind", "many"]
abbrev P_wrong_row_place : List Str := ["row", "behind"]
theorem sc_wrong_row_place : FnScope N_wrong_row_place ["row", "behind"] (defScope s_wrong_row_place) := ⟨rfl, rfl, rfl, by decide +kernel, rfl, by decide +kernel, by decide +kernel⟩
def sp_row_place : Sp := fun vs H Q _ => ∃ (z : Str) (b : Bool), vs = [.str z, .bl b] ∧ z.length ≤ 100000 ∧ Tell H (.int (rowPlace b (TL.tl z) : Nat)) Q
theorem ok_row_place {f fN fH fW : Addr} {fd fdN fdH fdW : FuncData} (F : Fun K "wrong_row_place" "wrong_row_place" s_wrong_row_place f fd) (T : Tx mg tk) (D_name_signs : Def P w K mg base "name_signs" 2 fN fdN P_name_signs sp_name_signs) (D_is_header_name : Def P w K mg base "is_header_name" 2 fH fdH ["thing"] (sp_header_name K)) (D_wrong_sign_place : Def P w K mg base "wrong_sign_place" 2 fW fdW P_wrong_sign_place sp_wsp) : FnOk P w K mg base CX0 3 f fd P_wrong_row_place sp_row_place := by
  refine F.ok sc_wrong_row_place (fun vs H Q E h => ?_) (fun cdv A outer s H vs Q E hr h => ?_)
  · obtain ⟨z, b, rfl, _⟩ := h
    rfl
  · have nd := sc_wrong_row_place.nd
    obtain ⟨z, b, rfl, hz, q⟩ := h
    refine ⟨_, (pss_cons (ps_if (pt_not (PW.pt (pw_and (pt_val (pv 1)) (pw_and1 (pt_val (pe_m1 PySem.F.slot_str_startswith PySem.F.type_str_startswith mt_startswith (pv 0) pe_str))))))
        (pss_cons (ps_set (i := 2) nd rfl (.inl rfl) (pe_def D_name_signs (hr.mono (by decide)) (pa_cons (pv 0) pa_nil)))
        (pss_one (ps_if (PW.pt (pw_or (pt_not (pt_val (pe_def D_is_header_name (hr.mono (by decide)) (pa_cons (pe_lower (pe_slice sl_str (pv 0) po_none (po_some (pv 2)))) pa_nil)))) (pw_or1 (pt_cmpR op_ne (pe_slice sl_str (pv 0) (po_some (pv 2)) (po_some (pe_op op_add (pv 2) pe_int))) pe_str (nomark _)))))
          (pss_one (ps_ret (pe_op op_add (pv 2) pe_int)))
          pss_nil)))
        pss_nil)
      (pss_one (ps_ret (pe_def D_wrong_sign_place (hr.mono (by decide)) (pa_cons (pv 0) pa_nil))))), ?_⟩
    have hzl : z.length = (TL.tl z).length := TL.len_tl z
    have fin : ∀ (y : Option V) (H' : Hp), Same H H' → rowPlace b (TL.tl z) = wsp 0 (TL.tl z) → tRet (tCall sp_wsp [] E0 (tCons (tVar 0) tNil)) { nx := fun x H' => Q V.non H', rt := Q } [some (.str z), some (.bl b), y] H' := fun y H' s' e => by
      rw [e] at q
      exact ⟨.str z, rfl, z, rfl, hz, fun H2 s2 => q H2 (s'.trans s2)⟩
    have hst : Txt.startswith z (Str.ofString " ") = decide ((TL.tl z)[0]? = some 32) := starts_one z _ 32 tl_blank
    have tst : ∀ k : Bool → Hp → Prop, k (!(b && decide ((TL.tl z)[0]? = some 32))) H → tNot (tAnd (tB (tVar 1)) (tB (tM1 (fun x xs H Q => ∃ a b, x = V.str a ∧ xs = [V.str b] ∧ Q (V.bl (Txt.startswith a b)) H) (tVar 0) (tC (V.str (Str.ofString " ")))))) (L2.start N_wrong_row_place [V.str z, V.bl b]) H k := fun k hk => by
      refine ⟨.bl b, rfl, _, rfl, ?_⟩
      cases b with
      | false => exact iteF hk
      | true =>
        refine iteT ⟨.str z, rfl, ⟨z, rfl⟩, z, Str.ofString " ", rfl, rfl, _, rfl, ?_⟩
        rw [hst]
        exact hk
    dsimp only [tSeq, tIfS]
    refine tst _ ?_
    by_cases hb : b = true ∧ (TL.tl z)[0]? = some 32
    · rw [hb.1, decide_eq_true hb.2]
      refine iteF ?_
      refine fin none H (Same.refl _) ?_
      unfold rowPlace
      rw [if_pos hb]
    · have hbb : (b && decide ((TL.tl z)[0]? = some 32)) = false := by
        cases b with
        | false => rfl
        | true => exact decide_eq_false fun h => hb ⟨rfl, h⟩
      rw [hbb]
      have eR : rowPlace b (TL.tl z) = if isHN (((TL.tl z).take (nsig 1 0 (TL.tl z))).map lowC) = false ∨ (TL.tl z)[nsig 1 0 (TL.tl z)]? ≠ some 58 then nsig 1 0 (TL.tl z) + 1 else wsp 0 (TL.tl z) := by
        unfold rowPlace
        rw [if_neg hb]
      have hla := nsig_ascii (TL.tl z) 1 0
      have hle := nsig_le (TL.tl z) 1 0
      refine iteT ⟨.str z, rfl, z, rfl, hz, fun H1 s1 => ?_⟩
      generalize nsig 1 0 (TL.tl z) = m at *
      have ecut : cutS z none (some (m : Int)) = ⟨((TL.tl z).take m).toArray⟩ := cutS_to z m
      have elow : TL.tl (Txt.lower (cutS z none (some (m : Int)))) = ((TL.tl z).take m).map lowC := by
        rw [ecut, lower_eq _ hla]
      have ecl : (cutS z none (some (m : Int))).length ≤ 100000 := by
        rw [ecut, mk_len, List.length_take]; omega
      have ell : (Txt.lower (cutS z none (some (m : Int)))).length ≤ 100000 := by
        rw [TL.len_tl, elow, List.length_map, List.length_take]; omega
      have eat : (!decide (V.str (cutS z (some (m : Int)) (some ((m : Int) + 1))) = V.str (Str.ofString ":"))) = decide ((TL.tl z)[m]? ≠ some 58) := by
        rw [show (m : Int) + 1 = ((m + 1 : Nat) : Int) by omega, cutS_at]
        rw [show m + 1 - m = 1 by omega]
        have e1 : ((TL.tl z).drop m).take 1 = [58] ↔ (TL.tl z)[m]? = some 58 := by
          rw [take1, List.getElem?_drop, Nat.add_zero]
        have e2 : (V.str ⟨(((TL.tl z).drop m).take 1).toArray⟩ = V.str (Str.ofString ":")) ↔ (TL.tl z)[m]? = some 58 := by
          rw [← e1]
          constructor
          · intro h
            have := congrArg TL.tl (V.str.inj h)
            rw [show TL.tl (Str.ofString ":") = [58] by decide +kernel] at this
            exact this
          · intro h
            rw [h]
            exact congrArg V.str (TL.ext_tl (by decide +kernel))
        by_cases h : (TL.tl z)[m]? = some 58
        · rw [decide_eq_true (e2.mpr h), decide_eq_false (fun k => k h)]; rfl
        · rw [decide_eq_false (fun k => h (e2.mp k)), decide_eq_true h]; rfl
      refine ⟨.str z, rfl, .int m, rfl, (m : Int), rfl, ?_⟩
      have hzs : z.length ≤ sizeLine := by rw [sizeLine_eq]; omega
      refine ⟨z, rfl, hzs, ⟨_, rfl⟩, _, rfl, rfl, by omega, _, rfl, .inl ⟨_, rfl, ell, fun H2 s2 => ⟨_, rfl, ?_⟩⟩⟩
      rw [elow]
      have bad : ∀ H', Same H H' → rowPlace b (TL.tl z) = m + 1 → tRet (tOp (rI0 fun i j => V.int (i + j)) (tVar 2) (tC (V.int 1))) { nx := tRet (tCall sp_wsp [] E0 (tCons (tVar 0) tNil)) { nx := fun x H' => Q V.non H', rt := Q }, rt := Q } (List.set (L2.start N_wrong_row_place [V.str z, V.bl b]) 2 (some (V.int ↑m))) H' := fun H' s' e => by
        rw [e] at q
        exact ⟨.int m, rfl, _, 1, rfl, rfl, q H' s'⟩
      cases hN : isHN (((TL.tl z).take m).map lowC) with
      | false => exact iteT (iteT (bad H2 (s1.trans s2) (by rw [eR, if_pos (.inl hN)])))
      | true =>
        refine iteF ⟨.str z, rfl, .int m, rfl, (m : Int), rfl, .int m, rfl, _, 1, rfl, rfl, _, rfl, z, rfl, hzs, rfl, _, rfl, ?_⟩
        rw [eat]
        by_cases h : (TL.tl z)[m]? = some 58
        · rw [decide_eq_false (fun k => k h)]
          exact iteF (fin _ H2 (s1.trans s2) (by rw [eR, if_neg (fun k => k.elim (fun k => by rw [hN] at k; exact nomatch k) (fun k => k h))]))
        · rw [decide_eq_true h]
          exact iteT (bad H2 (s1.trans s2) (by rw [eR, if_pos (.inr h)]))
/-! ### refuse_wrong_rows -/
abbrev s_refuse_wrong_rows : Stmt := topS 38
abbrev N_refuse_wrong_rows : List Str := ["rows", "number", "at", "place"]
abbrev P_refuse_wrong_rows : List Str := ["rows"]
theorem sc_refuse_wrong_rows : FnScope N_refuse_wrong_rows ["rows"] (defScope s_refuse_wrong_rows) := ⟨rfl, rfl, rfl, by decide +kernel, rfl, by decide +kernel, by decide +kernel⟩
def sp_refuse (K : PySem.W.Frag) : Sp := fun vs H Q _ => ∃ (a : Addr) (R : List Str), vs = [.ref a] ∧ H a = some (.lst (R.map V.str)) ∧ R.length ≤ 100000 ∧ (∀ x ∈ R, x.length ≤ 100000) ∧ (∀ i, i < R.length → rowPlace (decide (0 < i)) (TL.tl (R.getD i Str.empty)) = 0) ∧ Tell H .non Q
theorem ok_refuse {f fN fW : Addr} {fd fdN fdW : FuncData} (F : Fun K "refuse_wrong_rows" "refuse_wrong_rows" s_refuse_wrong_rows f fd) (T : Tx mg tk) (D_no_text_row : Def P w K mg base "no_text_row" 1 fN fdN P_no_text_row (sp_no_text K)) (D_wrong_row_place : Def P w K mg base "wrong_row_place" 3 fW fdW P_wrong_row_place sp_row_place) : FnOk P w K mg base CX0 4 f fd P_refuse_wrong_rows (sp_refuse K) := by
  refine F.ok sc_refuse_wrong_rows (fun vs H Q E h => ?_) (fun cdv A outer s H vs Q E hr h => ?_)
  · obtain ⟨a, R, rfl, _⟩ := h
    rfl
  · have nd := sc_refuse_wrong_rows.nd
    obtain ⟨a, R, rfl, hS, hl, hx, hp, q⟩ := h
    refine ⟨_, (pss_cons (ps_set (i := 1) nd rfl (.inl rfl) (pe_def D_no_text_row (hr.mono (by decide)) (pa_cons (pv 0) pa_nil)))
      (pss_cons (ps_if (pt_cmpR op_gt (pv 1) pe_int (nomark _))
        (pss_one ps_never)
        pss_nil)
      (pss_one (ps_for PassesOwn.never rfl (pi_range1 (by rfl) T.n_range (pa_cons (pe_callB (cLen K) (by rfl) T.n_len (by decide +kernel) (pa_cons (pv 0) pa_nil)) pa_nil)) (pg_name (i := 2) nd rfl (Or.inl rfl))
        (pss_cons (ps_set (i := 3) nd rfl (.inl rfl) (pe_def D_wrong_row_place (hr.mono (by decide)) (pa_cons (pe_ix (ixL K) (pv 0) (pv 2) (fun _ _ => rfl)) (pa_cons (pe_cmpR op_gt (pv 2) pe_int (nomark _)) pa_nil))))
        (pss_one (ps_if (pt_cmpR op_gt (pv 3) pe_int (nomark _))
          (pss_one ps_never)
          pss_nil))))))), ?_⟩
    have hRm : (R.map V.str).length = R.length := List.length_map ..
    refine ⟨.ref a, rfl, a, R, rfl, hS, hl, fun H1 s1 => ⟨.int 0, rfl, _, 0, rfl, rfl, false, rfl, iteF ?_⟩⟩
    refine ⟨.ref a, rfl, a, _, rfl, .inl (.inl (.inl (s1 _ _ hS))), (R.length : Nat), by rw [hRm], by omega, by omega, for_it walk_range (fun i σ H' => ∃ y2 y3, σ = [some (.ref a), some (.int 0), y2, y3] ∧ Same H H') ⟨none, none, rfl, s1⟩
      (fun _ _ _ _ _ => trivial) (fun i x σ H2 H3 hi hP hy => ?_) (fun σ H2 hP => ?_)⟩
    · obtain ⟨y2, y3, rfl, sm⟩ := hP
      obtain ⟨rfl, rfl⟩ := hy
      have hil : i < R.length := by omega
      have hpi := hp i hil
      have hxi := hx R[i] (List.getElem_mem hil)
      have eg : R.getD i Str.empty = R[i] := by rw [List.getD_eq_getElem?_getD, List.getElem?_eq_getElem hil]; rfl
      rw [eg] at hpi
      have ei : decide ((0 : Int) < 0 + (i : Int)) = decide (0 < i) := decide_eq_decide.mpr (by omega)
      refine ⟨.ref a, rfl, _, rfl, a, _, _, .str R[i], rfl, rfl, .inl (.inl (sm _ _ hS)), lat_of (j := i) (by omega) (by rw [List.getElem?_map, List.getElem?_eq_getElem hil]; rfl), _, rfl, _, 0, rfl, rfl, R[i], decide (0 < i), by rw [← ei]; rfl, hxi, fun H4 s4 => ?_⟩
      rw [hpi]
      refine ⟨.int 0, rfl, _, 0, rfl, rfl, false, rfl, iteF ?_⟩
      exact ⟨_, _, rfl, sm.trans s4⟩
    · obtain ⟨y2, y3, rfl, sm⟩ := hP
      exact q _ sm
end
end K04

namespace K04
open PySem PySem.Spec PyProof.Rows L2 LH
section
variable {P : Program} {w : World} {K : PySem.W.Frag} {mg : Str → Option Value} {base : Heap} {tk : Nat → Tok} {ca : Nat → Addr}
/-! ### the headers so far: a tuple, its list of words, the name, the words -/
structure HdInv (H0 H : Hp) (o : Addr) (L : List (Addr × Addr × Str × List Str)) : Prop where
  lst : H o = some (.lst (L.map fun e => V.ref e.1))
  tup : ∀ e ∈ L, H e.1 = some (.tup [.str e.2.2.1, .ref e.2.1])
  wrd : ∀ e ∈ L, H e.2.1 = some (.lst (e.2.2.2.map V.str))
  new : ∀ e ∈ L, H0 e.2.1 = none
  off : ∀ e ∈ L, e.2.1 ≠ o
  dif : (L.map fun e => e.2.1).Nodup
theorem HdInv.same {H0 H H' : Hp} {o : Addr} {L : List (Addr × Addr × Str × List Str)} (h : HdInv H0 H o L) (s : Same H H') : HdInv H0 H' o L :=
  ⟨s _ _ h.lst, fun e he => s _ _ (h.tup e he), fun e he => s _ _ (h.wrd e he), h.new, h.off, h.dif⟩
theorem HdInv.push {H0 H : Hp} {o t u : Addr} {n : Str} {ws : List Str} {L : List (Addr × Addr × Str × List Str)} (h : HdInv H0 H o L) (ht : H t = some (.tup [.str n, .ref u])) (hu : H u = some (.lst (ws.map V.str))) (h0 : H0 u = none) (huo : u ≠ o) (hd : ∀ e ∈ L, e.2.1 ≠ u) :
    HdInv H0 (upd H o (.lst ((L.map fun e => V.ref e.1) ++ [.ref t]))) o (L ++ [(t, u, n, ws)]) := by
  have tn : ∀ q xs, H q = some (.tup xs) → q ≠ o := fun q xs e z => by
    rw [z, h.lst] at e
    exact nomatch e
  refine ⟨by rw [upd_same, List.map_append]; rfl, fun e he => ?_, fun e he => ?_, fun e he => ?_, fun e he => ?_, ?_⟩
  · rcases List.mem_append.mp he with he | he
    · rw [upd_ne (tn _ _ (h.tup e he))]; exact h.tup e he
    · rw [List.mem_singleton.mp he]; show upd H o _ t = _; rw [upd_ne (tn _ _ ht)]; exact ht
  · rcases List.mem_append.mp he with he | he
    · rw [upd_ne (h.off e he)]; exact h.wrd e he
    · rw [List.mem_singleton.mp he]; show upd H o _ u = _; rw [upd_ne huo]; exact hu
  · rcases List.mem_append.mp he with he | he
    · exact h.new e he
    · rw [List.mem_singleton.mp he]; exact h0
  · rcases List.mem_append.mp he with he | he
    · exact h.off e he
    · rw [List.mem_singleton.mp he]; exact huo
  · rw [List.map_append, List.nodup_append]
    refine ⟨h.dif, by simp, fun a ha b hb => ?_⟩
    obtain ⟨e, he, rfl⟩ := List.mem_map.mp ha
    have : b = u := by simpa using hb
    rw [this]
    exact hd e he
theorem HdInv.ext {H0 H : Hp} {o t u : Addr} {n : Str} {ws zs : List Str} {L : List (Addr × Addr × Str × List Str)} (h : HdInv H0 H o (L ++ [(t, u, n, ws)])) : HdInv H0 (upd H u (.lst ((ws ++ zs).map V.str))) o (L ++ [(t, u, n, ws ++ zs)]) := by
  have hm : (t, u, n, ws) ∈ L ++ [(t, u, n, ws)] := by simp
  have hu := h.wrd _ hm
  have tn : ∀ q xs, H q = some (.tup xs) → q ≠ u := fun q xs e z => by
    rw [z] at e
    rw [hu] at e
    exact nomatch e
  have huo : u ≠ o := h.off _ hm
  have hd := h.dif
  rw [List.map_append, List.nodup_append] at hd
  have hne : ∀ e ∈ L, e.2.1 ≠ u := fun e he => hd.2.2 _ (List.mem_map.mpr ⟨e, he, rfl⟩) u (by simp)
  refine ⟨?_, fun e he => ?_, fun e he => ?_, fun e he => ?_, fun e he => ?_, ?_⟩
  · rw [upd_ne (Ne.symm huo), h.lst, List.map_append, List.map_append]; rfl
  · rcases List.mem_append.mp he with he | he
    · rw [upd_ne (tn _ _ (h.tup e (by simp [he])))]; exact h.tup e (by simp [he])
    · rw [List.mem_singleton.mp he]; show upd H u _ t = _; rw [upd_ne (tn _ _ (h.tup _ hm))]; exact h.tup _ hm
  · rcases List.mem_append.mp he with he | he
    · rw [upd_ne (hne e he)]; exact h.wrd e (by simp [he])
    · rw [List.mem_singleton.mp he]; exact upd_same
  · rcases List.mem_append.mp he with he | he
    · exact h.new e (by simp [he])
    · rw [List.mem_singleton.mp he]; exact h.new (t, u, n, ws) hm
  · rcases List.mem_append.mp he with he | he
    · exact h.off e (by simp [he])
    · rw [List.mem_singleton.mp he]; exact huo
  · rw [List.map_append, List.nodup_append]
    exact hd
/-! ### reading rows -/
def colon : Str := Str.ofString ":"
def ustep (st : List (Str × List Str)) (r : Str) : List (Str × List Str) :=
  if (TL.tl r)[0]? = some 32 then st.dropLast ++ [((st.getLastD (Str.empty, [])).1, (st.getLastD (Str.empty, [])).2 ++ Txt.words r)]
  else st ++ [(Txt.lower (Txt.partition r colon).1, Txt.words (Txt.partition r colon).2.2)]
def readRows (R : List Str) : List (Str × Str) := (R.foldl ustep []).map fun e => (e.1, Txt.join (Str.ofString " ") e.2)
/-- a new list of pairs -/
def NewPairs (H : Hp) (ps : List (Str × Str)) (Q : VK) : Prop := ∀ H' p (ts : List Addr), Same H H' → H p = none → H' p = some (.lst (ts.map V.ref)) → ts.length = ps.length →
  (∀ i, i < ps.length → H' (ts.getD i 0) = some (.tup [.str (ps.getD i (Str.empty, Str.empty)).1, .str (ps.getD i (Str.empty, Str.empty)).2])) → Q (.ref p) H'
def wt (ws : List Str) : Nat := (ws.map (·.length)).sum + ws.length
theorem wt_app (a b : List Str) : wt (a ++ b) = wt a + wt b := by
  unfold wt
  rw [List.map_append, List.sum_append, List.length_append]
  omega
theorem row_first {b : Bool} {l : List Nat} (h : rowPlace false l = 0) : l[0]? ≠ some 32 := fun h0 => by
  unfold rowPlace at h
  rw [if_neg (fun k => Bool.false_ne_true k.1)] at h
  cases l with
  | nil => simp at h0
  | cons c r =>
    have : c = 32 := by simpa using h0
    subst this
    have e : nsig 1 0 (32 :: r) = 0 := by
      rw [nsig, if_neg (by decide), if_neg (by decide)]
    rw [e] at h
    have : isHN ([] : List Nat) = false := by decide
    rw [if_pos (.inl (by simpa using this))] at h
    omega
/-! ### unfolded -/
abbrev s_unfolded : Stmt := topS 37
abbrev N_unfolded : List Str := ["rows", "headers", "row", "name", "_", "rest", "words"]
abbrev P_unfolded : List Str := ["rows"]
theorem sc_unfolded : FnScope N_unfolded ["rows"] (defScope s_unfolded) := ⟨rfl, rfl, rfl, by decide +kernel, rfl, by decide +kernel, by decide +kernel⟩
def sp_unfolded (K : PySem.W.Frag) : Sp := fun vs H Q _ => ∃ (a : Addr) (R : List Str), vs = [.ref a] ∧ H a = some (.lst (R.map V.str)) ∧ R.length ≤ 10000 ∧ (∀ x ∈ R, x.length ≤ 1000) ∧ (∀ i, i < R.length → rowPlace (decide (0 < i)) (TL.tl (R.getD i Str.empty)) = 0) ∧ NewPairs H (readRows R) Q
theorem ok_unfolded {f fR : Addr} {fd fdR : FuncData} (F : Fun K "unfolded" "unfolded" s_unfolded f fd) (T : Tx mg tk) (D_refuse_wrong_rows : Def P w K mg base "refuse_wrong_rows" 4 fR fdR P_refuse_wrong_rows (sp_refuse K)) : FnOk P w K mg base CX0 5 f fd P_unfolded (sp_unfolded K) := by
  refine F.ok sc_unfolded (fun vs H Q E h => ?_) (fun cdv A outer s H vs Q E hr h => ?_)
  · obtain ⟨a, R, rfl, _⟩ := h
    rfl
  · have nd := sc_unfolded.nd
    obtain ⟨a, R, rfl, hS, hl, hx, hp, q⟩ := h
    refine ⟨_, (pss_cons (ps_expr (pe_def D_refuse_wrong_rows (hr.mono (by decide)) (pa_cons (pv 0) pa_nil)))
      (pss_cons (ps_set (i := 1) nd rfl (.inl rfl) (pe_lst pa_nil))
      (pss_cons (ps_for PassesOwn.never rfl (pi_list (pv 0)) (pg_name (i := 2) nd rfl (Or.inl rfl))
        (pss_one (ps_if (pt_val (pe_m1 PySem.F.slot_str_startswith PySem.F.type_str_startswith mt_startswith (pv 2) pe_str))
          (pss_one (ps_expr (pe_bm PySem.F.plainAttrs_list PySem.F.slot_list_extend PySem.F.type_list_extend mt_extend (pe_ix (ixT K) (pe_ix (ixL K) (pv 1) (pe_un un_neg pe_int) (fun _ _ => rfl)) pe_int (fun _ _ => rfl)) (pa_cons (pe_words (pv 2)) pa_nil))))
          (pss_cons (ps_asg (pe_partition (pv 2) pe_str) (pg_tup rfl (pgs_cons (pg_name (i := 3) nd rfl (Or.inl rfl)) (pgs_cons (pg_name (i := 4) nd rfl (Or.inl rfl)) (pgs_cons (pg_name (i := 5) nd rfl (Or.inl rfl)) pgs_nil)))))
          (pss_one (ps_expr (pe_bm PySem.F.plainAttrs_list PySem.F.slot_list_append PySem.F.type_list_append mt_append (pv 1) (pa_cons (pe_tup (pa_cons (pe_lower (pv 3)) (pa_cons (pe_words (pv 5)) pa_nil))) pa_nil))))))))
      (pss_one (ps_ret (pe_lc (own := [("name", 3), ("words", 6)]) (g := gTup K 2 (gCons (gName 3) (gCons (gName 6) gNil))) (by rfl) nd (pi_list (pv 1)) (blkOk_by (N := N_unfolded) (sc := defScope s_unfolded) (by decide +kernel)) (fun _ _ _ _ _ => by exact (pg_tup rfl (pgs_cons (pg_name (i := 3) nd rfl (Or.inl rfl)) (pgs_cons (pg_name (i := 6) nd rfl (Or.inl rfl)) pgs_nil)))) (fun _ _ _ _ _ => pts_nil) (fun _ _ _ _ _ => (pe_tup (pa_cons (pv 3) (pa_cons (pe_joinK K pe_str (pv 6)) pa_nil)))))))))), ?_⟩
    have hRm : (R.map V.str).length = R.length := List.length_map ..
    refine ⟨.ref a, rfl, a, R, rfl, hS, by omega, fun x h => by have := hx x h; omega, hp, fun H1 s1 => ⟨Nat.zero_le _, fun o no => ?_⟩⟩
    have s2 := same_upd (o := .lst []) no
    have hS1 := s1 _ _ hS
    refine ⟨.ref a, rfl, a, rfl, ⟨_, .inl (.inl (s2 _ _ hS1))⟩, for_it walk_list (fun i σ H' => ∃ (y2 y3 y4 y5 : Option V) (L : List (Addr × Addr × Str × List Str)), σ = [some (.ref a), some (.ref o), y2, y3, y4, y5, none] ∧ Same H1 H' ∧ HdInv H1 H' o L ∧ L.map (fun e => e.2.2) = (R.take i).foldl ustep [] ∧ (0 < i → L ≠ []) ∧ L.length ≤ i ∧ ∀ e ∈ L, wt e.2.2.2 ≤ 1001 * i)
      ⟨none, none, none, none, [], rfl, s2, ⟨upd_same, (fun _ h => by cases h), (fun _ h => by cases h), (fun _ h => by cases h), (fun _ h => by cases h), List.nodup_nil⟩, rfl, fun h => absurd h (Nat.lt_irrefl 0), Nat.le_refl _, fun _ h => by cases h⟩
      (fun i σ H' _ h => by obtain ⟨_, _, _, _, _, rfl, sm, _⟩ := h; exact .inl (.inl (sm _ _ hS1))) (fun i x σ H' H'' hi hP hy => ?_) (fun σ H' hP => ?_)⟩
    · obtain ⟨y2, y3, y4, y5, L, rfl, sm, hI, hL, hne, hLl, hwt⟩ := hP
      obtain ⟨rfl, hxx⟩ := hy
      rw [hRm] at hi
      rw [List.getElem?_map, List.getElem?_eq_getElem hi] at hxx
      obtain rfl := Option.some.inj hxx
      have hrl := hx R[i] (List.getElem_mem hi)
      have hpi := hp i hi
      rw [show R.getD i Str.empty = R[i] by rw [List.getD_eq_getElem?_getD, List.getElem?_eq_getElem hi]; rfl] at hpi
      have hfold : (R.take (i + 1)).foldl ustep [] = ustep (L.map (fun e => e.2.2)) R[i] := by
        rw [List.take_add_one, List.getElem?_eq_getElem hi, Option.toList_some, List.foldl_append, hL]
        rfl
      rw [hfold]
      generalize R[i] = r at *
      have hrs : r.length ≤ sizeLine := by rw [sizeLine_eq]; omega
      have eo := hI.lst
      refine ⟨.str r, rfl, ⟨r, rfl⟩, r, Str.ofString " ", rfl, rfl, _, rfl, ?_⟩
      rw [starts_one r _ 32 tl_blank]
      refine ite2 (fun hc => ?_) (fun hc => ?_)
      · have hc := of_decide_eq_true hc
        have hi0 : 0 < i := by
          rcases Nat.eq_zero_or_pos i with h | h
          · subst h
            exact absurd hc (row_first (b := false) hpi)
          · exact h
        rcases List.eq_nil_or_concat L with h | ⟨L', ⟨t, u, n, ws⟩, h⟩
        · exact absurd h (hne hi0)
        · rw [List.concat_eq_append] at h
          subst h
          have hm : (t, u, n, ws) ∈ L' ++ [(t, u, n, ws)] := by simp
          have hmap : (L' ++ [(t, u, n, ws)]).map (fun e => V.ref e.1) = (L'.map fun e => V.ref e.1) ++ [.ref t] := by rw [List.map_append]; rfl
          rw [hmap] at eo
          have et : H'' t = some (.tup [.str n, .ref u]) := hI.tup _ hm
          have eu : H'' u = some (.lst (ws.map V.str)) := hI.wrd _ hm
          have hw : wt ws ≤ 1001 * i := hwt _ hm
          have hww : wt (Txt.words r) ≤ r.length + 1 := StrLaws.words_weight r
          have hwl : ws.length ≤ wt ws := by unfold wt; omega
          have hwl2 : (Txt.words r).length ≤ wt (Txt.words r) := by unfold wt; omega
          refine ⟨.ref o, rfl, 1, rfl, o, _, -1, .ref t, rfl, rfl, .inl (.inl eo), atI_last _ _, t, _, 1, .ref u, rfl, rfl, .inl (.inl et), rfl, .inl ⟨rfl, _, .inl (.inl eu)⟩, .str r, rfl, ⟨r, rfl⟩, r, rfl, rfl, by rw [sizeLine_eq]; omega, fun p np => ?_⟩
          have s3 := same_upd (o := .lst ((Txt.words r).map V.str)) np
          refine ⟨u, p, _, _, rfl, rfl, s3 _ _ eu, upd_same, by rw [List.length_map, List.length_map, sizeLine_eq]; omega, ?_⟩
          rw [← List.map_append]
          refine ⟨_, _, _, _, L' ++ [(t, u, n, ws ++ Txt.words r)], rfl, fun b x e => ?_, (hI.same s3).ext, ?_, fun _ => by simp, ?_, fun e he => ?_⟩
          · rw [upd_ne (ne_of_none e (hI.new _ hm))]
            exact s3 _ _ (sm _ _ e)
          · have e1 : (L' ++ [(t, u, n, ws)]).map (fun e => e.2.2) = L'.map (fun e => e.2.2) ++ [(n, ws)] := by rw [List.map_append]; rfl
            rw [e1]
            unfold ustep
            rw [if_pos hc, List.dropLast_concat, List.getLastD_concat, List.map_append]
            rfl
          · rw [List.length_append] at hLl ⊢
            show L'.length + 1 ≤ i + 1
            have : L'.length + 1 ≤ i := hLl
            omega
          · rcases List.mem_append.mp he with he | he
            · have := hwt e (by simp [he]); omega
            · rw [List.mem_singleton.mp he]
              show wt (ws ++ Txt.words r) ≤ _
              rw [wt_app]
              omega
      · have hc : ¬ (TL.tl r)[0]? = some 32 := fun h => hc (decide_eq_true h)
        have hpl := part_lens r colon
        refine ⟨.str r, rfl, ⟨r, rfl⟩, r, colon, rfl, rfl, by decide +kernel, hrs, fun p np => ?_⟩
        have s3 := same_upd (o := .tup [.str (Txt.partition r colon).1, .str (Txt.partition r colon).2.1, .str (Txt.partition r colon).2.2]) np
        refine ⟨p, _, rfl, .inl (.inl upd_same), rfl, _, _, rfl, _, _, rfl, _, _, rfl, rfl, ?_⟩
        have hww : wt (Txt.words (Txt.partition r colon).2.2) ≤ (Txt.partition r colon).2.2.length + 1 := StrLaws.words_weight _
        have hI3 := hI.same s3
        refine ⟨.ref o, rfl, .inl ⟨rfl, _, .inl (.inl hI3.lst)⟩, .str (Txt.partition r colon).1, rfl, ⟨_, rfl⟩, _, rfl, rfl, by omega, .str (Txt.partition r colon).2.2, rfl, ⟨_, rfl⟩, _, rfl, rfl, by rw [sizeLine_eq]; omega, fun u nu => ?_⟩
        have s4 := same_upd (o := .lst ((Txt.words (Txt.partition r colon).2.2).map V.str)) nu
        refine ⟨Nat.le_of_lt (small1000 (show 2 ≤ 1000 by decide)), fun t nt => ?_⟩
        have s5 := same_upd (o := .tup [.str (Txt.lower (Txt.partition r colon).1), .ref u]) nt
        have hI5 := (hI3.same s4).same s5
        refine ⟨o, _, _, rfl, rfl, hI5.lst, by rw [List.length_map, sizeLine_eq]; omega, ?_⟩
        have h1u : H1 u = none := (sm.trans s3).free nu
        have uo : u ≠ o := fun z => by rw [z, hI3.lst] at nu; exact nomatch nu
        refine ⟨_, _, _, _, L ++ [(t, u, Txt.lower (Txt.partition r colon).1, Txt.words (Txt.partition r colon).2.2)], rfl, fun b x e => ?_, hI5.push upd_same (s5 _ _ upd_same) h1u uo (fun e he z => ?_), ?_, fun _ => by simp, ?_, fun e he => ?_⟩
        · rw [upd_ne (ne_of_none e no)]
          exact s5 _ _ (s4 _ _ (s3 _ _ (sm _ _ e)))
        · have := hI3.wrd e he
          rw [z, nu] at this
          exact nomatch this
        · unfold ustep
          rw [if_neg hc, List.map_append]
          rfl
        · rw [List.length_append]
          show L.length + 1 ≤ i + 1
          omega
        · rcases List.mem_append.mp he with he | he
          · have := hwt e he; omega
          · rw [List.mem_singleton.mp he]
            show wt (Txt.words (Txt.partition r colon).2.2) ≤ _
            omega
    · obtain ⟨y2, y3, y4, y5, L, rfl, sm, hI, hL, hne, hLl, hwt⟩ := hP
      rw [hRm] at hLl hwt
      rw [hRm, List.take_length] at hL
      have gA : ∀ i, i < L.length → ∀ d : Addr × Addr × Str × List Str, L.getD i d ∈ L ∧ (L.map (fun e => e.1)).getD i 0 = (L.getD i d).1 ∧ (readRows R).getD i (Str.empty, Str.empty) = ((L.getD i d).2.2.1, Txt.join (Str.ofString " ") (L.getD i d).2.2.2) := fun i hi d => by
        have e1 : L.getD i d = L[i] := by rw [List.getD_eq_getElem?_getD, List.getElem?_eq_getElem hi]; rfl
        rw [e1]
        refine ⟨List.getElem_mem hi, ?_, ?_⟩
        · rw [List.getD_eq_getElem?_getD, List.getElem?_map, List.getElem?_eq_getElem hi]; rfl
        · unfold readRows
          rw [← hL, List.map_map, List.getD_eq_getElem?_getD, List.getElem?_map, List.getElem?_eq_getElem hi]; rfl
      have hrl : (readRows R).length = L.length := by
        unfold readRows
        rw [← hL, List.length_map, List.length_map]
      have htl : (L.map (fun e => e.1)).length = L.length := List.length_map ..
      refine ⟨.ref o, rfl, o, rfl, ⟨_, .inl (.inl hI.lst)⟩, fun D hD => lc_tups (ts := L.map fun e => e.1) (ps := fun i => (.str (L.getD i (0, 0, Str.empty, [])).2.2.1, .ref (L.getD i (0, 0, Str.empty, [])).2.1)) (fun i => [.str (L.getD i (0, 0, Str.empty, [])).2.2.1, .str (Txt.join (Str.ofString " ") (L.getD i (0, 0, Str.empty, [])).2.2.2)]) (by decide) (.inl (.inl (by rw [hI.lst, List.map_map]; rfl))) (fun i hi => ?_) hD (by rw [htl, sizeLine_eq]; omega) (fun i H2 Q2 hi s2' q2 => ?_) (fun H2 us s2' hul hu e2 => ?_)⟩
      · rw [htl] at hi
        obtain ⟨hm, e1, _⟩ := gA i hi (0, 0, Str.empty, [])
        rw [e1]
        exact .inl (.inl (hI.tup _ hm))
      · rw [htl] at hi
        obtain ⟨hm, _, _⟩ := gA i hi (0, 0, Str.empty, [])
        have hw := hwt _ hm
        have e := s2' _ _ (hI.wrd _ hm)
        generalize L.getD i (0, 0, Str.empty, []) = en at *
        obtain ⟨t, u, n, ws⟩ := en
        have hw2 : (ws.map (·.length)).sum + ws.length ≤ 1001 * R.length := hw
        refine ⟨.str n, rfl, ⟨_, rfl⟩, .ref u, rfl, Str.ofString " ", u, ws, rfl, rfl, .inl (.inl (.inl e)), by rw [show (Str.ofString " ").length = 1 by decide +kernel]; omega, Nat.le_of_lt (small1000 (show 2 ≤ 1000 by decide)), fun p np => q2 p _ (same_upd np) np upd_same⟩
      · rw [htl] at hul hu
        refine q H2 D us (s1.trans (sm.trans s2')) ((s1.trans sm).free hD) e2 (by rw [hrl, hul]) fun i hi => ?_
        rw [hrl] at hi
        obtain ⟨hm, _, e3⟩ := gA i hi (0, 0, Str.empty, [])
        rw [e3]
        exact hu i hi
end
end K04

namespace K04
open PySem PySem.Spec PyProof.Rows L2 LH
section
theorem ws_len {ws : List Str} (hw : WsOk ws) : ∀ x ∈ ws.map TL.tl, x.length ≤ 59 := fun x hx => by
  obtain ⟨y, hy, rfl⟩ := List.mem_map.mp hx
  rw [← TL.len_tl]
  exact (hw y hy).2
theorem rowsS_okH {l : List Nat} {ws : List Str} (hn : isHN l = true) (hw : WsOk ws) : ∀ x ∈ strL (hrows l (ws.map TL.tl)), OkS x := fun x hx => by
  obtain ⟨r, hr, rfl⟩ := List.mem_map.mp hx
  have h := hfold_ok l (great_ok hn) (ws.map TL.tl) fun u hu => by
    obtain ⟨y, hy, rfl⟩ := List.mem_map.mp hu
    intro c hc
    have := (hw y hy).1.2 c hc
    omega
  intro c hc
  rcases List.mem_append.mp (show r ∈ (hfold l (ws.map TL.tl)).1 ++ [(hfold l (ws.map TL.tl)).2] from hr) with h1 | h1
  · exact h.2 r h1 c hc
  · rw [List.mem_singleton.mp h1] at hc
    exact h.1 c hc
theorem rows_lens {l : List Nat} {ws : List Str} (hn : isHN l = true) (hw : WsOk ws) : ∀ x ∈ strL (hrows l (ws.map TL.tl)), x.length ≤ 60 := fun x hx => by
  obtain ⟨r, hr, rfl⟩ := List.mem_map.mp hx
  have hgl := great_len hn
  have h := hfold_len l (by omega) (ws.map TL.tl) (ws_len hw)
  rw [mk_len]
  rcases List.mem_append.mp (show r ∈ (hfold l (ws.map TL.tl)).1 ++ [(hfold l (ws.map TL.tl)).2] from hr) with h1 | h1
  · exact h.2.1 r h1
  · rw [List.mem_singleton.mp h1]
    exact h.1
theorem rows_many {l : List Nat} {ws : List Str} (hn : isHN l = true) (hw : WsOk ws) : (strL (hrows l (ws.map TL.tl))).length ≤ ws.length + 1 := by
  have hgl := great_len hn
  have h := hfold_len l (by omega) (ws.map TL.tl) (ws_len hw)
  rw [List.length_map] at h
  unfold strL hrows
  rw [List.length_map, List.length_append, List.length_singleton]
  omega
/-! ### a header's rows are good, and tell it again -/
theorem wsp_ok : ∀ (l : List Nat) (n : Nat), n + l.length ≤ 60 → (∀ c ∈ l, isSign c = true) → wsp n l = 0
  | [], _, _, _ => rfl
  | c :: r, n, h, hs => by
    rw [List.length_cons] at h
    rw [wsp, if_neg (fun k => k.elim (fun k => by omega) (fun k => by rw [hs c (by simp)] at k; exact nomatch k)), wsp_ok r (n + 1) (by omega) fun x hx => hs x (by simp [hx])]
theorem cap_let {p : List Nat} (h : Sm p) : ∀ c ∈ cap p, isLet c = true := fun c hc => by
  cases p with
  | nil => cases hc
  | cons d r =>
    have key : (97 ≤ c ∧ c ≤ 122) ∨ (65 ≤ c ∧ c ≤ 90) := by
      rcases List.mem_cons.mp hc with rfl | hc
      · have := h d (by simp); omega
      · have := h c (by simp [hc]); omega
    unfold isLet
    simp only [Bool.or_eq_true, Bool.and_eq_true, decide_eq_true_eq]
    exact key
theorem great_signs {l : List Nat} (h : isHN l = true) : ∀ c ∈ great l, c = 45 ∨ isLet c = true := fun c hc => by
  rcases joinL_mem _ _ c hc with h1 | ⟨p, hp, hc⟩
  · exact .inl (List.mem_singleton.mp h1)
  · obtain ⟨x, hx, rfl⟩ := List.mem_map.mp hp
    exact .inr (cap_let (hn_small h x hx).1 c hc)
theorem great_sign {l : List Nat} (h : isHN l = true) : ∀ c ∈ great l, isSign c = true ∧ c ≠ 32 ∧ c ≠ 58 ∧ c < 128 := fun c hc => by
  have key : c = 45 ∨ (97 ≤ c ∧ c ≤ 122) ∨ (65 ≤ c ∧ c ≤ 90) := by
    rcases great_signs h c hc with h | h
    · exact .inl h
    · unfold isLet at h
      simp only [Bool.or_eq_true, Bool.and_eq_true, decide_eq_true_eq] at h
      exact .inr h
  refine ⟨?_, by omega, by omega, by omega⟩
  unfold isSign
  simp only [Bool.and_eq_true, decide_eq_true_eq, Bool.not_eq_true', decide_eq_false_iff_not]
  omega
theorem spw_sign {us : List (List Nat)} (h : ∀ u ∈ us, WordL u) : ∀ c ∈ spw us, isSign c = true := fun c hc => by
  unfold spw at hc
  obtain ⟨p, hp, hc⟩ := List.mem_flatten.mp hc
  obtain ⟨u, hu, rfl⟩ := List.mem_map.mp hp
  have key : c = 32 ∨ (33 ≤ c ∧ c ≤ 126 ∧ c ≠ 37) := (List.mem_cons.mp hc).imp (fun h => h) fun h => (h' u hu c h)
  unfold isSign
  simp only [Bool.and_eq_true, decide_eq_true_eq, Bool.not_eq_true', decide_eq_false_iff_not]
  omega
where h' := fun u hu c hc => (h u hu).2 c hc
theorem nsig_great {l : List Nat} (h : isHN l = true) (r : List Nat) : nsig 1 0 (great l ++ 58 :: r) = (great l).length := by
  unfold great
  refine nsig_join r _ 1 (fun e => ?_) ?_ fun p hp => ?_
  · have e2 := congrArg List.length e
    rw [List.length_map, splitL_eta 45 l] at e2
    exact nomatch e2
  · have := hn_many h
    rw [List.length_map]; omega
  · obtain ⟨x, hx, rfl⟩ := List.mem_map.mp hp
    have hs := hn_small h x hx
    exact ⟨cap_let hs.1, by rw [cap_len]; exact hs.2.1, by rw [cap_len]; exact hs.2.2⟩
theorem head_no32 {l : List Nat} (h : isHN l = true) (r : List Nat) : (great l ++ 58 :: r)[0]? ≠ some 32 := fun e => by
  have hm := List.mem_of_getElem? e
  cases hg : great l with
  | nil => rw [hg] at e; exact nomatch e
  | cons c t =>
    rw [hg] at e
    have : c = 32 := by simpa using e
    exact (great_sign h c (by rw [hg]; simp)).2.1 this
theorem head_place {l : List Nat} (h : isHN l = true) {us : List (List Nat)} (hu : ∀ u ∈ us, WordL u) (hl : (great l ++ 58 :: spw us).length ≤ 60) (b : Bool) : rowPlace b (great l ++ 58 :: spw us) = 0 := by
  unfold rowPlace
  rw [if_neg (fun k => head_no32 h _ k.2), nsig_great h]
  have e1 : (great l ++ 58 :: spw us).take (great l).length = great l := by rw [List.take_append_of_le_length (Nat.le_refl _), List.take_length]
  have e2 : (great l ++ 58 :: spw us)[(great l).length]? = some 58 := by simp
  rw [e1, e2, low_great fun x hx => (hn_small h x hx).1, if_neg (fun k => k.elim (fun k => by rw [h] at k; exact nomatch k) (fun k => k rfl))]
  refine wsp_ok _ _ (by omega) fun c hc => ?_
  rcases List.mem_append.mp hc with h1 | h1
  · exact (great_sign h c h1).1
  · rcases List.mem_cons.mp h1 with rfl | h1
    · decide
    · exact spw_sign hu c h1
theorem spw_head {us : List (List Nat)} (hne : us ≠ []) : (spw us)[0]? = some 32 := by
  cases us with
  | nil => exact absurd rfl hne
  | cons u r => simp [spw]
theorem cont_place {us : List (List Nat)} (hne : us ≠ []) (hu : ∀ u ∈ us, WordL u) (hl : (spw us).length ≤ 60) : rowPlace true (spw us) = 0 := by
  unfold rowPlace
  rw [if_pos ⟨rfl, spw_head hne⟩]
  exact wsp_ok _ _ (by omega) (spw_sign hu)
theorem words_strL (x : Str) (us : List (List Nat)) (hx : TL.tl x = spw us) (h : ∀ u ∈ us, WordL u) : Txt.words x = strL us := by
  refine TL.map_tl_inj ?_
  rw [words_spw x us hx h]
  unfold strL
  rw [List.map_map]
  exact (List.map_id us).symm
theorem strL_flat (a b : List (List Nat)) : strL a ++ strL b = strL (a ++ b) := (strL_app a b).symm
theorem fold_conts (z : Str) : ∀ (uss : List (List (List Nat))) (st : List (Str × List Str)) (us : List (List Nat)), (∀ u ∈ uss, u ≠ [] ∧ ∀ v ∈ u, WordL v) →
    (strL (uss.map spw)).foldl ustep (st ++ [(z, strL us)]) = st ++ [(z, strL (us ++ uss.flatten))]
  | [], st, us, _ => by simp [strL]
  | u :: r, st, us, h => by
    have hu := h u (by simp)
    have e : ustep (st ++ [(z, strL us)]) ⟨(spw u).toArray⟩ = st ++ [(z, strL (us ++ u))] := by
      unfold ustep
      rw [if_pos (show (TL.tl ⟨(spw u).toArray⟩)[0]? = some 32 from spw_head hu.1), List.dropLast_concat, List.getLastD_concat, words_strL ⟨(spw u).toArray⟩ u rfl hu.2, strL_flat]
    show (strL (r.map spw)).foldl ustep (ustep (st ++ [(z, strL us)]) ⟨(spw u).toArray⟩) = _
    rw [e, fold_conts z r st (us ++ u) fun x hx => h x (by simp [hx]), List.flatten_cons, List.append_assoc]
theorem head_step {z : Str} (h : isHN (TL.tl z) = true) {us : List (List Nat)} (hu : ∀ u ∈ us, WordL u) (st : List (Str × List Str)) : ustep st ⟨(great (TL.tl z) ++ 58 :: spw us).toArray⟩ = st ++ [(z, strL us)] := by
  unfold ustep
  rw [if_neg (show ¬ (TL.tl ⟨(great (TL.tl z) ++ 58 :: spw us).toArray⟩)[0]? = some 32 from head_no32 h _)]
  obtain ⟨e1, e2⟩ := part_at ⟨(great (TL.tl z) ++ 58 :: spw us).toArray⟩ colon 58 (great (TL.tl z)) (spw us) (by decide +kernel) rfl fun hm => (great_sign h 58 hm).2.2.1 rfl
  rw [words_strL _ us e2 hu]
  have e3 : Txt.lower (Txt.partition ⟨(great (TL.tl z) ++ 58 :: spw us).toArray⟩ colon).1 = z := by
    refine TL.ext_tl ?_
    rw [lower_eq _ (by rw [e1]; exact fun c hc => (great_sign h c hc).2.2.2), e1]
    exact low_great fun x hx => (hn_small h x hx).1
  rw [e3]
theorem strL_tl (ws : List Str) : strL (ws.map TL.tl) = ws := by
  refine TL.map_tl_inj ?_
  unfold strL
  rw [List.map_map]
  exact List.map_id _
/-- rows that stand as rows of headers -/
structure Good (R : List Str) : Prop where
  each : ∀ x ∈ R, rowPlace true (TL.tl x) = 0 ∧ x.length ≤ 60 ∧ OkS x
  first : ∀ x, R[0]? = some x → rowPlace false (TL.tl x) = 0
theorem hdr_good {z : Str} {ws : List Str} (h : isHN (TL.tl z) = true) (hw : WsOk ws) :
    Good (strL (hrows (TL.tl z) (ws.map TL.tl))) ∧ strL (hrows (TL.tl z) (ws.map TL.tl)) ≠ [] ∧ ∀ st, (strL (hrows (TL.tl z) (ws.map TL.tl))).foldl ustep st = st ++ [(z, ws)] := by
  have hlens := rows_lens h hw
  have hoks := rowsS_okH h hw
  obtain ⟨us0, uss, e, ew, hne⟩ := hrows_by (TL.tl z) (ws.map TL.tl)
  rw [e] at hlens hoks ⊢
  have hW : ∀ u ∈ us0 ++ uss.flatten, WordL u := fun u hu => by
    rw [ew] at hu
    obtain ⟨y, hy, rfl⟩ := List.mem_map.mp hu
    exact (hw y hy).1
  have hW0 : ∀ u ∈ us0, WordL u := fun u hu => hW u (by simp [hu])
  have hW1 : ∀ us ∈ uss, us ≠ [] ∧ ∀ v ∈ us, WordL v := fun us hus => ⟨hne us hus, fun v hv => hW v (List.mem_append_right _ (List.mem_flatten.mpr ⟨us, hus, hv⟩))⟩
  have e0 : strL (rowsBy (TL.tl z) us0 uss) = ⟨(great (TL.tl z) ++ 58 :: spw us0).toArray⟩ :: strL (uss.map spw) := rfl
  rw [e0] at hlens hoks ⊢
  have hh : (great (TL.tl z) ++ 58 :: spw us0).length ≤ 60 := by
    have := hlens _ (List.mem_cons_self ..)
    rwa [mk_len] at this
  refine ⟨⟨fun x hx => ⟨?_, hlens x hx, hoks x hx⟩, fun x hx => ?_⟩, List.cons_ne_nil _ _, fun st => ?_⟩
  · have hxl := hlens x hx
    rcases List.mem_cons.mp hx with rfl | hx
    · exact head_place h hW0 hh true
    · obtain ⟨r, hr, rfl⟩ := List.mem_map.mp hx
      obtain ⟨us, hus, rfl⟩ := List.mem_map.mp hr
      rw [mk_len] at hxl
      exact cont_place (hW1 us hus).1 (hW1 us hus).2 hxl
  · obtain rfl : ⟨(great (TL.tl z) ++ 58 :: spw us0).toArray⟩ = x := by simpa using hx
    exact head_place h hW0 hh false
  · rw [List.foldl_cons, head_step h hW0, fold_conts z uss st us0 hW1, ew, strL_tl]
theorem good_nil : Good [] := ⟨(fun _ h => by cases h), (fun _ h => nomatch h)⟩
theorem good_app {R S : List Str} (h : Good R) (g : Good S) : Good (R ++ S) := by
  refine ⟨fun x hx => (List.mem_append.mp hx).elim (h.each x) (g.each x), fun x hx => ?_⟩
  cases R with
  | nil => exact g.first x hx
  | cons y r => exact h.first x hx
theorem good_at {R : List Str} (h : Good R) : ∀ i, i < R.length → rowPlace (decide (0 < i)) (TL.tl (R.getD i Str.empty)) = 0 := fun i hi => by
  have e : R.getD i Str.empty = R[i] := by rw [List.getD_eq_getElem?_getD, List.getElem?_eq_getElem hi]; rfl
  rw [e]
  cases i with
  | zero => exact h.first _ (List.getElem?_eq_getElem hi)
  | succ i => exact (h.each _ (List.getElem_mem hi)).1
end
end K04

namespace K04
open PySem PySem.Spec PyProof.Rows L2 LH
section
variable {P : Program} {w : World} {K : PySem.W.Frag} {mg : Str → Option Value} {base : Heap} {tk : Nat → Tok} {ca : Nat → Addr}
/-! ### lists of pairs of texts compared -/
def pairD (e : Str × Str) : PyData := .tuple [.str e.1, .str e.2]
theorem dpAll_pairs {H : Hp} : ∀ (ps : List (Str × Str)) (ts : List Addr), ts.length = ps.length → (∀ i, i < ps.length → H (ts.getD i 0) = some (.tup [.str (ps.getD i (Str.empty, Str.empty)).1, .str (ps.getD i (Str.empty, Str.empty)).2])) → DpAll K H (ts.map V.ref) (ps.map pairD)
  | [], [], _, _ => .nil
  | [], _ :: _, h, _ => nomatch h
  | _ :: _, [], h, _ => nomatch h
  | e :: r, t :: ts, h, hu => by
    refine .cons (.tup (xs := [.str e.1, .str e.2]) (.inl (.inl (hu 0 (Nat.zero_lt_succ _)))) (.cons (.str _) (.cons (.str _) .nil))) (dpAll_pairs r ts (Nat.succ.inj h) fun i hi => ?_)
    exact hu (i + 1) (Nat.succ_lt_succ hi)
theorem dp_pairs {H : Hp} {a : Addr} {ps : List (Str × Str)} {ts : List Addr} (e : H a = some (.lst (ts.map V.ref))) (h : ts.length = ps.length) (hu : ∀ i, i < ps.length → H (ts.getD i 0) = some (.tup [.str (ps.getD i (Str.empty, Str.empty)).1, .str (ps.getD i (Str.empty, Str.empty)).2])) : Dp K H (.ref a) (.list (ps.map pairD)) :=
  .lst (.inl (.inl e)) (dpAll_pairs ps ts h hu)
theorem lay_pairs : ∀ ps : List (Str × Str), (∀ e ∈ ps, OkS e.1 ∧ OkS e.2) → PyData.canLayAll0 (ps.map pairD) = true
  | [], _ => by simp [PyData.canLayAll0]
  | e :: r, h => by simp [PyData.canLayAll0, PyData.canLay0, pairD, strOk_of e.1 (h e (by simp)).1, strOk_of e.2 (h e (by simp)).2, lay_pairs r fun x hx => h x (by simp [hx])]
theorem depth_pairs : ∀ ps : List (Str × Str), PyData.depthAll (ps.map pairD) ≤ 1
  | [] => by simp [PyData.depthAll]
  | e :: r => by
    have ih := depth_pairs r
    simp only [List.map_cons, PyData.depthAll, PyData.depth, pairD]
    omega
theorem shaped_pairs (ps : List (Str × Str)) (h : ∀ e ∈ ps, OkS e.1 ∧ OkS e.2) : SeqAt.shaped (.list (ps.map pairD)) = true := by
  have := depth_pairs ps
  unfold SeqAt.shaped
  rw [Bool.and_eq_true, decide_eq_true_eq]
  refine ⟨by rw [PyData.canLay0]; exact lay_pairs ps h, ?_⟩
  rw [PyData.depth]
  omega
theorem eqv_pairs : ∀ ps : List (Str × Str), PyData.eqvAll (ps.map pairD) (ps.map pairD) = true
  | [] => by simp [PyData.eqvAll]
  | e :: r => by simp [PyData.eqvAll, PyData.eqv, pairD, eqv_pairs r]
theorem eqv_pairsL (ps : List (Str × Str)) : PyData.eqv (.list (ps.map pairD)) (.list (ps.map pairD)) = true := by rw [PyData.eqv, eqv_pairs]
/-! ### _law_value -/
abbrev s__law_value : Stmt := topS 49
abbrev N__law_value : List Str := ["_law_number", "_law_name_here", "_law_words", "_law_left", "_law_k", "_law_more", "_law_size", "_law_word_here"]
abbrev P__law_value : List Str := ["_law_number", "_law_name_here"]
theorem sc__law_value : FnScope N__law_value ["_law_number", "_law_name_here"] (defScope s__law_value) := ⟨rfl, rfl, rfl, by decide +kernel, rfl, by decide +kernel, by decide +kernel⟩
def sp_lvalue : Sp := fun vs H Q _ => ∃ (n : Int) (z : Str), vs = [.int n, .str z] ∧ 0 ≤ n ∧ n < 2147483648 ∧ z.length ≤ 1000 ∧ ∀ ws : List Str, WsOk ws → ws.length ≤ 8 → Tell H (.str (Txt.join (Str.ofString " ") ws)) Q
theorem ok_lvalue {f fN fW : Addr} {fd fdN fdW : FuncData} (F : Fun K "_law_value" "_law_value" s__law_value f fd) (T : Tx mg tk) (D__law_next : Def P w K mg base "_law_next" 1 fN fdN P__law_next sp_next) (D__law_word : Def P w K mg base "_law_word" 2 fW fdW P__law_word sp_lword) : FnOk P w K mg base CX0 3 f fd P__law_value sp_lvalue := by
  refine F.ok sc__law_value (fun vs H Q E h => ?_) (fun cdv A outer s H vs Q E hr h => ?_)
  · obtain ⟨n, z, rfl, _⟩ := h
    rfl
  · have nd := sc__law_value.nd
    obtain ⟨n, z, rfl, h0, h1, hz, q⟩ := h
    refine ⟨_, (pss_cons (ps_set (i := 2) nd rfl (.inl rfl) (pe_lst pa_nil))
      (pss_cons (ps_set (i := 3) nd rfl (.inl rfl) (pe_op op_sub pe_int (pe_callB call_len_str (by rfl) T.n_len (by decide +kernel) (pa_cons (pv 1) pa_nil))))
      (pss_cons (ps_for PassesOwn.never rfl (pi_range1 (by rfl) T.n_range (pa_cons (pe_op op_mod (pv 0) pe_int) pa_nil)) (pg_name (i := 4) nd rfl (Or.inl rfl))
        (pss_cons (ps_set (i := 5) nd rfl (.inl rfl) (pe_def D__law_next (hr.mono (by decide)) (pa_cons (pv 0) (pa_cons (pv 4) pa_nil))))
        (pss_cons (ps_set (i := 6) nd rfl (.inl rfl) (pe_ix (ixL K) (pe_lst (pa_cons (pe_op op_add pe_int (pe_op op_mod (pe_op op_fdiv (pv 5) pe_int) pe_int)) (pa_cons (pe_op op_sub (pv 3) pe_int) (pa_cons (pv 3) (pa_cons (pe_op op_sub (pv 3) pe_int) (pa_cons (pe_op op_add pe_int (pe_op op_mod (pe_op op_fdiv (pv 5) pe_int) pe_int)) (pa_cons pe_int pa_nil))))))) (pe_op op_mod (pv 5) pe_int) (fun _ _ => rfl)))
        (pss_cons (ps_set (i := 7) nd rfl (.inl rfl) (pe_def D__law_word (hr.mono (by decide)) (pa_cons (pv 5) (pa_cons (pe_callB (call_max2 rfl) (by rfl) T.n_max (by decide +kernel) (pa_cons pe_int (pa_cons (pe_callB (call_min2 rfl) (by rfl) T.n_min (by decide +kernel) (pa_cons pe_int (pa_cons (pv 6) pa_nil))) pa_nil))) pa_nil))))
        (pss_cons (ps_set (i := 3) nd rfl (.inl rfl) (pe_op op_sub (pe_op op_sub (pv 3) pe_int) (pe_callB call_len_str (by rfl) T.n_len (by decide +kernel) (pa_cons (pv 7) pa_nil))))
        (pss_cons (ps_if (pt_cmpR op_lt (pv 3) pe_int (nomark _))
          (pss_one (ps_set (i := 3) nd rfl (.inl rfl) (pe_op op_sub pe_int (pe_callB call_len_str (by rfl) T.n_len (by decide +kernel) (pa_cons (pv 7) pa_nil)))))
          pss_nil)
        (pss_one (ps_expr (pe_bm PySem.F.plainAttrs_list PySem.F.slot_list_append PySem.F.type_list_append mt_append (pv 2) (pa_cons (pv 7) pa_nil))))))))))
      (pss_one (ps_ret (pe_join pe_str (pv 2))))))), ?_⟩
    have hm : 0 ≤ n % 9 ∧ n % 9 < 9 := ⟨Int.emod_nonneg _ (by decide), Int.emod_lt_of_pos _ (by decide)⟩
    refine ⟨Nat.zero_le _, fun o no => ?_⟩
    refine ⟨.str z, rfl, z, rfl, by rw [sizeLine_eq]; omega, 59, _, rfl, rfl, ?_⟩
    refine ⟨.int n, rfl, n, 9, rfl, rfl, (show (0 : Int) < 9 by decide), n % 9, rfl, by omega, by omega, for_it walk_range (fun i σ H' => ∃ (left : Int) (y4 y5 y6 y7 : Option V) (ws : List Str), σ = [some (.int n), some (.str z), some (.ref o), some (.int left), y4, y5, y6, y7] ∧ Same H H' ∧ H' o = some (.lst (ws.map V.str)) ∧ ws.length = i ∧ WsOk ws)
      ⟨_, none, none, none, none, [], rfl, same_upd no, upd_same, rfl, fun _ h => by cases h⟩ (fun _ _ _ _ _ => trivial) (fun i x σ H' H'' hi hP hy => ?_) (fun σ H' hP => ?_)⟩
    · obtain ⟨left, y4, y5, y6, y7, ws, rfl, sm, eo, hl, hw⟩ := hP
      obtain ⟨rfl, rfl⟩ := hy
      have hi9 : i < 9 := by omega
      refine ⟨.int n, rfl, _, rfl, n, 0 + (i : Int), rfl, h0, h1, by omega, by omega, fun H2 s2 => ?_⟩
      have hM := nextN_lt n (0 + (i : Int))
      generalize nextN n (0 + (i : Int)) = M at hM
      refine ⟨.int M, rfl, M, 6, rfl, rfl, ⟨by decide, by decide⟩, _, 9, rfl, rfl, (show (0 : Int) < 9 by decide), 1, _, rfl, rfl, .int left, rfl, _, 1, rfl, rfl, .int left, rfl, .int left, rfl, _, 2, rfl, rfl, .int M, rfl, M, 6, rfl, rfl, ⟨by decide, by decide⟩, _, 59, rfl, rfl, (show (0 : Int) < 59 by decide), 1, _, rfl, rfl, Nat.le_of_lt (small1000 (show 6 ≤ 1000 by decide)), fun p np => ?_⟩
      have sp := same_upd (o := .lst [V.int (1 + M / 6 % 9), .int (left - 1), .int left, .int (left - 2), .int (1 + M / 6 % 59), .int 59]) np
      have hm6 : 0 ≤ M % 6 ∧ M % 6 < 6 := ⟨Int.emod_nonneg _ (by decide), Int.emod_lt_of_pos _ (by decide)⟩
      obtain ⟨x, hx, ex⟩ := pickL [V.int (1 + M / 6 % 9), .int (left - 1), .int left, .int (left - 2), .int (1 + M / 6 % 59), .int 59] (M % 6) hm6.1 hm6.2
      obtain ⟨y, rfl⟩ : ∃ y : Int, x = .int y := by
        simp only [List.mem_cons, List.mem_nil_iff, or_false] at hx
        rcases hx with rfl | rfl | rfl | rfl | rfl | rfl <;> exact ⟨_, rfl⟩
      refine ⟨.int M, rfl, M, 6, rfl, rfl, (show (0 : Int) < 6 by decide), p, _, _, .int y, rfl, rfl, .inl (.inl upd_same), ex, ?_⟩
      have eo3 := sp _ _ (s2 _ _ eo)
      refine ⟨.int M, rfl, .int y, rfl, 59, y, rfl, 1, _, rfl, ?_⟩
      obtain ⟨m, hm⟩ : ∃ m : Nat, (if (if y < 59 then y else 59) > 1 then (if y < 59 then y else 59) else (1 : Int)) = (m : Int) := ⟨(if (if y < 59 then y else 59) > 1 then (if y < 59 then y else 59) else (1 : Int)).toNat, by split <;> split <;> omega⟩
      have hmr : 1 ≤ m ∧ m ≤ 59 := by
        revert hm
        split <;> split <;> intro hm <;> omega
      refine ⟨M, m, by rw [hm]; rfl, hM.1, by omega, hmr.1, by omega, fun t ht htl H4 s4 => ?_⟩
      have eo4 := s4 _ _ eo3
      have hts : t.length ≤ sizeLine := by rw [sizeLine_eq]; omega
      refine ⟨.int left, rfl, _, 1, rfl, rfl, .str t, rfl, t, rfl, hts, _, _, rfl, rfl, ?_⟩
      refine ⟨.int (left - 1 - ((t.length : Nat) : Int)), rfl, _, 0, rfl, rfl, _, rfl, ?_⟩
      have fin : ∀ b x, H b = some x → (upd H4 o (.lst (ws.map V.str ++ [.str t]))) b = some x := fun b x e => by
        rw [upd_ne (ne_of_none e no)]
        exact s4 _ _ (sp _ _ (s2 _ _ (sm _ _ e)))
      have fin2 : (upd H4 o (.lst (ws.map V.str ++ [.str t]))) o = some (.lst ((ws ++ [t]).map V.str)) := by
        rw [upd_same, List.map_append]; rfl
      have fin3 : WsOk (ws ++ [t]) := fun x hx => by
        rcases List.mem_append.mp hx with h | h
        · exact hw x h
        · rw [List.mem_singleton.mp h]
          exact ⟨ht, by omega⟩
      have fin4 : (ws ++ [t]).length = i + 1 := by rw [List.length_append, List.length_singleton, hl]
      have hsz : (ws.map V.str).length < sizeLine := by rw [List.length_map, sizeLine_eq]; omega
      refine ite2 (fun _ => ?_) (fun _ => ?_)
      · refine ⟨.str t, rfl, t, rfl, hts, 59, _, rfl, rfl, ?_⟩
        exact ⟨.ref o, rfl, .inl ⟨rfl, _, .inl (.inl eo4)⟩, .str t, rfl, o, _, _, rfl, rfl, eo4, hsz, _, _, _, _, _, ws ++ [t], rfl, fin, fin2, fin4, fin3⟩
      · exact ⟨.ref o, rfl, .inl ⟨rfl, _, .inl (.inl eo4)⟩, .str t, rfl, o, _, _, rfl, rfl, eo4, hsz, _, _, _, _, _, ws ++ [t], rfl, fin, fin2, fin4, fin3⟩
    · obtain ⟨left, y4, y5, y6, y7, ws, rfl, sm, eo, hl, hw⟩ := hP
      have hvl := val_len hw (by omega)
      exact ⟨⟨_, rfl⟩, .ref o, rfl, Str.ofString " ", o, ws, rfl, rfl, .inl (.inl (.inl eo)), by omega, q ws hw (by omega) H' sm⟩
end
end K04

namespace K04
open PySem PySem.Spec PyProof.Rows L2 LH
section
variable {P : Program} {w : World} {K : PySem.W.Frag} {mg : Str → Option Value} {base : Heap} {tk : Nat → Tok} {ca : Nat → Addr}
/-! ### what is due for wrong things -/
def Due (H : Hp) (z : Str) (e : V × V × Str) : Prop :=
  (BadBy isHN H e.1 ∧ e.2.2 = Str.ofString "name") ∨ (e.1 = .str z ∧ BadBy isVal H e.2.1 ∧ e.2.2 = Str.ofString "value") ∨
  (e.1 = .str z ∧ e.2.2 = Str.ofString "long" ∧ ∃ ws : List Str, e.2.1 = .str (Txt.join (Str.ofString " ") ws) ∧ (∀ u ∈ ws, WordL (TL.tl u) ∧ u.length ≤ 600) ∧ ws.length ≤ 100 ∧ ∃ u ∈ ws, 60 ≤ u.length)
theorem Due.same {H H' : Hp} {z : Str} {e : V × V × Str} (s : Same H H') (h : Due H z e) : Due H' z e := h.imp (fun h => ⟨h.1.same s, h.2⟩) fun h => h.imp (fun h => ⟨h.1, h.2.1.same s, h.2.2⟩) fun h => h
theorem okS_of (x : Str) (h : (TL.tl x).all (fun c => decide (c < 1114112)) = true) : OkS x := fun c hc => of_decide_eq_true (List.all_eq_true.mp h c hc)
def oddsV (pA : Addr) : List V := [.str (Str.ofString ""), .str (Str.ofString "A"), .str (Str.ofString "a-"), .str (Str.ofString "-a"), .str (Str.ofString "a--b"), .str (Str.ofString "a-b-c-d"), .str (Str.ofString "abcdefghi"), .str (Str.ofString "a b"), .str (Str.ofString "a1"), .str (Str.ofString "a_b"), .non, .int 5, .ref pA, .bl true, .str (Str.ofString "a-abcdefghi")]
theorem odds_bad {H : Hp} {pA : Addr} {l : List V} (h : H pA = some (.lst l)) : ∀ x ∈ oddsV pA, BadBy isHN H x := by
  have st : ∀ s : Str, s.length ≤ 100000 ∧ isHN (TL.tl s) = false → BadBy isHN H (.str s) := fun s h => .inl ⟨s, rfl, h⟩
  intro x hx
  unfold oddsV at hx
  simp only [List.mem_cons, List.mem_nil_iff, or_false] at hx
  rcases hx with rfl | rfl | rfl | rfl | rfl | rfl | rfl | rfl | rfl | rfl | rfl | rfl | rfl | rfl | rfl
  · exact st _ (by decide +kernel)
  · exact st _ (by decide +kernel)
  · exact st _ (by decide +kernel)
  · exact st _ (by decide +kernel)
  · exact st _ (by decide +kernel)
  · exact st _ (by decide +kernel)
  · exact st _ (by decide +kernel)
  · exact st _ (by decide +kernel)
  · exact st _ (by decide +kernel)
  · exact st _ (by decide +kernel)
  · exact .inr (.inl rfl)
  · exact .inr (.inr (.inl ⟨5, rfl⟩))
  · exact .inr (.inr (.inr (.inr ⟨pA, rfl, .inl ⟨l, h⟩⟩)))
  · exact .inr (.inr (.inr (.inl ⟨true, rfl⟩)))
  · exact st _ (by decide +kernel)
def badsV (pA pB pC : Addr) : List V := [.str (Str.ofString " a"), .str (Str.ofString "a "), .str (Str.ofString "a  b"), .str (Str.ofString "a\tb"), .str (Str.ofString "a\nb"), .non, .int 5, .ref pA, .ref pB, .bl true, .ref pC, .str (Str.ofString " ")]
theorem bads_bad {H : Hp} {pA pB pC : Addr} {l m : List V} {kv} (h : H pA = some (.lst l)) (hB : H pB = some (.tup m)) (hC : H pC = some (.dK kv)) : ∀ x ∈ badsV pA pB pC, BadBy isVal H x := by
  have st : ∀ s : Str, s.length ≤ 100000 ∧ isVal (TL.tl s) = false → BadBy isVal H (.str s) := fun s h => .inl ⟨s, rfl, h⟩
  intro x hx
  unfold badsV at hx
  simp only [List.mem_cons, List.mem_nil_iff, or_false] at hx
  rcases hx with rfl | rfl | rfl | rfl | rfl | rfl | rfl | rfl | rfl | rfl | rfl | rfl
  · exact st _ (by decide +kernel)
  · exact st _ (by decide +kernel)
  · exact st _ (by decide +kernel)
  · exact st _ (by decide +kernel)
  · exact st _ (by decide +kernel)
  · exact .inr (.inl rfl)
  · exact .inr (.inr (.inl ⟨5, rfl⟩))
  · exact .inr (.inr (.inr (.inr ⟨pA, rfl, .inl ⟨l, h⟩⟩)))
  · exact .inr (.inr (.inr (.inr ⟨pB, rfl, .inr (.inl ⟨m, hB⟩)⟩)))
  · exact .inr (.inr (.inr (.inl ⟨true, rfl⟩)))
  · exact .inr (.inr (.inr (.inr ⟨pC, rfl, .inr (.inr ⟨kv, hC⟩)⟩)))
  · exact st _ (by decide +kernel)
theorem blanks_end (t : Str) : isVal (TL.tl (t ++ Str.ofString "  ")) = false := by
  unfold isVal
  rw [TL.tl_append, show TL.tl (Str.ofString "  ") = [32, 32] by decide +kernel]
  have : ([] : List Nat) ∈ splitL 32 (TL.tl t ++ [32, 32]) := by
    rw [split_gap]
    refine .inr (.inr ⟨(TL.tl t).length, ?_, .inr ?_⟩)
    · simp
    · simp
  rw [decide_eq_true this]
  rw [decide_eq_false (by simp), Bool.false_or]
  exact Bool.and_false _
theorem join_one (t : Str) : Txt.join (Str.ofString " ") [t] = t := TL.ext_tl (by rw [TL.join_eq, TL.tl_join]; rfl)
theorem word_a : WordL (TL.tl (Str.ofString "a")) := by
  rw [show TL.tl (Str.ofString "a") = [97] by decide +kernel]
  exact ⟨by decide, by decide⟩
theorem word_b : WordL (TL.tl (Str.ofString "b")) := by
  rw [show TL.tl (Str.ofString "b") = [98] by decide +kernel]
  exact ⟨by decide, by decide⟩
theorem join_ab : Txt.join (Str.ofString " ") [Str.ofString "a", Str.ofString "b"] = Str.ofString "a b" := TL.ext_tl (by rw [TL.join_eq, TL.tl_join]; decide +kernel)
theorem join_atb (t : Str) : Txt.join (Str.ofString " ") [Str.ofString "a", t, Str.ofString "b"] = Str.ofString "a " ++ t ++ Str.ofString " b" := TL.ext_tl (by
  rw [TL.join_eq, TL.tl_join, TL.tl_append, TL.tl_append, tl_blank, show TL.tl (Str.ofString "a ") = [97, 32] by decide +kernel, show TL.tl (Str.ofString " b") = [32, 98] by decide +kernel]
  show TL.joinL [32] [TL.tl (Str.ofString "a"), TL.tl t, TL.tl (Str.ofString "b")] = _
  rw [show TL.tl (Str.ofString "a") = [97] by decide +kernel, show TL.tl (Str.ofString "b") = [98] by decide +kernel, TL.joinL, TL.joinL, TL.joinL]
  simp)
theorem wsOk_ab : WsOk [Str.ofString "a", Str.ofString "b"] := fun x hx => by
  rcases List.mem_cons.mp hx with rfl | hx
  · exact ⟨word_a, by decide +kernel⟩
  · rw [List.mem_singleton.mp hx]; exact ⟨word_b, by decide +kernel⟩
/-! ### _law_refusals -/
abbrev s__law_refusals : Stmt := topS 52
abbrev N__law_refusals : List Str := ["_law_script", "_law_number", "_law_name_here", "_law_odd", "_law_bad", "_law_long", "_law_due", "_law_one", "_law_other", "_law_word_here"]
abbrev P__law_refusals : List Str := ["_law_script"]
theorem sc__law_refusals : FnScope N__law_refusals ["_law_script"] (defScope s__law_refusals) := ⟨rfl, rfl, rfl, by decide +kernel, rfl, by decide +kernel, by decide +kernel⟩
def sp_refusals (K : PySem.W.Frag) : Sp := fun vs H Q _ => ∃ (a : Addr) (ns : List Int), vs = [.ref a] ∧ SqL K H a (ns.map V.int) ∧ Tell H (.bl true) Q
theorem ok_refusals {f fM fC fN fW fT fF : Addr} {fd fdM fdC fdN fdW fdT fdF : FuncData} (F : Fun K "_law_refusals" "_law_refusals" s__law_refusals f fd) (T : Tx mg tk)
    (D__law_mixed : Def P w K mg base "_law_mixed" 1 fM fdM P__law_mixed sp_mixed) (D__law_cell : Def P w K mg base "_law_cell" 1 fC fdC P__law_cell (sp_cell K)) (D__law_name : Def P w K mg base "_law_name" 2 fN fdN P__law_name sp_lname)
    (D__law_word : Def P w K mg base "_law_word" 2 fW fdW P__law_word sp_lword) (D__law_told : Def P w K mg base "_law_told" 4 fT fdT P__law_told (sp_told ca)) (D_folded : Def P w K mg base "folded" 3 fF fdF P_folded sp_folded) : FnOk P w K mg base CX0 5 f fd P__law_refusals (sp_refusals K) := by
  refine F.ok sc__law_refusals (fun vs H Q E h => ?_) (fun cdv A outer s H vs Q E hr h => ?_)
  · obtain ⟨a, ns, rfl, _⟩ := h
    rfl
  · have nd := sc__law_refusals.nd
    obtain ⟨a, ns, rfl, hS, q⟩ := h
    refine ⟨_, (pss_cons (ps_set (i := 1) nd rfl (.inl rfl) (pe_def D__law_mixed (hr.mono (by decide)) (pa_cons (pe_def D__law_cell (hr.mono (by decide)) (pa_cons (pv 0) (pa_cons pe_int pa_nil))) (pa_cons pe_int pa_nil))))
      (pss_cons (ps_set (i := 2) nd rfl (.inl rfl) (pe_def D__law_name (hr.mono (by decide)) (pa_cons (pv 1) pa_nil)))
      (pss_cons (ps_set (i := 3) nd rfl (.inl rfl) (pe_lst (pa_cons pe_str (pa_cons pe_str (pa_cons pe_str (pa_cons pe_str (pa_cons pe_str (pa_cons pe_str (pa_cons pe_str (pa_cons pe_str (pa_cons pe_str (pa_cons pe_str (pa_cons pe_non (pa_cons pe_int (pa_cons (pe_lst (pa_cons pe_str pa_nil)) (pa_cons pe_bl (pa_cons pe_str pa_nil)))))))))))))))))
      (pss_cons (ps_set (i := 3) nd rfl (.inl rfl) (pe_ix (ixL K) (pv 3) (pe_op op_mod (pv 1) pe_int) (fun _ _ => rfl)))
      (pss_cons (ps_set (i := 4) nd rfl (.inl rfl) (pe_ix (ixL K) (pe_lst (pa_cons pe_str (pa_cons pe_str (pa_cons pe_str (pa_cons pe_str (pa_cons pe_str (pa_cons pe_non (pa_cons pe_int (pa_cons (pe_lst (pa_cons pe_str pa_nil)) (pa_cons (pe_tup (pa_cons pe_str pa_nil)) (pa_cons pe_bl (pa_cons pe_dnewK (pa_cons pe_str pa_nil))))))))))))) (pe_op op_mod (pe_op op_fdiv (pv 1) pe_int) pe_int) (fun _ _ => rfl)))
      (pss_cons (ps_set (i := 5) nd rfl (.inl rfl) (pe_def D__law_word (hr.mono (by decide)) (pa_cons (pv 1) (pa_cons (pe_op op_add pe_int (pe_op op_mod (pe_op op_fdiv (pv 1) pe_int) pe_int)) pa_nil))))
      (pss_cons (ps_set (i := 6) nd rfl (.inl rfl) (pe_lst (pa_cons (pe_tup (pa_cons (pv 3) (pa_cons pe_str (pa_cons pe_str pa_nil)))) (pa_cons (pe_tup (pa_cons (pv 2) (pa_cons (pv 4) (pa_cons pe_str pa_nil)))) (pa_cons (pe_tup (pa_cons (pv 2) (pa_cons (pv 5) (pa_cons pe_str pa_nil)))) (pa_cons (pe_tup (pa_cons (pv 2) (pa_cons (pe_op op_add_str (pe_op op_add_str pe_str (pv 5)) pe_str) (pa_cons pe_str pa_nil)))) pa_nil))))))
      (pss_cons (ps_set (i := 6) nd rfl (.inl rfl) (pe_op op_cat (pv 6) (pe_lst (pa_cons (pe_tup (pa_cons (pv 3) (pa_cons (pv 4) (pa_cons pe_str pa_nil)))) (pa_cons (pe_tup (pa_cons (pv 3) (pa_cons (pv 5) (pa_cons pe_str pa_nil)))) (pa_cons (pe_tup (pa_cons (pv 2) (pa_cons (pe_op op_add_str (pv 5) pe_str) (pa_cons pe_str pa_nil)))) pa_nil))))))
      (pss_cons (ps_for PassesOwn.never rfl (pi_list (pv 6)) (pg_tup rfl (pgs_cons (pg_name (i := 7) nd rfl (Or.inl rfl)) (pgs_cons (pg_name (i := 8) nd rfl (Or.inl rfl)) (pgs_cons (pg_name (i := 9) nd rfl (Or.inl rfl)) pgs_nil))))
        (pss_one (ps_if (pt_cmpR (oNeD K hr.units) (pe_def D__law_told (hr.mono (by decide)) (pa_cons (pv 7) (pa_cons (pv 8) pa_nil))) (pe_lst (pa_cons (pv 9) (pa_cons pe_str pa_nil))) (nomark _))
          (pss_one (ps_ret pe_bl))
          pss_nil)))
      (pss_one (ps_ret (pe_and (pe_cmpR (oEqD K hr.units) (pe_def D__law_told (hr.mono (by decide)) (pa_cons (pv 2) (pa_cons pe_str pa_nil))) (pe_def D_folded (hr.mono (by decide)) (pa_cons (pv 2) (pa_cons pe_str pa_nil))) (nomark _)) (pe_one (pe_cmpR (oIn K) (pe_callB (cLen K) (by rfl) T.n_len (by decide +kernel) (pa_cons (pe_def D_folded (hr.mono (by decide)) (pa_cons (pv 2) (pa_cons (pe_slice sl_str (pv 5) po_none (po_some pe_int)) pa_nil))) pa_nil)) (pe_tup (pa_cons pe_int (pa_cons pe_int pa_nil))) (by rfl))))))))))))))), ?_⟩
    refine ⟨.ref a, rfl, a, ns, 0, rfl, hS, fun H1 s1 => ⟨_, 80, rfl, by decide, by decide, fun H2 s2 => ?_⟩⟩
    have hM := mixed_lt (ns.getD 0 0) 80
    refine ⟨_, rfl, _, rfl, hM.1, by omega, fun z hn hz H3 s3 => ?_⟩
    generalize mixed (ns.getD 0 0) 80 = M at hM ⊢
    have n1 : 1 ≤ sizeLine := Nat.le_of_lt (small1000 (show 1 ≤ 1000 by decide))
    have n3 : 3 ≤ sizeLine := Nat.le_of_lt (small1000 (show 3 ≤ 1000 by decide))
    refine ⟨n1, fun pA nA => ⟨Nat.le_of_lt (small1000 (show 15 ≤ 1000 by decide)), fun p np => ?_⟩⟩
    have sA := same_upd (o := .lst [V.str (Str.ofString "a")]) nA
    have so := same_upd (o := .lst (oddsV pA)) np
    have eA : upd (upd H3 pA (.lst [V.str (Str.ofString "a")])) p (.lst (oddsV pA)) pA = some (.lst [V.str (Str.ofString "a")]) := so _ _ upd_same
    have eP : upd (upd H3 pA (.lst [V.str (Str.ofString "a")])) p (.lst (oddsV pA)) p = some (.lst (oddsV pA)) := upd_same
    have S4 : Same H (upd (upd H3 pA (.lst [V.str (Str.ofString "a")])) p (.lst (oddsV pA))) := s1.trans (s2.trans (s3.trans (sA.trans so)))
    show gName 3 (.ref p) _ (upd (upd H3 pA (.lst [V.str (Str.ofString "a")])) p (.lst (oddsV pA))) _
    generalize upd (upd H3 pA (.lst [V.str (Str.ofString "a")])) p (.lst (oddsV pA)) = H4 at eA eP S4 ⊢
    have hm15 : 0 ≤ M % 15 ∧ M % 15 < 15 := ⟨Int.emod_nonneg _ (by decide), Int.emod_lt_of_pos _ (by decide)⟩
    obtain ⟨x, hx, ex⟩ := pickL (oddsV pA) (M % 15) hm15.1 hm15.2
    have bx : BadBy isHN H4 x := odds_bad eA x hx
    refine ⟨.ref p, rfl, .int M, rfl, M, 15, rfl, rfl, (show (0 : Int) < 15 by decide), p, _, _, x, rfl, rfl, .inl (.inl eP), ex, ?_⟩
    -- the value that is none
    refine ⟨n1, fun qA mA => ⟨n1, fun qB mB => fun qC mC => ⟨Nat.le_of_lt (small1000 (show 12 ≤ 1000 by decide)), fun qp mp => ?_⟩⟩⟩
    have tA := same_upd (o := .lst [V.str (Str.ofString "a")]) mA
    have tB' := same_upd (o := .tup [V.str (Str.ofString "a")]) mB
    have tC' := same_upd (o := .dK []) mC
    have tp := same_upd (o := .lst (badsV qA qB qC)) mp
    have fA := tp _ _ (tC' _ _ (tB' _ _ (upd_same (H := H4) (a := qA) (o := .lst [V.str (Str.ofString "a")]))))
    have fB := tp _ _ (tC' _ _ (upd_same (a := qB) (o := .tup [V.str (Str.ofString "a")])))
    have fC := tp _ _ (upd_same (a := qC) (o := .dK []))
    have S5 := tA.trans (tB'.trans (tC'.trans tp))
    have hm12 : 0 ≤ M / 15 % 12 ∧ M / 15 % 12 < 12 := ⟨Int.emod_nonneg _ (by decide), Int.emod_lt_of_pos _ (by decide)⟩
    obtain ⟨y, hy, ey⟩ := pickL (badsV qA qB qC) (M / 15 % 12) hm12.1 hm12.2
    refine ⟨.int M, rfl, M, 15, rfl, rfl, ⟨by decide, by decide⟩, _, 12, rfl, rfl, (show (0 : Int) < 12 by decide), qp, _, _, y, rfl, rfl, .inl (.inl upd_same), ey, ?_⟩
    show gName 4 y _ (upd _ qp (.lst (badsV qA qB qC))) _
    generalize upd (upd (upd (upd H4 qA (.lst [V.str (Str.ofString "a")])) qB (.tup [V.str (Str.ofString "a")])) qC (.dK [])) qp (.lst (badsV qA qB qC)) = H5 at fA fB fC S5 ⊢
    have bY : BadBy isVal H5 y := bads_bad fA fB fC y hy
    have bX := bx.same S5
    have hm40 : 0 ≤ M / 200 % 40 ∧ M / 200 % 40 < 40 := ⟨Int.emod_nonneg _ (by decide), Int.emod_lt_of_pos _ (by decide)⟩
    refine ⟨.int M, rfl, .int M, rfl, M, 200, rfl, rfl, ⟨by decide, by decide⟩, _, 40, rfl, rfl, (show (0 : Int) < 40 by decide), 60, _, rfl, rfl, M, (60 + M / 200 % 40).toNat, by rw [Int.toNat_of_nonneg (by omega)]; rfl, hM.1, by omega, by omega, by omega, fun t ht htl H6 s6 => ?_⟩
    have htl2 : 60 ≤ t.length ∧ t.length ≤ 99 := by omega
    have hts : t.length ≤ sizeLine := by rw [sizeLine_eq]; omega
    have la : (Str.ofString "a ").length = 2 := by decide +kernel
    have lb : (Str.ofString " b").length = 2 := by decide +kernel
    have lc : (Str.ofString "  ").length = 2 := by decide +kernel
    refine ⟨x, rfl, n3, fun t0 m0 => ⟨.str z, rfl, y, rfl, n3, fun t1 m1 => ⟨.str z, rfl, .str t, rfl, n3, fun t2 m2 => ⟨.str z, rfl, .str t, rfl, _, _, rfl, rfl, by rw [la, sizeLine_eq]; omega, _, _, rfl, rfl, by rw [len_app, la, lb, sizeLine_eq]; omega, n3, fun t3 m3 => ⟨Nat.le_of_lt (small1000 (show 4 ≤ 1000 by decide)), fun l1 k1 => ?_⟩⟩⟩⟩⟩
    have v0 := same_upd (o := .tup [x, V.str (Str.ofString "a b"), V.str (Str.ofString "name")]) m0
    have v1 := same_upd (o := .tup [V.str z, y, V.str (Str.ofString "value")]) m1
    have v2 := same_upd (o := .tup [V.str z, V.str t, V.str (Str.ofString "long")]) m2
    have v3 := same_upd (o := .tup [V.str z, V.str (Str.ofString "a " ++ t ++ Str.ofString " b"), V.str (Str.ofString "long")]) m3
    have vl := same_upd (o := .lst [V.ref t0, V.ref t1, V.ref t2, V.ref t3]) k1
    have b0 := vl _ _ (v3 _ _ (v2 _ _ (v1 _ _ (upd_same (H := H6) (a := t0) (o := .tup [x, V.str (Str.ofString "a b"), V.str (Str.ofString "name")])))))
    have b1 := vl t1 _ (v3 _ _ (v2 _ _ upd_same))
    have b2 := vl t2 _ (v3 _ _ upd_same)
    have b3 := vl t3 _ upd_same
    have S7 := s6.trans (v0.trans (v1.trans (v2.trans (v3.trans vl))))
    show gName 6 (.ref l1) _ (upd _ l1 (.lst [V.ref t0, V.ref t1, V.ref t2, V.ref t3])) _
    have bl : (upd _ l1 (.lst [V.ref t0, V.ref t1, V.ref t2, V.ref t3])) l1 = _ := upd_same (H := upd (upd (upd (upd H6 t0 (.tup [x, V.str (Str.ofString "a b"), V.str (Str.ofString "name")])) t1 (.tup [V.str z, y, V.str (Str.ofString "value")])) t2 (.tup [V.str z, V.str t, V.str (Str.ofString "long")])) t3 (.tup [V.str z, V.str (Str.ofString "a " ++ t ++ Str.ofString " b"), V.str (Str.ofString "long")]))
    generalize upd (upd (upd (upd (upd H6 t0 (.tup [x, V.str (Str.ofString "a b"), V.str (Str.ofString "name")])) t1 (.tup [V.str z, y, V.str (Str.ofString "value")])) t2 (.tup [V.str z, V.str t, V.str (Str.ofString "long")])) t3 (.tup [V.str z, V.str (Str.ofString "a " ++ t ++ Str.ofString " b"), V.str (Str.ofString "long")])) l1 (.lst [V.ref t0, V.ref t1, V.ref t2, V.ref t3]) = H7 at b0 b1 b2 b3 bl S7 ⊢
    clear v0 v1 v2 v3 vl m1 m2 m3 k1
    refine ⟨.ref l1, rfl, x, rfl, y, rfl, n3, fun t4 m4 => ⟨x, rfl, .str t, rfl, n3, fun t5 m5 => ⟨.str z, rfl, .str t, rfl, _, _, rfl, rfl, by rw [lc, sizeLine_eq]; omega, n3, fun t6 m6 => ⟨n3, fun l2 k2 => ?_⟩⟩⟩⟩
    have v4 := same_upd (o := .tup [x, y, V.str (Str.ofString "name")]) m4
    have v5 := same_upd (o := .tup [x, V.str t, V.str (Str.ofString "name")]) m5
    have v6 := same_upd (o := .tup [V.str z, V.str (t ++ Str.ofString "  "), V.str (Str.ofString "value")]) m6
    have vm := same_upd (o := .lst [V.ref t4, V.ref t5, V.ref t6]) k2
    have sV := v4.trans (v5.trans (v6.trans vm))
    refine ⟨l1, l2, _, _, rfl, rfl, sV _ _ bl, upd_same, by rw [sizeLine_eq]; show 7 ≤ 16777216; decide, fun l3 k3 => ?_⟩
    have vn := same_upd (o := .lst ([V.ref t0, V.ref t1, V.ref t2, V.ref t3] ++ [V.ref t4, V.ref t5, V.ref t6])) k3
    have b4 := vn t4 _ (vm _ _ (v6 _ _ (v5 _ _ upd_same)))
    have b5 := vn t5 _ (vm _ _ (v6 _ _ upd_same))
    have b6 := vn t6 _ (vm _ _ upd_same)
    have sW := sV.trans vn
    have b0 := sW _ _ b0
    have b1 := sW _ _ b1
    have b2 := sW _ _ b2
    have b3 := sW _ _ b3
    have S8 := S7.trans sW
    generalize hH8 : upd _ l3 _ = H8 at b0 b1 b2 b3 b4 b5 b6 S8 ⊢
    have b7 : H8 l3 = some (.lst ([t0, t1, t2, t3, t4, t5, t6].map V.ref)) := by rw [← hH8, upd_same]; rfl
    clear hH8 v4 v5 v6 vm sV vn sW m4 m5 m6 k2 k3
    have bX := bX.same S8
    have bY := bY.same S8
    have hD : ∀ j, j < 7 → ∃ (dx dy : V) (dw : Str), H8 ([t0, t1, t2, t3, t4, t5, t6].getD j 0) = some (.tup [dx, dy, .str dw]) ∧ Due H8 z (dx, dy, dw) := fun j hj => by
      have h7 : j = 0 ∨ j = 1 ∨ j = 2 ∨ j = 3 ∨ j = 4 ∨ j = 5 ∨ j = 6 := by omega
      rcases h7 with rfl | rfl | rfl | rfl | rfl | rfl | rfl
      · exact ⟨_, _, _, b0, .inl ⟨bX, rfl⟩⟩
      · exact ⟨_, _, _, b1, .inr (.inl ⟨rfl, bY, rfl⟩)⟩
      · exact ⟨_, _, _, b2, .inr (.inr ⟨rfl, rfl, [t], congrArg V.str (join_one t).symm, fun u hu => by rw [List.mem_singleton.mp hu]; exact ⟨ht, by omega⟩, (show 1 ≤ 100 by decide), t, by simp, htl2.1⟩)⟩
      · refine ⟨_, _, _, b3, .inr (.inr ⟨rfl, rfl, [Str.ofString "a", t, Str.ofString "b"], congrArg V.str (join_atb t).symm, fun u hu => ?_, (show 3 ≤ 100 by decide), t, by simp, htl2.1⟩)⟩
        rcases List.mem_cons.mp hu with rfl | hu
        · exact ⟨word_a, by decide +kernel⟩
        · rcases List.mem_cons.mp hu with rfl | hu
          · exact ⟨ht, by omega⟩
          · rw [List.mem_singleton.mp hu]; exact ⟨word_b, by decide +kernel⟩
      · exact ⟨_, _, _, b4, .inl ⟨bX, rfl⟩⟩
      · exact ⟨_, _, _, b5, .inl ⟨bX, rfl⟩⟩
      · exact ⟨_, _, _, b6, .inr (.inl ⟨rfl, .inl ⟨_, rfl, by rw [len_app, lc]; omega, blanks_end t⟩, rfl⟩)⟩
    have okb : OkS (Str.ofString "base") := okS_of _ (by decide +kernel)
    have okw : ∀ u : Str, OkS u → ∀ x ∈ [u, Str.ofString "base"], OkS x := fun u hu x hx => by
      rcases List.mem_cons.mp hx with rfl | hx
      · exact hu
      · rw [List.mem_singleton.mp hx]; exact okb
    have n2 : 2 ≤ sizeLine := Nat.le_of_lt (small1000 (show 2 ≤ 1000 by decide))
    refine ⟨.ref l3, rfl, l3, rfl, ⟨_, .inl (.inl b7)⟩, for_it walk_list (fun i σ H' => ∃ y7 y8 y9, σ = [some (.ref a), some (.int M), some (.str z), some x, some y, some (.str t), some (.ref l3), y7, y8, y9] ∧ Same H8 H') ⟨none, none, none, rfl, Same.refl _⟩
      (fun i σ H' _ h => by obtain ⟨_, _, _, rfl, sm⟩ := h; exact .inl (.inl (sm _ _ b7))) (fun i x0 σ H' H'' hi hP hy => ?_) (fun σ H' hP => ?_)⟩
    · obtain ⟨y7, y8, y9, rfl, sm⟩ := hP
      obtain ⟨rfl, hx0⟩ := hy
      have hi7 : i < 7 := hi
      obtain ⟨dx, dy, dw, ed, due⟩ := hD i hi7
      have due := due.same sm
      have et : x0 = .ref ([t0, t1, t2, t3, t4, t5, t6].getD i 0) := by
        rw [List.getElem?_map, List.getElem?_eq_getElem (show i < [t0, t1, t2, t3, t4, t5, t6].length from hi7)] at hx0
        have := Option.some.inj hx0
        rw [← this, List.getD_eq_getElem?_getD, List.getElem?_eq_getElem (show i < [t0, t1, t2, t3, t4, t5, t6].length from hi7)]
        rfl
      subst et
      refine ⟨_, _, rfl, .inl (.inl (sm _ _ ed)), rfl, _, _, rfl, _, _, rfl, _, _, rfl, rfl, ?_⟩
      rcases due with ⟨hb, hw⟩ | ⟨e1, hb, hw⟩ | ⟨e1, hw, ws, e2, h1, h2, h3⟩
      · obtain rfl : dw = Str.ofString "name" := hw
        refine ⟨dx, rfl, dy, rfl, dx, dy, rfl, .inl ⟨hb, fun H9 r s9 nr er => ?_⟩⟩
        refine ⟨.str (Str.ofString "name"), rfl, n2, fun g ng => ?_⟩
        have sg := same_upd (o := .lst [V.str (Str.ofString "name"), V.str (Str.ofString "base")]) ng
        refine ⟨_, _, dp_strs (bs := [Str.ofString "name", Str.ofString "base"]) (.inl (.inl (sg _ _ er))), dp_strs (bs := [Str.ofString "name", Str.ofString "base"]) (.inl (.inl upd_same)), shaped_strs _ (okw _ (okS_of _ (by decide +kernel))), shaped_strs _ (okw _ (okS_of _ (by decide +kernel))), false, by rw [eqv_strsL, decide_eq_true rfl]; rfl, iteF ?_⟩
        exact ⟨_, _, _, rfl, sm.trans (s9.trans sg)⟩
      · obtain rfl : dw = Str.ofString "value" := hw
        refine ⟨dx, rfl, dy, rfl, dx, dy, rfl, .inr ⟨z, e1, hn, by omega, .inl ⟨hb, fun H9 r s9 nr er => ?_⟩⟩⟩
        refine ⟨.str (Str.ofString "value"), rfl, n2, fun g ng => ?_⟩
        have sg := same_upd (o := .lst [V.str (Str.ofString "value"), V.str (Str.ofString "base")]) ng
        refine ⟨_, _, dp_strs (bs := [Str.ofString "value", Str.ofString "base"]) (.inl (.inl (sg _ _ er))), dp_strs (bs := [Str.ofString "value", Str.ofString "base"]) (.inl (.inl upd_same)), shaped_strs _ (okw _ (okS_of _ (by decide +kernel))), shaped_strs _ (okw _ (okS_of _ (by decide +kernel))), false, by rw [eqv_strsL, decide_eq_true rfl]; rfl, iteF ?_⟩
        exact ⟨_, _, _, rfl, sm.trans (s9.trans sg)⟩
      · obtain rfl : dw = Str.ofString "long" := hw
        refine ⟨dx, rfl, dy, rfl, dx, dy, rfl, .inr ⟨z, e1, hn, by omega, .inr ⟨ws, e2, h1, h2, .inl ⟨h3, fun H9 r s9 nr er => ?_⟩⟩⟩⟩
        refine ⟨.str (Str.ofString "long"), rfl, n2, fun g ng => ?_⟩
        have sg := same_upd (o := .lst [V.str (Str.ofString "long"), V.str (Str.ofString "base")]) ng
        refine ⟨_, _, dp_strs (bs := [Str.ofString "long", Str.ofString "base"]) (.inl (.inl (sg _ _ er))), dp_strs (bs := [Str.ofString "long", Str.ofString "base"]) (.inl (.inl upd_same)), shaped_strs _ (okw _ (okS_of _ (by decide +kernel))), shaped_strs _ (okw _ (okS_of _ (by decide +kernel))), false, by rw [eqv_strsL, decide_eq_true rfl]; rfl, iteF ?_⟩
        exact ⟨_, _, _, rfl, sm.trans (s9.trans sg)⟩
    · obtain ⟨y7, y8, y9, rfl, sm⟩ := hP
      dsimp only [tRet]
      refine andV true true (fun Q' q' => ?_) (fun _ H9 Q' s9 q' => ?_) (fun H9 s9 => q H9 (S4.trans (S5.trans (S8.trans (sm.trans s9)))))
      · have hok := rowsS_okH hn wsOk_ab
        refine ⟨.str z, rfl, _, _, rfl, .inr ⟨z, rfl, hn, by omega, .inr ⟨[Str.ofString "a", Str.ofString "b"], by rw [join_ab], fun u hu => ⟨(wsOk_ab u hu).1, by have := (wsOk_ab u hu).2; omega⟩, by decide, .inr ⟨wsOk_ab, fun Ha r1 sa nr1 e1 => ?_⟩⟩⟩⟩
        refine ⟨.str z, rfl, z, _, by rw [join_ab]; rfl, hn, by omega, wsOk_ab, by decide, fun Hb r2 sb nr2 e2 => ?_⟩
        unfold rowsH at e1 e2
        refine ⟨_, _, dp_strs (.inl (.inl (sb _ _ e1))), dp_strs (.inl (.inl e2)), shaped_strs _ hok, shaped_strs _ hok, ?_⟩
        rw [eqv_strsL, decide_eq_true rfl]
        exact q' Hb (sa.trans sb)
      · have ecut : cutS t none (some 59) = ⟨((TL.tl t).take 59).toArray⟩ := cutS_to t 59
        have htt : t.length = (TL.tl t).length := TL.len_tl t
        have hwo : WsOk [cutS t none (some 59)] := fun u hu => by
          rw [List.mem_singleton.mp hu, ecut]
          refine ⟨⟨fun e => ?_, fun c hc => ht.2 c (List.mem_of_mem_take hc)⟩, by rw [mk_len, List.length_take]; omega⟩
          have e' : (TL.tl t).take 59 = [] := e
          have := congrArg List.length e'
          rw [List.length_take] at this
          have : min 59 (TL.tl t).length = 0 := this
          omega
        refine ⟨.str z, rfl, .str t, rfl, 59, rfl, t, rfl, hts, z, [cutS t none (some 59)], by rw [join_one]; rfl, hn, by omega, hwo, (show 1 ≤ 100 by decide), fun Hc r3 sc nr3 e3 => ?_⟩
        have hlen : (rowsH (TL.tl z) [cutS t none (some 59)]).length = 1 ∨ (rowsH (TL.tl z) [cutS t none (some 59)]).length = 2 := by
          unfold rowsH strL hrows hfold
          rw [List.length_map, List.length_map, List.length_append, List.map_singleton, List.foldl_cons, List.foldl_nil]
          unfold hstep
          split
          · right; rfl
          · left; rfl
        refine ⟨r3, _, rfl, .inl (.inl (.inl e3)), n2, fun g ng => ⟨g, _, rfl, .inr (.inl (.inl upd_same)), rfl, rfl, ?_⟩⟩
        have hv : inV (V.int (((rowsH (TL.tl z) [cutS t none (some 59)]).length : Nat) : Int)) [V.int 1, V.int 2] = true := by
          rcases hlen with h | h <;> rw [h] <;> decide
        show Q' (.bl (inV (V.int (((rowsH (TL.tl z) [cutS t none (some 59)]).length : Nat) : Int)) [V.int 1, V.int 2])) _
        rw [hv]
        exact q' _ (sc.trans (same_upd ng))
end
end K04

namespace K04
open PySem PySem.Spec PyProof.Rows L2 LH
section
variable {P : Program} {w : World} {K : PySem.W.Frag} {mg : Str → Option Value} {base : Heap} {tk : Nat → Tok} {ca : Nat → Addr}
theorem filt_none {α : Type} (n : Nat) (f : Nat → α) (b : Nat → Bool) (h : ∀ i, i < n → b i = false) : ((List.range n).filter b).map f = [] := by
  rw [List.map_eq_nil_iff, List.filter_eq_nil_iff]
  intro i hi
  rw [h i (List.mem_range.mp hi)]
  exact Bool.false_ne_true
/-- the list of pairs that the law keeps -/
structure Prs (H : Hp) (o : Addr) (ts : List Addr) (ps : List (Str × Str)) : Prop where
  lst : H o = some (.lst (ts.map V.ref))
  len : ts.length = ps.length
  tup : ∀ i, i < ps.length → H (ts.getD i 0) = some (.tup [.str (ps.getD i (Str.empty, Str.empty)).1, .str (ps.getD i (Str.empty, Str.empty)).2])
theorem Prs.same {H H' : Hp} {o : Addr} {ts : List Addr} {ps : List (Str × Str)} (h : Prs H o ts ps) (s : Same H H') : Prs H' o ts ps := ⟨s _ _ h.lst, h.len, fun i hi => s _ _ (h.tup i hi)⟩
theorem Prs.push {H : Hp} {o t : Addr} {ts : List Addr} {ps : List (Str × Str)} {e : Str × Str} (h : Prs H o ts ps) (ht : H t = some (.tup [.str e.1, .str e.2])) : Prs (upd H o (.lst (ts.map V.ref ++ [.ref t]))) o (ts ++ [t]) (ps ++ [e]) := by
  have tn : ∀ q xs, H q = some (.tup xs) → q ≠ o := fun q xs e z => by
    rw [z, h.lst] at e
    exact nomatch e
  refine ⟨by rw [upd_same, List.map_append]; rfl, by rw [List.length_append, List.length_append, h.len]; rfl, fun i hi => ?_⟩
  rw [List.length_append] at hi
  by_cases hl : i < ps.length
  · rw [getD_app_l _ _ _ (by rw [h.len]; exact hl), getD_app_l _ _ _ hl]
    have e := h.tup i hl
    rw [upd_ne (tn _ _ e)]
    exact e
  · have : i = ps.length := by
      have : i < ps.length + 1 := hi
      omega
    subst this
    rw [getD_app_r _ _ _ (by rw [h.len]; exact Nat.le_refl _), getD_app_r _ _ _ (Nat.le_refl _), h.len, Nat.sub_self]
    show upd H o _ t = some (.tup [.str e.1, .str e.2])
    rw [upd_ne (tn _ _ ht)]
    exact ht
theorem read_app {R : List Str} {z : Str} {ws : List Str} (h : isHN (TL.tl z) = true) (hw : WsOk ws) : readRows (R ++ strL (hrows (TL.tl z) (ws.map TL.tl))) = readRows R ++ [(z, Txt.join (Str.ofString " ") ws)] := by
  unfold readRows
  rw [List.foldl_append, (hdr_good h hw).2.2, List.map_append]
  rfl
theorem hn_okS {z : Str} (h : isHN (TL.tl z) = true) : OkS z := fun c hc => by
  have e := joinL_split 45 (TL.tl z)
  rw [← e] at hc
  rcases joinL_mem _ _ c hc with h1 | ⟨p, hp, hc⟩
  · rw [List.mem_singleton.mp h1]; decide
  · exact sm_ok (hn_small h p hp).1 c hc
theorem val_okS {ws : List Str} (hw : WsOk ws) : OkS (Txt.join (Str.ofString " ") ws) := okS_join (okS_of _ (by decide +kernel)) fun x hx c hc => by
  have := (hw x hx).1.2 c hc
  omega
/-! ### law -/
abbrev s_law : Stmt := topS 53
abbrev N_law : List Str := ["_law_script", "_law_pairs", "_law_rows", "_law_k", "_law_cell_here", "_law_number", "_law_name_here", "_law_row"]
abbrev P_law : List Str := ["_law_script"]
theorem sc_law : FnScope N_law ["_law_script"] (defScope s_law) := ⟨rfl, rfl, rfl, by decide +kernel, rfl, by decide +kernel, by decide +kernel⟩
def spLaw (K : PySem.W.Frag) : Sp := fun vs H Q _ => ∃ (a : Addr) (ns : List Int), vs = [.ref a] ∧ SqL K H a (ns.map V.int) ∧ ns.length ≤ 63 ∧ ∀ H', Q (.bl true) H'
theorem ok_law {f fM fN fV fF fU fR : Addr} {fd fdM fdN fdV fdF fdU fdR : FuncData} (F : Fun K "law" "law" s_law f fd) (T : Tx mg tk)
    (D__law_mixed : Def P w K mg base "_law_mixed" 1 fM fdM P__law_mixed sp_mixed) (D__law_name : Def P w K mg base "_law_name" 2 fN fdN P__law_name sp_lname) (D__law_value : Def P w K mg base "_law_value" 3 fV fdV P__law_value sp_lvalue)
    (D_folded : Def P w K mg base "folded" 3 fF fdF P_folded sp_folded) (D_unfolded : Def P w K mg base "unfolded" 5 fU fdU P_unfolded (sp_unfolded K)) (D__law_refusals : Def P w K mg base "_law_refusals" 5 fR fdR P__law_refusals (sp_refusals K)) :
    FnOk P w K mg base CX0 6 f fd ["_law_script"] (spLaw K) := by
  refine F.ok sc_law (fun vs H Q E h => ?_) (fun cdv A outer s H vs Q E hr h => ?_)
  · obtain ⟨a, ns, rfl, _⟩ := h
    rfl
  · have nd := sc_law.nd
    obtain ⟨a, ns, rfl, hS, hlen, q⟩ := h
    refine ⟨_, (pss_cons (ps_set (i := 1) nd rfl (.inl rfl) (pe_lst pa_nil))
      (pss_cons (ps_set (i := 2) nd rfl (.inl rfl) (pe_lst pa_nil))
      (pss_cons (ps_for PassesOwn.never rfl (pi_enum (by rfl) T.n_enumerate (pa_cons (pe_slice (slL K) (pv 0) po_none (po_some pe_int)) pa_nil)) (pg_tup rfl (pgs_cons (pg_name (i := 3) nd rfl (Or.inl rfl)) (pgs_cons (pg_name (i := 4) nd rfl (Or.inl rfl)) pgs_nil)))
        (pss_cons (ps_set (i := 5) nd rfl (.inl rfl) (pe_def D__law_mixed (hr.mono (by decide)) (pa_cons (pv 4) (pa_cons (pv 3) pa_nil))))
        (pss_cons (ps_set (i := 6) nd rfl (.inl rfl) (pe_def D__law_name (hr.mono (by decide)) (pa_cons (pv 5) pa_nil)))
        (pss_cons (ps_expr (pe_bm PySem.F.plainAttrs_list PySem.F.slot_list_append PySem.F.type_list_append mt_append (pv 1) (pa_cons (pe_tup (pa_cons (pv 6) (pa_cons (pe_def D__law_value (hr.mono (by decide)) (pa_cons (pe_op op_fdiv (pv 5) pe_int) (pa_cons (pv 6) pa_nil))) pa_nil))) pa_nil)))
        (pss_one (ps_set (i := 2) nd rfl (.inl rfl) (pe_op op_cat (pv 2) (pe_def D_folded (hr.mono (by decide)) (pa_cons (pv 6) (pa_cons (pe_ix (ixT K) (pe_ix (ixL K) (pv 1) (pe_un un_neg pe_int) (fun _ _ => rfl)) pe_int (fun _ _ => rfl)) pa_nil))))))))))
      (pss_cons (ps_if (PW.pt (pw_or (pt_cmpR (oNeD K hr.units) (pe_lc (own := [("_law_row", 7)]) (g := gName 7) (by rfl) nd (pi_list (pv 2)) (blkOk_by (N := N_law) (sc := defScope s_law) (by decide +kernel)) (fun _ _ _ _ _ => (pg_name (i := 7) nd rfl (Or.inl rfl))) (fun _ _ _ _ _ => (pts_one (PW.pt (pw_or (pt_not (pt_val (pe_callB (cIsi K) (by rfl) T.n_isinstance (by decide +kernel) (pa_cons (pv 7) (pa_cons (pe_bltn (v := .ty "str") (by rfl) T.n_str (by decide +kernel) rfl) pa_nil))))) (pw_or1 (pt_cmpR op_gt (pe_callB call_len_str (by rfl) T.n_len (by decide +kernel) (pa_cons (pv 7) pa_nil)) pe_int (nomark _))))))) (fun _ _ _ _ _ => (pv 7))) (pe_lst pa_nil) (nomark _)) (pw_or1 (pt_cmpR (oNeD K hr.units) (pe_def D_unfolded (hr.mono (by decide)) (pa_cons (pv 2) pa_nil)) (pv 1) (nomark _)))))
        (pss_one (ps_ret pe_bl))
        pss_nil)
      (pss_one (ps_ret (pe_and (pe_def D__law_refusals (hr.mono (by decide)) (pa_cons (pv 0) pa_nil)) (pe_one (pe_cmpR (oEqD K hr.units) (pe_def D_unfolded (hr.mono (by decide)) (pa_cons (pv 2) pa_nil)) (pv 1) (nomark _)))))))))), ?_⟩
    have n2 : 2 ≤ sizeLine := Nat.le_of_lt (small1000 (show 2 ≤ 1000 by decide))
    refine ⟨Nat.zero_le _, fun o no => ⟨Nat.zero_le _, fun r0 nr0 => ?_⟩⟩
    have s1 := same_upd (o := .lst []) no
    have s2 := same_upd (o := .lst []) nr0
    have r0o : r0 ≠ o := fun e => by
      rw [e, upd_same] at nr0
      cases nr0
    have eo0 := s2 o _ upd_same
    refine ⟨.ref a, rfl, 63, rfl, a, _, rfl, (s1.trans s2).seq hS, fun c nc => ?_⟩
    have ecut : cutV (ns.map V.int) none (some 63) = ns.map V.int := by
      rw [show (63 : Int) = ((63 : Nat) : Int) from rfl, cutV_to, List.take_of_length_le (by rw [List.length_map]; omega)]
    rw [ecut]
    have s3 := same_upd (o := .lst (ns.map V.int)) nc
    have er0 := s3 r0 _ upd_same
    have eo0 := s3 _ _ eo0
    have s0 := s1.trans (s2.trans s3)
    have ec := upd_same (H := upd (upd H o (.lst [])) r0 (.lst [])) (a := c) (o := .lst (ns.map V.int))
    have nco : c ≠ o := fun e => by
      rw [e] at nc
      have := s2 o _ upd_same
      rw [nc] at this
      cases this
    generalize upd (upd (upd H o (.lst [])) r0 (.lst [])) c (.lst (ns.map V.int)) = H1 at er0 eo0 s0 ec ⊢
    refine ⟨c, ns.map V.int, rfl, .inl (.inl ec), for_it walk_enum (fun i σ H' => ∃ (y3 y4 y5 y6 : Option V) (rr : Addr) (ts : List Addr) (R : List Str), σ = [some (.ref a), some (.ref o), some (.ref rr), y3, y4, y5, y6, none] ∧ Same H H' ∧ H' c = some (.lst (ns.map V.int)) ∧ Prs H' o ts (readRows R) ∧ H' rr = some (.lst (R.map V.str)) ∧ rr ≠ o ∧ Good R ∧ R.length ≤ 9 * i ∧ (readRows R).length = i ∧ ∀ e ∈ readRows R, OkS e.1 ∧ OkS e.2)
      ⟨none, none, none, none, r0, [], [], rfl, s0, ec, ⟨eo0, rfl, fun _ h => absurd h (Nat.not_lt_zero _)⟩, er0, r0o, good_nil, Nat.le_refl _, rfl, fun _ h => by cases h⟩
      (fun i σ H' _ h => by obtain ⟨_, _, _, _, _, _, _, rfl, _, e, _⟩ := h; exact .inl (.inl e)) (fun i x σ H' H'' hi hP hy => ?_) (fun σ H' hP => ?_)⟩
    · obtain ⟨y3, y4, y5, y6, rr, ts, R, rfl, sm, ec, hp, er, hro, hg, hRl, hrl, hok⟩ := hP
      obtain ⟨U, x1, x2, rfl, nU, rfl, f1, f2⟩ := hy
      rw [List.length_map] at hi
      have f2 : (ns.map V.int)[i]? = some x2 := f2
      rw [List.getElem?_map, List.getElem?_eq_getElem hi] at f2
      obtain rfl := Option.some.inj f1
      obtain rfl := Option.some.inj f2
      have sU := same_upd (o := .tup [.int (i : Nat), .int ns[i]]) nU
      refine ⟨U, _, rfl, .inl (.inl upd_same), rfl, _, _, rfl, _, _, rfl, rfl, ?_⟩
      refine ⟨_, rfl, _, rfl, ns[i], (i : Int), rfl, by omega, by omega, fun H2 s2' => ?_⟩
      have hM := mixed_lt ns[i] (i : Int)
      generalize mixed ns[i] (i : Int) = M at hM
      refine ⟨.int M, rfl, M, rfl, hM.1, by omega, fun z hn hz H3 s3 => ?_⟩
      have sA := sU.trans (s2'.trans s3)
      have hp3 := hp.same sA
      refine ⟨.ref o, rfl, .inl ⟨rfl, _, .inl (.inl hp3.lst)⟩, .str z, rfl, .int M, rfl, M, 7, rfl, rfl, ⟨by decide, by decide⟩, .str z, rfl, M / 7, z, rfl, Int.ediv_nonneg hM.1 (by decide), by omega, by omega, fun ws hw hwl H4 s4 => ⟨n2, fun t nt => ?_⟩⟩
      have s5 := same_upd (o := .tup [V.str z, V.str (Txt.join (Str.ofString " ") ws)]) nt
      have et := upd_same (H := H4) (a := t) (o := .tup [V.str z, V.str (Txt.join (Str.ofString " ") ws)])
      generalize upd H4 t (.tup [V.str z, V.str (Txt.join (Str.ofString " ") ws)]) = H5 at s5 et ⊢
      have hp5 := (hp3.same s4).same s5
      have sB := sA.trans (s4.trans s5)
      have htl : (ts.map V.ref).length = i := by rw [List.length_map, hp.len, hrl]
      refine ⟨o, _, _, rfl, rfl, hp5.lst, by rw [htl, sizeLine_eq]; omega, ?_⟩
      have hp6 := hp5.push (e := (z, Txt.join (Str.ofString " ") ws)) et
      have to' : t ≠ o := fun e => by
        rw [e, hp5.lst] at et
        cases et
      have et6 : upd H5 o (.lst (ts.map V.ref ++ [.ref t])) t = some (.tup [V.str z, V.str (Txt.join (Str.ofString " ") ws)]) := by rw [upd_ne to']; exact et
      have er6 : upd H5 o (.lst (ts.map V.ref ++ [.ref t])) rr = some (.lst (R.map V.str)) := by rw [upd_ne hro]; exact sB _ _ er
      have ec6 : upd H5 o (.lst (ts.map V.ref ++ [.ref t])) c = some (.lst (ns.map V.int)) := by rw [upd_ne nco]; exact sB _ _ ec
      have s06 : Same H (upd H5 o (.lst (ts.map V.ref ++ [.ref t]))) := fun b x e => by
        rw [upd_ne (ne_of_none e no)]
        exact sB _ _ (sm _ _ e)
      have eo6 : upd H5 o (.lst (ts.map V.ref ++ [.ref t])) o = some (.lst (ts.map V.ref ++ [.ref t])) := upd_same
      generalize upd H5 o (.lst (ts.map V.ref ++ [.ref t])) = H6 at hp6 et6 er6 ec6 s06 eo6 ⊢
      refine ⟨.ref rr, rfl, .str z, rfl, .ref o, rfl, 1, rfl, o, _, -1, .ref t, rfl, rfl, .inl (.inl eo6), atI_last _ _, t, _, 1, _, rfl, rfl, .inl (.inl et6), rfl, z, ws, rfl, hn, by omega, hw, by omega, fun H7 fo s7 nfo e7 => ?_⟩
      obtain ⟨hgd, hne, _⟩ := hdr_good hn hw
      have hmany := rows_many hn hw
      have hread := read_app (R := R) hn hw
      unfold rowsH at e7
      generalize strL (hrows (TL.tl z) (ws.map TL.tl)) = N at *
      refine ⟨rr, fo, _, _, rfl, rfl, s7 _ _ er6, e7, by rw [List.length_map, List.length_map, sizeLine_eq]; omega, fun p np => ?_⟩
      rw [← List.map_append]
      have s8 := same_upd (o := .lst ((R ++ N).map V.str)) np
      have po : p ≠ o := fun e => by
        rw [e, s7 _ _ eo6] at np
        cases np
      refine ⟨_, _, _, _, p, ts ++ [t], R ++ N, rfl, s06.trans (s7.trans s8), s8 _ _ (s7 _ _ ec6), ?_, upd_same, po, good_app hg hgd, by rw [List.length_append]; omega, ?_, ?_⟩
      · rw [hread]
        exact (hp6.same s7).same s8
      · rw [hread, List.length_append, hrl]
        rfl
      · rw [hread]
        intro e he
        rcases List.mem_append.mp he with he | he
        · exact hok e he
        · rw [List.mem_singleton.mp he]
          exact ⟨hn_okS hn, val_okS hw⟩
    · obtain ⟨y3, y4, y5, y6, rr, ts, R, rfl, sm, ec, hp, er, hro, hg, hRl, hrl, hok⟩ := hP
      rw [List.length_map] at hRl
      have hRm : (R.map V.str).length = R.length := List.length_map ..
      have hsh := shaped_pairs (readRows R) hok
      have hlen60 : ∀ x ∈ R, x.length ≤ 1000 := fun x hx => by have := (hg.each x hx).2.1; omega
      refine ⟨.ref rr, rfl, rr, rfl, ⟨_, .inl (.inl er)⟩, fun D hD => lc_filt (fun i => (R.map V.str).getD i .non) (fun i => (R.map V.str).getD i .non) (fun _ => false) walk_listF (fun H11 s11 => s11.seq (.inl (.inl er))) hD (by rw [hRm, sizeLine_eq]; omega) (fun j H11 Q1 hj s11 q1 => ?_) (fun j H11 Q1 hj s11 hb q1 => nomatch hb) (fun H11 s11 e11 => ?_)⟩
      · rw [hRm] at hj
        rw [getD_str R j hj]
        have hxm : R.getD j Str.empty ∈ R := by
          rw [List.getD_eq_getElem?_getD, List.getElem?_eq_getElem hj]
          exact List.getElem_mem hj
        have hl := (hg.each _ hxm).2.1
        refine ⟨.str (R.getD j Str.empty), rfl, _, .ty "str", _, _, true, rfl, .ty _, .base (.str _), kit_ty (by decide +kernel), true, rfl, iteF ?_⟩
        refine ⟨_, rfl, _, rfl, by rw [sizeLine_eq]; omega, _, 60, rfl, rfl, _, rfl, ?_⟩
        show Q1 (decide ((60 : Int) < (((R.getD j Str.empty).length : Nat) : Int))) _
        rw [decide_eq_false (by omega)]
        exact q1 _ (Same.refl _)
      · rw [filt_none _ _ _ (fun _ _ => rfl)] at e11
        refine ⟨Nat.zero_le _, fun p np => ?_⟩
        have s12 := same_upd (o := .lst []) np
        refine ⟨.list (([] : List Str).map PyData.str), .list (([] : List Str).map PyData.str), dp_strs (.inl (.inl (s12 _ _ e11))), dp_strs (.inl (.inl upd_same)), shaped_strs [] (fun _ h => by cases h), shaped_strs [] (fun _ h => by cases h), false, by rw [eqv_strsL, decide_eq_true rfl]; rfl, iteF ?_⟩
        have sX := s11.trans s12
        refine ⟨.ref rr, rfl, rr, R, rfl, sX _ _ er, by omega, hlen60, good_at hg, fun H13 up us s13 nup eup hul huu => ?_⟩
        refine ⟨.ref o, rfl, _, _, dp_pairs eup hul huu, dp_pairs (s13 _ _ (sX _ _ hp.lst)) hp.len (fun i hi => s13 _ _ (sX _ _ (hp.tup i hi))), hsh, hsh, false, by rw [eqv_pairsL]; rfl, iteF ?_⟩
        have sY := sX.trans s13
        dsimp only [tNext, tRet]
        refine andV true true (fun Q' q' => ?_) (fun _ H9 Q' s9 q' => ?_) (fun H9 s9 => q H9)
        · exact ⟨.ref a, rfl, a, ns, rfl, (sm.trans sY).seq hS, q'⟩
        · have sZ := sY.trans s9
          refine ⟨.ref rr, rfl, rr, R, rfl, sZ _ _ er, by omega, hlen60, good_at hg, fun H14 vp vs s14 nvp evp hvl hvu => ?_⟩
          refine ⟨.ref o, rfl, _, _, dp_pairs evp hvl hvu, dp_pairs (s14 _ _ (sZ _ _ hp.lst)) hp.len (fun i hi => s14 _ _ (sZ _ _ (hp.tup i hi))), hsh, hsh, ?_⟩
          rw [eqv_pairsL]
          exact q' H14 s14
end
end K04

namespace K04
open PySem PySem.Spec PyProof.Rows L2 LH
theorem all_mk {l : PySem.W.OpenLaw} {w : World} {K : PySem.W.Frag} {h : Heap} {mg : Str → Option Value} {fa : Addr} {f0 f1 f2 f3 f4 f5 f6 f7 f8 f9 f10 f11 f12 f13 f14 f15 f16 f17 f18 f19 f20 f21 f22 f23 f24 : Addr} {t1 t2 t3 t4 t5 : Tok} (X : K.In h) (G : h.Ns mainGlobals mg) (hfa : mg "law" = some (.ref fa))
    {od0 an0 : Option Addr} {sl0 : Array (Option Value)} {oc0 kV0 dc0 pm0 cd0 ct0 : Value}
    (a0 : PySem.W.nsIn K mainGlobals "_law_mixed" = some (some (.ref f0))) (l0 : K.lookup f0 = some ⟨oc0, od0, .func (PySem.W.fnOf "_law_mixed" "_law_mixed" (defArgs s__law_mixed) (defBody s__law_mixed) (defScope s__law_mixed) .none kV0 dc0 pm0 an0 cd0 ct0), sl0⟩) (c0 : PySem.W.codeIn K cd0 "_law_mixed" = true) (k0 : PySem.W.keepIn K (.ref f0) = true)
    {od1 an1 : Option Addr} {sl1 : Array (Option Value)} {oc1 kV1 dc1 pm1 cd1 ct1 : Value}
    (a1 : PySem.W.nsIn K mainGlobals "_law_next" = some (some (.ref f1))) (l1 : K.lookup f1 = some ⟨oc1, od1, .func (PySem.W.fnOf "_law_next" "_law_next" (defArgs s__law_next) (defBody s__law_next) (defScope s__law_next) .none kV1 dc1 pm1 an1 cd1 ct1), sl1⟩) (c1 : PySem.W.codeIn K cd1 "_law_next" = true) (k1 : PySem.W.keepIn K (.ref f1) = true)
    {od2 an2 : Option Addr} {sl2 : Array (Option Value)} {oc2 kV2 dc2 pm2 cd2 ct2 : Value}
    (a2 : PySem.W.nsIn K mainGlobals "_law_name" = some (some (.ref f2))) (l2 : K.lookup f2 = some ⟨oc2, od2, .func (PySem.W.fnOf "_law_name" "_law_name" (defArgs s__law_name) (defBody s__law_name) (defScope s__law_name) .none kV2 dc2 pm2 an2 cd2 ct2), sl2⟩) (c2 : PySem.W.codeIn K cd2 "_law_name" = true) (k2 : PySem.W.keepIn K (.ref f2) = true)
    {od3 an3 : Option Addr} {sl3 : Array (Option Value)} {oc3 kV3 dc3 pm3 cd3 ct3 : Value}
    (a3 : PySem.W.nsIn K mainGlobals "_law_signs" = some (some (.ref f3))) (l3 : K.lookup f3 = some ⟨oc3, od3, .func (PySem.W.fnOf "_law_signs" "_law_signs" (defArgs s__law_signs) (defBody s__law_signs) (defScope s__law_signs) .none kV3 dc3 pm3 an3 cd3 ct3), sl3⟩) (c3 : PySem.W.codeIn K cd3 "_law_signs" = true) (k3 : PySem.W.keepIn K (.ref f3) = true)
    {od4 an4 : Option Addr} {sl4 : Array (Option Value)} {oc4 kV4 dc4 pm4 cd4 ct4 : Value}
    (a4 : PySem.W.nsIn K mainGlobals "_law_word" = some (some (.ref f4))) (l4 : K.lookup f4 = some ⟨oc4, od4, .func (PySem.W.fnOf "_law_word" "_law_word" (defArgs s__law_word) (defBody s__law_word) (defScope s__law_word) .none kV4 dc4 pm4 an4 cd4 ct4), sl4⟩) (c4 : PySem.W.codeIn K cd4 "_law_word" = true) (k4 : PySem.W.keepIn K (.ref f4) = true)
    {od5 an5 : Option Addr} {sl5 : Array (Option Value)} {oc5 kV5 dc5 pm5 cd5 ct5 : Value}
    (a5 : PySem.W.nsIn K mainGlobals "_law_value" = some (some (.ref f5))) (l5 : K.lookup f5 = some ⟨oc5, od5, .func (PySem.W.fnOf "_law_value" "_law_value" (defArgs s__law_value) (defBody s__law_value) (defScope s__law_value) .none kV5 dc5 pm5 an5 cd5 ct5), sl5⟩) (c5 : PySem.W.codeIn K cd5 "_law_value" = true) (k5 : PySem.W.keepIn K (.ref f5) = true)
    {od6 an6 : Option Addr} {sl6 : Array (Option Value)} {oc6 kV6 dc6 pm6 cd6 ct6 : Value}
    (a6 : PySem.W.nsIn K mainGlobals "is_small_word" = some (some (.ref f6))) (l6 : K.lookup f6 = some ⟨oc6, od6, .func (PySem.W.fnOf "is_small_word" "is_small_word" (defArgs s_is_small_word) (defBody s_is_small_word) (defScope s_is_small_word) .none kV6 dc6 pm6 an6 cd6 ct6), sl6⟩) (c6 : PySem.W.codeIn K cd6 "is_small_word" = true) (k6 : PySem.W.keepIn K (.ref f6) = true)
    {od7 an7 : Option Addr} {sl7 : Array (Option Value)} {oc7 kV7 dc7 pm7 cd7 ct7 : Value}
    (a7 : PySem.W.nsIn K mainGlobals "is_header_name" = some (some (.ref f7))) (l7 : K.lookup f7 = some ⟨oc7, od7, .func (PySem.W.fnOf "is_header_name" "is_header_name" (defArgs s_is_header_name) (defBody s_is_header_name) (defScope s_is_header_name) .none kV7 dc7 pm7 an7 cd7 ct7), sl7⟩) (c7 : PySem.W.codeIn K cd7 "is_header_name" = true) (k7 : PySem.W.keepIn K (.ref f7) = true)
    {od8 an8 : Option Addr} {sl8 : Array (Option Value)} {oc8 kV8 dc8 pm8 cd8 ct8 : Value}
    (a8 : PySem.W.nsIn K mainGlobals "is_sign" = some (some (.ref f8))) (l8 : K.lookup f8 = some ⟨oc8, od8, .func (PySem.W.fnOf "is_sign" "is_sign" (defArgs s_is_sign) (defBody s_is_sign) (defScope s_is_sign) .none kV8 dc8 pm8 an8 cd8 ct8), sl8⟩) (c8 : PySem.W.codeIn K cd8 "is_sign" = true) (k8 : PySem.W.keepIn K (.ref f8) = true)
    {od9 an9 : Option Addr} {sl9 : Array (Option Value)} {oc9 kV9 dc9 pm9 cd9 ct9 : Value}
    (a9 : PySem.W.nsIn K mainGlobals "is_value" = some (some (.ref f9))) (l9 : K.lookup f9 = some ⟨oc9, od9, .func (PySem.W.fnOf "is_value" "is_value" (defArgs s_is_value) (defBody s_is_value) (defScope s_is_value) .none kV9 dc9 pm9 an9 cd9 ct9), sl9⟩) (c9 : PySem.W.codeIn K cd9 "is_value" = true) (k9 : PySem.W.keepIn K (.ref f9) = true)
    {od10 an10 : Option Addr} {sl10 : Array (Option Value)} {oc10 kV10 dc10 pm10 cd10 ct10 : Value}
    (a10 : PySem.W.nsIn K mainGlobals "great_name" = some (some (.ref f10))) (l10 : K.lookup f10 = some ⟨oc10, od10, .func (PySem.W.fnOf "great_name" "great_name" (defArgs s_great_name) (defBody s_great_name) (defScope s_great_name) .none kV10 dc10 pm10 an10 cd10 ct10), sl10⟩) (c10 : PySem.W.codeIn K cd10 "great_name" = true) (k10 : PySem.W.keepIn K (.ref f10) = true)
    {od11 an11 : Option Addr} {sl11 : Array (Option Value)} {oc11 kV11 dc11 pm11 cd11 ct11 : Value}
    (a11 : PySem.W.nsIn K mainGlobals "goes_into_rows" = some (some (.ref f11))) (l11 : K.lookup f11 = some ⟨oc11, od11, .func (PySem.W.fnOf "goes_into_rows" "goes_into_rows" (defArgs s_goes_into_rows) (defBody s_goes_into_rows) (defScope s_goes_into_rows) .none kV11 dc11 pm11 an11 cd11 ct11), sl11⟩) (c11 : PySem.W.codeIn K cd11 "goes_into_rows" = true) (k11 : PySem.W.keepIn K (.ref f11) = true)
    {od12 an12 : Option Addr} {sl12 : Array (Option Value)} {oc12 kV12 dc12 pm12 cd12 ct12 : Value}
    (a12 : PySem.W.nsIn K mainGlobals "folded" = some (some (.ref f12))) (l12 : K.lookup f12 = some ⟨oc12, od12, .func (PySem.W.fnOf "folded" "folded" (defArgs s_folded) (defBody s_folded) (defScope s_folded) .none kV12 dc12 pm12 an12 cd12 ct12), sl12⟩) (c12 : PySem.W.codeIn K cd12 "folded" = true) (k12 : PySem.W.keepIn K (.ref f12) = true)
    {od13 an13 : Option Addr} {sl13 : Array (Option Value)} {oc13 kV13 dc13 pm13 cd13 ct13 : Value}
    (a13 : PySem.W.nsIn K mainGlobals "no_text_row" = some (some (.ref f13))) (l13 : K.lookup f13 = some ⟨oc13, od13, .func (PySem.W.fnOf "no_text_row" "no_text_row" (defArgs s_no_text_row) (defBody s_no_text_row) (defScope s_no_text_row) .none kV13 dc13 pm13 an13 cd13 ct13), sl13⟩) (c13 : PySem.W.codeIn K cd13 "no_text_row" = true) (k13 : PySem.W.keepIn K (.ref f13) = true)
    {od14 an14 : Option Addr} {sl14 : Array (Option Value)} {oc14 kV14 dc14 pm14 cd14 ct14 : Value}
    (a14 : PySem.W.nsIn K mainGlobals "is_letter" = some (some (.ref f14))) (l14 : K.lookup f14 = some ⟨oc14, od14, .func (PySem.W.fnOf "is_letter" "is_letter" (defArgs s_is_letter) (defBody s_is_letter) (defScope s_is_letter) .none kV14 dc14 pm14 an14 cd14 ct14), sl14⟩) (c14 : PySem.W.codeIn K cd14 "is_letter" = true) (k14 : PySem.W.keepIn K (.ref f14) = true)
    {od15 an15 : Option Addr} {sl15 : Array (Option Value)} {oc15 kV15 dc15 pm15 cd15 ct15 : Value}
    (a15 : PySem.W.nsIn K mainGlobals "name_signs" = some (some (.ref f15))) (l15 : K.lookup f15 = some ⟨oc15, od15, .func (PySem.W.fnOf "name_signs" "name_signs" (defArgs s_name_signs) (defBody s_name_signs) (defScope s_name_signs) .none kV15 dc15 pm15 an15 cd15 ct15), sl15⟩) (c15 : PySem.W.codeIn K cd15 "name_signs" = true) (k15 : PySem.W.keepIn K (.ref f15) = true)
    {od16 an16 : Option Addr} {sl16 : Array (Option Value)} {oc16 kV16 dc16 pm16 cd16 ct16 : Value}
    (a16 : PySem.W.nsIn K mainGlobals "wrong_sign_place" = some (some (.ref f16))) (l16 : K.lookup f16 = some ⟨oc16, od16, .func (PySem.W.fnOf "wrong_sign_place" "wrong_sign_place" (defArgs s_wrong_sign_place) (defBody s_wrong_sign_place) (defScope s_wrong_sign_place) .none kV16 dc16 pm16 an16 cd16 ct16), sl16⟩) (c16 : PySem.W.codeIn K cd16 "wrong_sign_place" = true) (k16 : PySem.W.keepIn K (.ref f16) = true)
    {od17 an17 : Option Addr} {sl17 : Array (Option Value)} {oc17 kV17 dc17 pm17 cd17 ct17 : Value}
    (a17 : PySem.W.nsIn K mainGlobals "wrong_row_place" = some (some (.ref f17))) (l17 : K.lookup f17 = some ⟨oc17, od17, .func (PySem.W.fnOf "wrong_row_place" "wrong_row_place" (defArgs s_wrong_row_place) (defBody s_wrong_row_place) (defScope s_wrong_row_place) .none kV17 dc17 pm17 an17 cd17 ct17), sl17⟩) (c17 : PySem.W.codeIn K cd17 "wrong_row_place" = true) (k17 : PySem.W.keepIn K (.ref f17) = true)
    {od18 an18 : Option Addr} {sl18 : Array (Option Value)} {oc18 kV18 dc18 pm18 cd18 ct18 : Value}
    (a18 : PySem.W.nsIn K mainGlobals "refuse_wrong_rows" = some (some (.ref f18))) (l18 : K.lookup f18 = some ⟨oc18, od18, .func (PySem.W.fnOf "refuse_wrong_rows" "refuse_wrong_rows" (defArgs s_refuse_wrong_rows) (defBody s_refuse_wrong_rows) (defScope s_refuse_wrong_rows) .none kV18 dc18 pm18 an18 cd18 ct18), sl18⟩) (c18 : PySem.W.codeIn K cd18 "refuse_wrong_rows" = true) (k18 : PySem.W.keepIn K (.ref f18) = true)
    {od19 an19 : Option Addr} {sl19 : Array (Option Value)} {oc19 kV19 dc19 pm19 cd19 ct19 : Value}
    (a19 : PySem.W.nsIn K mainGlobals "unfolded" = some (some (.ref f19))) (l19 : K.lookup f19 = some ⟨oc19, od19, .func (PySem.W.fnOf "unfolded" "unfolded" (defArgs s_unfolded) (defBody s_unfolded) (defScope s_unfolded) .none kV19 dc19 pm19 an19 cd19 ct19), sl19⟩) (c19 : PySem.W.codeIn K cd19 "unfolded" = true) (k19 : PySem.W.keepIn K (.ref f19) = true)
    {od20 an20 : Option Addr} {sl20 : Array (Option Value)} {oc20 kV20 dc20 pm20 cd20 ct20 : Value}
    (a20 : PySem.W.nsIn K mainGlobals "_law_cell" = some (some (.ref f20))) (l20 : K.lookup f20 = some ⟨oc20, od20, .func (PySem.W.fnOf "_law_cell" "_law_cell" (defArgs s__law_cell) (defBody s__law_cell) (defScope s__law_cell) .none kV20 dc20 pm20 an20 cd20 ct20), sl20⟩) (c20 : PySem.W.codeIn K cd20 "_law_cell" = true) (k20 : PySem.W.keepIn K (.ref f20) = true)
    {od21 an21 : Option Addr} {sl21 : Array (Option Value)} {oc21 kV21 dc21 pm21 cd21 ct21 : Value}
    (a21 : PySem.W.nsIn K mainGlobals "_law_kind" = some (some (.ref f21))) (l21 : K.lookup f21 = some ⟨oc21, od21, .func (PySem.W.fnOf "_law_kind" "_law_kind" (defArgs s__law_kind) (defBody s__law_kind) (defScope s__law_kind) .none kV21 dc21 pm21 an21 cd21 ct21), sl21⟩) (c21 : PySem.W.codeIn K cd21 "_law_kind" = true) (k21 : PySem.W.keepIn K (.ref f21) = true)
    {od22 an22 : Option Addr} {sl22 : Array (Option Value)} {oc22 kV22 dc22 pm22 cd22 ct22 : Value}
    (a22 : PySem.W.nsIn K mainGlobals "_law_told" = some (some (.ref f22))) (l22 : K.lookup f22 = some ⟨oc22, od22, .func (PySem.W.fnOf "_law_told" "_law_told" (defArgs s__law_told) (defBody s__law_told) (defScope s__law_told) .none kV22 dc22 pm22 an22 cd22 ct22), sl22⟩) (c22 : PySem.W.codeIn K cd22 "_law_told" = true) (k22 : PySem.W.keepIn K (.ref f22) = true)
    {od23 an23 : Option Addr} {sl23 : Array (Option Value)} {oc23 kV23 dc23 pm23 cd23 ct23 : Value}
    (a23 : PySem.W.nsIn K mainGlobals "_law_refusals" = some (some (.ref f23))) (l23 : K.lookup f23 = some ⟨oc23, od23, .func (PySem.W.fnOf "_law_refusals" "_law_refusals" (defArgs s__law_refusals) (defBody s__law_refusals) (defScope s__law_refusals) .none kV23 dc23 pm23 an23 cd23 ct23), sl23⟩) (c23 : PySem.W.codeIn K cd23 "_law_refusals" = true) (k23 : PySem.W.keepIn K (.ref f23) = true)
    {od24 an24 : Option Addr} {sl24 : Array (Option Value)} {oc24 kV24 dc24 pm24 cd24 ct24 : Value}
    (a24 : PySem.W.nsIn K mainGlobals "law" = some (some (.ref f24))) (l24 : K.lookup f24 = some ⟨oc24, od24, .func (PySem.W.fnOf "law" "law" (defArgs s_law) (defBody s_law) (defScope s_law) .none kV24 dc24 pm24 an24 cd24 ct24), sl24⟩) (c24 : PySem.W.codeIn K cd24 "law" = true) (k24 : PySem.W.keepIn K (.ref f24) = true)
    {e0 e1 e2 e3 e4 e5 e6 e7 e8 e9 e10 e11 e12 e13 e14 e15 e16 e17 e18 e19 : Addr}
    (m0 : PySem.W.nsIn K mainGlobals "HouseError" = some (some (.ref e0)))
    (m1 : PySem.W.nsIn K mainGlobals "BadBytes" = some (some (.ref e1)))
    (m2 : PySem.W.nsIn K mainGlobals "BadName" = some (some (.ref e2)))
    (m3 : PySem.W.nsIn K mainGlobals "BadValue" = some (some (.ref e3)))
    (m4 : PySem.W.nsIn K mainGlobals "TooLong" = some (some (.ref e4)))
    (m5 : PySem.W.nsIn K mainGlobals "NoTime" = some (some (.ref e5)))
    (m6 : PySem.W.nsIn K mainGlobals "BadPiece" = some (some (.ref e6)))
    (m7 : PySem.W.nsIn K mainGlobals "Twice" = some (some (.ref e7)))
    (m8 : PySem.W.nsIn K mainGlobals "NoLetter" = some (some (.ref e8)))
    (m9 : PySem.W.nsIn K mainGlobals "NoFolder" = some (some (.ref e9)))
    (m10 : PySem.W.nsIn K mainGlobals "BadLine" = some (some (.ref e10)))
    (m11 : PySem.W.nsIn K mainGlobals "Wrong" = some (some (.ref e11)))
    (m12 : PySem.W.nsIn K mainGlobals "BadRow" = some (some (.ref e12)))
    (m13 : PySem.W.nsIn K mainGlobals "BadSixty" = some (some (.ref e13)))
    (m14 : PySem.W.nsIn K mainGlobals "BadSixteens" = some (some (.ref e14)))
    (m15 : PySem.W.nsIn K mainGlobals "BadTime" = some (some (.ref e15)))
    (m16 : PySem.W.nsIn K mainGlobals "BadPeople" = some (some (.ref e16)))
    (m17 : PySem.W.nsIn K mainGlobals "BadHeader" = some (some (.ref e17)))
    (m18 : PySem.W.nsIn K mainGlobals "BadBody" = some (some (.ref e18)))
    (m19 : PySem.W.nsIn K mainGlobals "BadRule" = some (some (.ref e19)))
    (ic0 : PySem.W.isClsIn K e0 = true) (tp0 : PySem.W.typeIn K (.ref e0) = some (.type "type"))
    (ic1 : PySem.W.isClsIn K e1 = true) (tp1 : PySem.W.typeIn K (.ref e1) = some (.type "type"))
    (ic2 : PySem.W.isClsIn K e2 = true) (tp2 : PySem.W.typeIn K (.ref e2) = some (.type "type"))
    (ic3 : PySem.W.isClsIn K e3 = true) (tp3 : PySem.W.typeIn K (.ref e3) = some (.type "type"))
    (ic4 : PySem.W.isClsIn K e4 = true) (tp4 : PySem.W.typeIn K (.ref e4) = some (.type "type"))
    (ic5 : PySem.W.isClsIn K e5 = true) (tp5 : PySem.W.typeIn K (.ref e5) = some (.type "type"))
    (ic6 : PySem.W.isClsIn K e6 = true) (tp6 : PySem.W.typeIn K (.ref e6) = some (.type "type"))
    (ic7 : PySem.W.isClsIn K e7 = true) (tp7 : PySem.W.typeIn K (.ref e7) = some (.type "type"))
    (ic8 : PySem.W.isClsIn K e8 = true) (tp8 : PySem.W.typeIn K (.ref e8) = some (.type "type"))
    (ic9 : PySem.W.isClsIn K e9 = true) (tp9 : PySem.W.typeIn K (.ref e9) = some (.type "type"))
    (ic10 : PySem.W.isClsIn K e10 = true) (tp10 : PySem.W.typeIn K (.ref e10) = some (.type "type"))
    (ic11 : PySem.W.isClsIn K e11 = true) (tp11 : PySem.W.typeIn K (.ref e11) = some (.type "type"))
    (ic12 : PySem.W.isClsIn K e12 = true) (tp12 : PySem.W.typeIn K (.ref e12) = some (.type "type"))
    (ic13 : PySem.W.isClsIn K e13 = true) (tp13 : PySem.W.typeIn K (.ref e13) = some (.type "type"))
    (ic14 : PySem.W.isClsIn K e14 = true) (tp14 : PySem.W.typeIn K (.ref e14) = some (.type "type"))
    (ic15 : PySem.W.isClsIn K e15 = true) (tp15 : PySem.W.typeIn K (.ref e15) = some (.type "type"))
    (ic16 : PySem.W.isClsIn K e16 = true) (tp16 : PySem.W.typeIn K (.ref e16) = some (.type "type"))
    (ic17 : PySem.W.isClsIn K e17 = true) (tp17 : PySem.W.typeIn K (.ref e17) = some (.type "type"))
    (ic18 : PySem.W.isClsIn K e18 = true) (tp18 : PySem.W.typeIn K (.ref e18) = some (.type "type"))
    (ic19 : PySem.W.isClsIn K e19 = true) (tp19 : PySem.W.typeIn K (.ref e19) = some (.type "type"))
    (hb0 : PySem.W.subIn K (.ref e0) (.type "BaseException") = some true)
    (kp2 : PySem.W.keepIn K (.ref e2) = true) (sb2 : PySem.W.subIn K (.ref e2) (.type "BaseException") = some true) (ty2 : PySem.W.typeIn K (.ref e2) = some (.type "type")) (x0_2 : PySem.W.findIn K (.ref e2) "__getattribute__" = some (some (.builtin "BaseException.__getattribute__"))) (x1_2 : PySem.W.findIn K (.ref e2) "__getattr__" = some none) (x2_2 : PySem.W.subIn K (.ref e2) (.type "BaseException") = some true) (x3_2 : PySem.W.hasDictIn K e2 = true) (x4_2 : PySem.W.findIn K (.ref e2) "__class__" = some (some (.builtin "object.__class__"))) (x5_2 : PySem.W.specialIn K (.builtin "object.__class__") "__get__" = some (some (.builtin "getset_descriptor.__get__"))) (x6_2 : PySem.W.takesIn K (.builtin "object.__class__") = some true) (x7_2 : PySem.W.mroIn K e2 (.type "object") = some true) (fi2 : PySem.W.subIn K (.ref e2) (.ref e0) = some true) (ba2 : PySem.W.subIn K (.ref e2) (.type "ValueError") = some true) (ki2_0 : PySem.W.subIn K (.ref e2) (.ref e1) = some false) (nq2_0 : (e2 == e1) = false) (ki2_1 : PySem.W.subIn K (.ref e2) (.ref e2) = some true) (ki2_2 : PySem.W.subIn K (.ref e2) (.ref e3) = some false) (nq2_2 : (e2 == e3) = false) (ki2_3 : PySem.W.subIn K (.ref e2) (.ref e4) = some false) (nq2_3 : (e2 == e4) = false) (ki2_4 : PySem.W.subIn K (.ref e2) (.ref e5) = some false) (nq2_4 : (e2 == e5) = false) (ki2_5 : PySem.W.subIn K (.ref e2) (.ref e6) = some false) (nq2_5 : (e2 == e6) = false) (ki2_6 : PySem.W.subIn K (.ref e2) (.ref e7) = some false) (nq2_6 : (e2 == e7) = false) (ki2_7 : PySem.W.subIn K (.ref e2) (.ref e8) = some false) (nq2_7 : (e2 == e8) = false) (ki2_8 : PySem.W.subIn K (.ref e2) (.ref e9) = some false) (nq2_8 : (e2 == e9) = false) (ki2_9 : PySem.W.subIn K (.ref e2) (.ref e10) = some false) (nq2_9 : (e2 == e10) = false) (ki2_10 : PySem.W.subIn K (.ref e2) (.ref e11) = some false) (nq2_10 : (e2 == e11) = false) (ki2_11 : PySem.W.subIn K (.ref e2) (.ref e12) = some false) (nq2_11 : (e2 == e12) = false) (ki2_12 : PySem.W.subIn K (.ref e2) (.ref e13) = some false) (nq2_12 : (e2 == e13) = false) (ki2_13 : PySem.W.subIn K (.ref e2) (.ref e14) = some false) (nq2_13 : (e2 == e14) = false) (ki2_14 : PySem.W.subIn K (.ref e2) (.ref e15) = some false) (nq2_14 : (e2 == e15) = false) (ki2_15 : PySem.W.subIn K (.ref e2) (.ref e16) = some false) (nq2_15 : (e2 == e16) = false) (ki2_16 : PySem.W.subIn K (.ref e2) (.ref e17) = some false) (nq2_16 : (e2 == e17) = false) (ki2_17 : PySem.W.subIn K (.ref e2) (.ref e18) = some false) (nq2_17 : (e2 == e18) = false) (ki2_18 : PySem.W.subIn K (.ref e2) (.ref e19) = some false) (nq2_18 : (e2 == e19) = false)
    (kp3 : PySem.W.keepIn K (.ref e3) = true) (sb3 : PySem.W.subIn K (.ref e3) (.type "BaseException") = some true) (ty3 : PySem.W.typeIn K (.ref e3) = some (.type "type")) (x0_3 : PySem.W.findIn K (.ref e3) "__getattribute__" = some (some (.builtin "BaseException.__getattribute__"))) (x1_3 : PySem.W.findIn K (.ref e3) "__getattr__" = some none) (x2_3 : PySem.W.subIn K (.ref e3) (.type "BaseException") = some true) (x3_3 : PySem.W.hasDictIn K e3 = true) (x4_3 : PySem.W.findIn K (.ref e3) "__class__" = some (some (.builtin "object.__class__"))) (x5_3 : PySem.W.specialIn K (.builtin "object.__class__") "__get__" = some (some (.builtin "getset_descriptor.__get__"))) (x6_3 : PySem.W.takesIn K (.builtin "object.__class__") = some true) (x7_3 : PySem.W.mroIn K e3 (.type "object") = some true) (fi3 : PySem.W.subIn K (.ref e3) (.ref e0) = some true) (ba3 : PySem.W.subIn K (.ref e3) (.type "ValueError") = some true) (ki3_0 : PySem.W.subIn K (.ref e3) (.ref e1) = some false) (nq3_0 : (e3 == e1) = false) (ki3_1 : PySem.W.subIn K (.ref e3) (.ref e2) = some false) (nq3_1 : (e3 == e2) = false) (ki3_2 : PySem.W.subIn K (.ref e3) (.ref e3) = some true) (ki3_3 : PySem.W.subIn K (.ref e3) (.ref e4) = some false) (nq3_3 : (e3 == e4) = false) (ki3_4 : PySem.W.subIn K (.ref e3) (.ref e5) = some false) (nq3_4 : (e3 == e5) = false) (ki3_5 : PySem.W.subIn K (.ref e3) (.ref e6) = some false) (nq3_5 : (e3 == e6) = false) (ki3_6 : PySem.W.subIn K (.ref e3) (.ref e7) = some false) (nq3_6 : (e3 == e7) = false) (ki3_7 : PySem.W.subIn K (.ref e3) (.ref e8) = some false) (nq3_7 : (e3 == e8) = false) (ki3_8 : PySem.W.subIn K (.ref e3) (.ref e9) = some false) (nq3_8 : (e3 == e9) = false) (ki3_9 : PySem.W.subIn K (.ref e3) (.ref e10) = some false) (nq3_9 : (e3 == e10) = false) (ki3_10 : PySem.W.subIn K (.ref e3) (.ref e11) = some false) (nq3_10 : (e3 == e11) = false) (ki3_11 : PySem.W.subIn K (.ref e3) (.ref e12) = some false) (nq3_11 : (e3 == e12) = false) (ki3_12 : PySem.W.subIn K (.ref e3) (.ref e13) = some false) (nq3_12 : (e3 == e13) = false) (ki3_13 : PySem.W.subIn K (.ref e3) (.ref e14) = some false) (nq3_13 : (e3 == e14) = false) (ki3_14 : PySem.W.subIn K (.ref e3) (.ref e15) = some false) (nq3_14 : (e3 == e15) = false) (ki3_15 : PySem.W.subIn K (.ref e3) (.ref e16) = some false) (nq3_15 : (e3 == e16) = false) (ki3_16 : PySem.W.subIn K (.ref e3) (.ref e17) = some false) (nq3_16 : (e3 == e17) = false) (ki3_17 : PySem.W.subIn K (.ref e3) (.ref e18) = some false) (nq3_17 : (e3 == e18) = false) (ki3_18 : PySem.W.subIn K (.ref e3) (.ref e19) = some false) (nq3_18 : (e3 == e19) = false)
    (kp4 : PySem.W.keepIn K (.ref e4) = true) (sb4 : PySem.W.subIn K (.ref e4) (.type "BaseException") = some true) (ty4 : PySem.W.typeIn K (.ref e4) = some (.type "type")) (x0_4 : PySem.W.findIn K (.ref e4) "__getattribute__" = some (some (.builtin "BaseException.__getattribute__"))) (x1_4 : PySem.W.findIn K (.ref e4) "__getattr__" = some none) (x2_4 : PySem.W.subIn K (.ref e4) (.type "BaseException") = some true) (x3_4 : PySem.W.hasDictIn K e4 = true) (x4_4 : PySem.W.findIn K (.ref e4) "__class__" = some (some (.builtin "object.__class__"))) (x5_4 : PySem.W.specialIn K (.builtin "object.__class__") "__get__" = some (some (.builtin "getset_descriptor.__get__"))) (x6_4 : PySem.W.takesIn K (.builtin "object.__class__") = some true) (x7_4 : PySem.W.mroIn K e4 (.type "object") = some true) (fi4 : PySem.W.subIn K (.ref e4) (.ref e0) = some true) (ba4 : PySem.W.subIn K (.ref e4) (.type "ValueError") = some true) (ki4_0 : PySem.W.subIn K (.ref e4) (.ref e1) = some false) (nq4_0 : (e4 == e1) = false) (ki4_1 : PySem.W.subIn K (.ref e4) (.ref e2) = some false) (nq4_1 : (e4 == e2) = false) (ki4_2 : PySem.W.subIn K (.ref e4) (.ref e3) = some false) (nq4_2 : (e4 == e3) = false) (ki4_3 : PySem.W.subIn K (.ref e4) (.ref e4) = some true) (ki4_4 : PySem.W.subIn K (.ref e4) (.ref e5) = some false) (nq4_4 : (e4 == e5) = false) (ki4_5 : PySem.W.subIn K (.ref e4) (.ref e6) = some false) (nq4_5 : (e4 == e6) = false) (ki4_6 : PySem.W.subIn K (.ref e4) (.ref e7) = some false) (nq4_6 : (e4 == e7) = false) (ki4_7 : PySem.W.subIn K (.ref e4) (.ref e8) = some false) (nq4_7 : (e4 == e8) = false) (ki4_8 : PySem.W.subIn K (.ref e4) (.ref e9) = some false) (nq4_8 : (e4 == e9) = false) (ki4_9 : PySem.W.subIn K (.ref e4) (.ref e10) = some false) (nq4_9 : (e4 == e10) = false) (ki4_10 : PySem.W.subIn K (.ref e4) (.ref e11) = some false) (nq4_10 : (e4 == e11) = false) (ki4_11 : PySem.W.subIn K (.ref e4) (.ref e12) = some false) (nq4_11 : (e4 == e12) = false) (ki4_12 : PySem.W.subIn K (.ref e4) (.ref e13) = some false) (nq4_12 : (e4 == e13) = false) (ki4_13 : PySem.W.subIn K (.ref e4) (.ref e14) = some false) (nq4_13 : (e4 == e14) = false) (ki4_14 : PySem.W.subIn K (.ref e4) (.ref e15) = some false) (nq4_14 : (e4 == e15) = false) (ki4_15 : PySem.W.subIn K (.ref e4) (.ref e16) = some false) (nq4_15 : (e4 == e16) = false) (ki4_16 : PySem.W.subIn K (.ref e4) (.ref e17) = some false) (nq4_16 : (e4 == e17) = false) (ki4_17 : PySem.W.subIn K (.ref e4) (.ref e18) = some false) (nq4_17 : (e4 == e18) = false) (ki4_18 : PySem.W.subIn K (.ref e4) (.ref e19) = some false) (nq4_18 : (e4 == e19) = false)
    {fH ccH cdaH TH : Addr} {r0 r1 r2 r3 r4 r5 r6 r7 r8 r9 r10 r11 r12 r13 r14 r15 r16 : Pos} {u0h : Nat} {och kvh doch pmh cth cclh clh octh : Value} {odh anh cddh cldh odth : Option Addr} {slh csh cslh slth : Array (Option Value)} {vsh : Array Value} {dvh : Value} {fileh : Str} {tfh : Tok} {mh : Nat}
    (yi : PySem.W.findIn K (.ref e0) "__init__" = some (some (.ref fH)))
    (yl : K.lookup fH = some ⟨och, odh, .func (PySem.W.ksFn "__init__" "HouseError.__init__" (hA ⟨r0, r1, r2, r3, r4, r5, r6, r7, r8, r9, r10, r11, r12, r13, r14, r15, r16, u0h⟩) (hB ⟨r0, r1, r2, r3, r4, r5, r6, r7, r8, r9, r10, r11, r12, r13, r14, r15, r16, u0h⟩) hS (.ref TH) kvh doch pmh anh (.ref cdaH) cth ccH), slh⟩)
    (yc : PySem.W.codeIn K (.ref cdaH) "HouseError.__init__" = true) (yq1 : (r5.endLine == r6.line) = true) (yq2 : (r14.endLine == r15.line) = true) (yT : K.lookup TH = some ⟨octh, odth, .seq #[dvh] mh, slth⟩)
    (yd : K.lookup cdaH = some ⟨cclh, cddh, .fields vsh, csh⟩) (ye : vsh[2]? = some (.str fileh tfh)) (yf : ((l.prog.main.file : Str) == fileh) = true) (yg : K.lookup ccH = some ⟨clh, cldh, .cell (some (.ref e0)), cslh⟩)
    (yy : PySem.W.typeIn K (.ref fH) = some (.type "function")) (yfn : PySem.W.fnIn K fH = true) (yj : PySem.W.nsIn K mainGlobals "super" = some none) (yk : (l.prog.main.scope.names.lookup ("super" : Str)).isSome = false) (ym : PySem.W.nsIn K cStatics "thirdparty.any" = some none)
    (yj2 : PySem.W.findIn K (.ref e2) "__init__" = some (some (.ref fH)))
    {odn2 : Option Addr} {cdn2 : ClassData} {sln2 : Array (Option Value)} {nmn2 : Str} {tkn2 : Tok}
    (yx2 : PySem.W.excInitIn K e2 bmV "ValueError.__new__" = true) (yo2 : PySem.W.excOver K e2 bmV = true) (ys2 : PySem.W.findIn K (.ref e2) "__setattr__" = some (some (.builtin "object.__setattr__"))) (yt2 : PySem.W.takerIn K e2 "kind" = some none) (yv2 : PySem.W.mroIn K e2 (.ref e0) = some true) (yw2 : PySem.W.ks_superIn K e2 e0 "__init__" = some (some (.builtin "ValueError.__init__"))) (yr2 : PySem.W.readsIn K e2 (.type "type") = true) (yn2 : PySem.W.findCls K (.ref e2) (.type "type") "__name__" = some (.get (.builtin "getset_descriptor.__get__") (.builtin "type.__name__") (.ref e2) (.type "type"))) (yz2 : K.lookup e2 = some ⟨.type "type", odn2, .cls cdn2, sln2⟩) (yza2 : sln2[2]? = some (some (.str nmn2 tkn2))) (yzb2 : nmn2.length ≤ 5592405) (yzc2 : Txt.lower nmn2 = ("badname" : Str))
    (yj3 : PySem.W.findIn K (.ref e3) "__init__" = some (some (.ref fH)))
    {odn3 : Option Addr} {cdn3 : ClassData} {sln3 : Array (Option Value)} {nmn3 : Str} {tkn3 : Tok}
    (yx3 : PySem.W.excInitIn K e3 bmV "ValueError.__new__" = true) (yo3 : PySem.W.excOver K e3 bmV = true) (ys3 : PySem.W.findIn K (.ref e3) "__setattr__" = some (some (.builtin "object.__setattr__"))) (yt3 : PySem.W.takerIn K e3 "kind" = some none) (yv3 : PySem.W.mroIn K e3 (.ref e0) = some true) (yw3 : PySem.W.ks_superIn K e3 e0 "__init__" = some (some (.builtin "ValueError.__init__"))) (yr3 : PySem.W.readsIn K e3 (.type "type") = true) (yn3 : PySem.W.findCls K (.ref e3) (.type "type") "__name__" = some (.get (.builtin "getset_descriptor.__get__") (.builtin "type.__name__") (.ref e3) (.type "type"))) (yz3 : K.lookup e3 = some ⟨.type "type", odn3, .cls cdn3, sln3⟩) (yza3 : sln3[2]? = some (some (.str nmn3 tkn3))) (yzb3 : nmn3.length ≤ 5592405) (yzc3 : Txt.lower nmn3 = ("badvalue" : Str))
    (yj4 : PySem.W.findIn K (.ref e4) "__init__" = some (some (.ref fH)))
    {odn4 : Option Addr} {cdn4 : ClassData} {sln4 : Array (Option Value)} {nmn4 : Str} {tkn4 : Tok}
    (yx4 : PySem.W.excInitIn K e4 bmV "ValueError.__new__" = true) (yo4 : PySem.W.excOver K e4 bmV = true) (ys4 : PySem.W.findIn K (.ref e4) "__setattr__" = some (some (.builtin "object.__setattr__"))) (yt4 : PySem.W.takerIn K e4 "kind" = some none) (yv4 : PySem.W.mroIn K e4 (.ref e0) = some true) (yw4 : PySem.W.ks_superIn K e4 e0 "__init__" = some (some (.builtin "ValueError.__init__"))) (yr4 : PySem.W.readsIn K e4 (.type "type") = true) (yn4 : PySem.W.findCls K (.ref e4) (.type "type") "__name__" = some (.get (.builtin "getset_descriptor.__get__") (.builtin "type.__name__") (.ref e4) (.type "type"))) (yz4 : K.lookup e4 = some ⟨.type "type", odn4, .cls cdn4, sln4⟩) (yza4 : sln4[2]? = some (some (.str nmn4 tkn4))) (yzb4 : nmn4.length ≤ 5592405) (yzc4 : Txt.lower nmn4 = ("toolong" : Str))
    (z0 : PySem.W.nsIn K mainGlobals "ValueError" = some none)
    (z1 : PySem.W.nsIn K mainGlobals "all" = some none)
    (z2 : PySem.W.nsIn K mainGlobals "any" = some none)
    (z3 : PySem.W.nsIn K mainGlobals "enumerate" = some none)
    (z4 : PySem.W.nsIn K mainGlobals "int" = some none)
    (z5 : PySem.W.nsIn K mainGlobals "isinstance" = some none)
    (z6 : PySem.W.nsIn K mainGlobals "len" = some none)
    (z7 : PySem.W.nsIn K mainGlobals "list" = some none)
    (z8 : PySem.W.nsIn K mainGlobals "max" = some none)
    (z9 : PySem.W.nsIn K mainGlobals "min" = some none)
    (z10 : PySem.W.nsIn K mainGlobals "ord" = some none)
    (z11 : PySem.W.nsIn K mainGlobals "range" = some none)
    (z12 : PySem.W.nsIn K mainGlobals "str" = some none)
    (v0 : PySem.W.nsIn K mainGlobals "PERCENT" = some (some (.int 37 t1)))
    (v1 : PySem.W.nsIn K mainGlobals "SMALL" = some (some (.str SMALL t2)))
    (v2 : PySem.W.nsIn K mainGlobals "ROW_SIGNS" = some (some (.int 60 t3)))
    (v3 : PySem.W.nsIn K mainGlobals "HEADER_WORDS" = some (some (.int 3 t4)))
    (v4 : PySem.W.nsIn K mainGlobals "HEADER_LETTERS" = some (some (.int 8 t5))) :
    ∃ fd : FuncData, (∀ (s : Shared) (v : Value), BindsTo s fd ⟨[v], []⟩ [("_law_script", v)]) ∧ ∀ base : Heap, K.In base → base.Ns mainGlobals mg → FnOk l.prog w K mg base CX0 6 fa fd ["_law_script"] (spLaw K) := by
  have e := hfa.symm.trans (PySem.W.mg_of X G a24)
  cases e
  have F0 := fun_mk (st := s__law_mixed) l0 c0 k0
  have b0 := F0.binds (ps := ["_law_cell_here", "_law_k"]) fun _ _ _ _ _ _ us hl => match us, hl with | [_, _], _ => rfl
  have F1 := fun_mk (st := s__law_next) l1 c1 k1
  have b1 := F1.binds (ps := ["_law_number", "_law_k"]) fun _ _ _ _ _ _ us hl => match us, hl with | [_, _], _ => rfl
  have F2 := fun_mk (st := s__law_name) l2 c2 k2
  have b2 := F2.binds (ps := ["_law_number"]) fun _ _ _ _ _ _ us hl => match us, hl with | [_], _ => rfl
  have F3 := fun_mk (st := s__law_signs) l3 c3 k3
  have b3 := F3.binds (ps := []) fun _ _ _ _ _ _ us hl => match us, hl with | [], _ => rfl
  have F4 := fun_mk (st := s__law_word) l4 c4 k4
  have b4 := F4.binds (ps := ["_law_number", "_law_size"]) fun _ _ _ _ _ _ us hl => match us, hl with | [_, _], _ => rfl
  have F5 := fun_mk (st := s__law_value) l5 c5 k5
  have b5 := F5.binds (ps := ["_law_number", "_law_name_here"]) fun _ _ _ _ _ _ us hl => match us, hl with | [_, _], _ => rfl
  have F6 := fun_mk (st := s_is_small_word) l6 c6 k6
  have b6 := F6.binds (ps := ["text", "most"]) fun _ _ _ _ _ _ us hl => match us, hl with | [_, _], _ => rfl
  have F7 := fun_mk (st := s_is_header_name) l7 c7 k7
  have b7 := F7.binds (ps := ["thing"]) fun _ _ _ _ _ _ us hl => match us, hl with | [_], _ => rfl
  have F8 := fun_mk (st := s_is_sign) l8 c8 k8
  have b8 := F8.binds (ps := ["sign"]) fun _ _ _ _ _ _ us hl => match us, hl with | [_], _ => rfl
  have F9 := fun_mk (st := s_is_value) l9 c9 k9
  have b9 := F9.binds (ps := ["thing"]) fun _ _ _ _ _ _ us hl => match us, hl with | [_], _ => rfl
  have F10 := fun_mk (st := s_great_name) l10 c10 k10
  have b10 := F10.binds (ps := ["name"]) fun _ _ _ _ _ _ us hl => match us, hl with | [_], _ => rfl
  have F11 := fun_mk (st := s_goes_into_rows) l11 c11 k11
  have b11 := F11.binds (ps := ["word"]) fun _ _ _ _ _ _ us hl => match us, hl with | [_], _ => rfl
  have F12 := fun_mk (st := s_folded) l12 c12 k12
  have b12 := F12.binds (ps := ["name", "value"]) fun _ _ _ _ _ _ us hl => match us, hl with | [_, _], _ => rfl
  have F13 := fun_mk (st := s_no_text_row) l13 c13 k13
  have b13 := F13.binds (ps := ["rows"]) fun _ _ _ _ _ _ us hl => match us, hl with | [_], _ => rfl
  have F14 := fun_mk (st := s_is_letter) l14 c14 k14
  have b14 := F14.binds (ps := ["sign"]) fun _ _ _ _ _ _ us hl => match us, hl with | [_], _ => rfl
  have F15 := fun_mk (st := s_name_signs) l15 c15 k15
  have b15 := F15.binds (ps := ["row"]) fun _ _ _ _ _ _ us hl => match us, hl with | [_], _ => rfl
  have F16 := fun_mk (st := s_wrong_sign_place) l16 c16 k16
  have b16 := F16.binds (ps := ["row"]) fun _ _ _ _ _ _ us hl => match us, hl with | [_], _ => rfl
  have F17 := fun_mk (st := s_wrong_row_place) l17 c17 k17
  have b17 := F17.binds (ps := ["row", "behind"]) fun _ _ _ _ _ _ us hl => match us, hl with | [_, _], _ => rfl
  have F18 := fun_mk (st := s_refuse_wrong_rows) l18 c18 k18
  have b18 := F18.binds (ps := ["rows"]) fun _ _ _ _ _ _ us hl => match us, hl with | [_], _ => rfl
  have F19 := fun_mk (st := s_unfolded) l19 c19 k19
  have b19 := F19.binds (ps := ["rows"]) fun _ _ _ _ _ _ us hl => match us, hl with | [_], _ => rfl
  have F20 := fun_mk (st := s__law_cell) l20 c20 k20
  have b20 := F20.binds (ps := ["_law_script", "_law_k"]) fun _ _ _ _ _ _ us hl => match us, hl with | [_, _], _ => rfl
  have F21 := fun_mk (st := s__law_kind) l21 c21 k21
  have b21 := F21.binds (ps := ["_law_e"]) fun _ _ _ _ _ _ us hl => match us, hl with | [_], _ => rfl
  have F22 := fun_mk (st := s__law_told) l22 c22 k22
  have b22 := F22.binds (ps := ["_law_name_here", "_law_value_here"]) fun _ _ _ _ _ _ us hl => match us, hl with | [_, _], _ => rfl
  have F23 := fun_mk (st := s__law_refusals) l23 c23 k23
  have b23 := F23.binds (ps := ["_law_script"]) fun _ _ _ _ _ _ us hl => match us, hl with | [_], _ => rfl
  have F24 := fun_mk (st := s_law) l24 c24 k24
  have T : Tx mg (fun i => [t1, t2, t3, t4, t5].getD i t1) := ⟨PySem.W.mg_none_of X G z0, PySem.W.mg_none_of X G z1, PySem.W.mg_none_of X G z2, PySem.W.mg_none_of X G z3, PySem.W.mg_none_of X G z4, PySem.W.mg_none_of X G z5, PySem.W.mg_none_of X G z6, PySem.W.mg_none_of X G z7, PySem.W.mg_none_of X G z8, PySem.W.mg_none_of X G z9, PySem.W.mg_none_of X G z10, PySem.W.mg_none_of X G z11, PySem.W.mg_none_of X G z12, PySem.W.mg_of X G v0, PySem.W.mg_of X G v1, PySem.W.mg_of X G v2, PySem.W.mg_of X G v3, PySem.W.mg_of X G v4⟩
  have E : Ex K mg (fun i => [e0, e1, e2, e3, e4, e5, e6, e7, e8, e9, e10, e11, e12, e13, e14, e15, e16, e17, e18, e19].getD i e0) := ⟨PySem.W.mg_of X G m0, PySem.W.mg_of X G m1, PySem.W.mg_of X G m2, PySem.W.mg_of X G m3, PySem.W.mg_of X G m4, PySem.W.mg_of X G m5, PySem.W.mg_of X G m6, PySem.W.mg_of X G m7, PySem.W.mg_of X G m8, PySem.W.mg_of X G m9, PySem.W.mg_of X G m10, PySem.W.mg_of X G m11, PySem.W.mg_of X G m12, PySem.W.mg_of X G m13, PySem.W.mg_of X G m14, PySem.W.mg_of X G m15, PySem.W.mg_of X G m16, PySem.W.mg_of X G m17, PySem.W.mg_of X G m18, PySem.W.mg_of X G m19, ⟨⟨x0_2, x1_2, x2_2, x3_2, x4_2, x5_2, x6_2, x7_2⟩, exm_ref hb0 ic0 tp0 fi2, kit_base ba2⟩, ⟨rfl, fun j hj => match j, hj with | 0, _ => kit_ref ic1 tp1 ki2_0 (.inl nq2_0) | 1, _ => kit_ref ic2 tp2 ki2_1 (.inr rfl) | 2, _ => kit_ref ic3 tp3 ki2_2 (.inl nq2_2) | 3, _ => kit_ref ic4 tp4 ki2_3 (.inl nq2_3) | 4, _ => kit_ref ic5 tp5 ki2_4 (.inl nq2_4) | 5, _ => kit_ref ic6 tp6 ki2_5 (.inl nq2_5) | 6, _ => kit_ref ic7 tp7 ki2_6 (.inl nq2_6) | 7, _ => kit_ref ic8 tp8 ki2_7 (.inl nq2_7) | 8, _ => kit_ref ic9 tp9 ki2_8 (.inl nq2_8) | 9, _ => kit_ref ic10 tp10 ki2_9 (.inl nq2_9) | 10, _ => kit_ref ic11 tp11 ki2_10 (.inl nq2_10) | 11, _ => kit_ref ic12 tp12 ki2_11 (.inl nq2_11) | 12, _ => kit_ref ic13 tp13 ki2_12 (.inl nq2_12) | 13, _ => kit_ref ic14 tp14 ki2_13 (.inl nq2_13) | 14, _ => kit_ref ic15 tp15 ki2_14 (.inl nq2_14) | 15, _ => kit_ref ic16 tp16 ki2_15 (.inl nq2_15) | 16, _ => kit_ref ic17 tp17 ki2_16 (.inl nq2_16) | 17, _ => kit_ref ic18 tp18 ki2_17 (.inl nq2_17) | 18, _ => kit_ref ic19 tp19 ki2_18 (.inl nq2_18) | n + 19, h => absurd h (by omega)⟩, ⟨⟨x0_3, x1_3, x2_3, x3_3, x4_3, x5_3, x6_3, x7_3⟩, exm_ref hb0 ic0 tp0 fi3, kit_base ba3⟩, ⟨rfl, fun j hj => match j, hj with | 0, _ => kit_ref ic1 tp1 ki3_0 (.inl nq3_0) | 1, _ => kit_ref ic2 tp2 ki3_1 (.inl nq3_1) | 2, _ => kit_ref ic3 tp3 ki3_2 (.inr rfl) | 3, _ => kit_ref ic4 tp4 ki3_3 (.inl nq3_3) | 4, _ => kit_ref ic5 tp5 ki3_4 (.inl nq3_4) | 5, _ => kit_ref ic6 tp6 ki3_5 (.inl nq3_5) | 6, _ => kit_ref ic7 tp7 ki3_6 (.inl nq3_6) | 7, _ => kit_ref ic8 tp8 ki3_7 (.inl nq3_7) | 8, _ => kit_ref ic9 tp9 ki3_8 (.inl nq3_8) | 9, _ => kit_ref ic10 tp10 ki3_9 (.inl nq3_9) | 10, _ => kit_ref ic11 tp11 ki3_10 (.inl nq3_10) | 11, _ => kit_ref ic12 tp12 ki3_11 (.inl nq3_11) | 12, _ => kit_ref ic13 tp13 ki3_12 (.inl nq3_12) | 13, _ => kit_ref ic14 tp14 ki3_13 (.inl nq3_13) | 14, _ => kit_ref ic15 tp15 ki3_14 (.inl nq3_14) | 15, _ => kit_ref ic16 tp16 ki3_15 (.inl nq3_15) | 16, _ => kit_ref ic17 tp17 ki3_16 (.inl nq3_16) | 17, _ => kit_ref ic18 tp18 ki3_17 (.inl nq3_17) | 18, _ => kit_ref ic19 tp19 ki3_18 (.inl nq3_18) | n + 19, h => absurd h (by omega)⟩, ⟨⟨x0_4, x1_4, x2_4, x3_4, x4_4, x5_4, x6_4, x7_4⟩, exm_ref hb0 ic0 tp0 fi4, kit_base ba4⟩, ⟨rfl, fun j hj => match j, hj with | 0, _ => kit_ref ic1 tp1 ki4_0 (.inl nq4_0) | 1, _ => kit_ref ic2 tp2 ki4_1 (.inl nq4_1) | 2, _ => kit_ref ic3 tp3 ki4_2 (.inl nq4_2) | 3, _ => kit_ref ic4 tp4 ki4_3 (.inr rfl) | 4, _ => kit_ref ic5 tp5 ki4_4 (.inl nq4_4) | 5, _ => kit_ref ic6 tp6 ki4_5 (.inl nq4_5) | 6, _ => kit_ref ic7 tp7 ki4_6 (.inl nq4_6) | 7, _ => kit_ref ic8 tp8 ki4_7 (.inl nq4_7) | 8, _ => kit_ref ic9 tp9 ki4_8 (.inl nq4_8) | 9, _ => kit_ref ic10 tp10 ki4_9 (.inl nq4_9) | 10, _ => kit_ref ic11 tp11 ki4_10 (.inl nq4_10) | 11, _ => kit_ref ic12 tp12 ki4_11 (.inl nq4_11) | 12, _ => kit_ref ic13 tp13 ki4_12 (.inl nq4_12) | 13, _ => kit_ref ic14 tp14 ki4_13 (.inl nq4_13) | 14, _ => kit_ref ic15 tp15 ki4_14 (.inl nq4_14) | 15, _ => kit_ref ic16 tp16 ki4_15 (.inl nq4_15) | 16, _ => kit_ref ic17 tp17 ki4_16 (.inl nq4_16) | 17, _ => kit_ref ic18 tp18 ki4_17 (.inl nq4_17) | 18, _ => kit_ref ic19 tp19 ki4_18 (.inl nq4_18) | n + 19, h => absurd h (by omega)⟩⟩
  have WC_BadName : HeC l.prog K mg "BadName" e2 e0 fH ccH cdaH "badname" := ⟨(⟨yx2, yo2, ys2, yt2, x3_2, yy, ⟨_, _, _, _, _, _, _, _, ⟨r0, r1, r2, r3, r4, r5, r6, r7, r8, r9, r10, r11, r12, r13, r14, r15, r16, u0h⟩, _, _, _, _, yl, yc, yq1, yq2, yT, rfl⟩, ⟨_, _, _, _, _, _, yd, ye, yf⟩, ⟨_, _, _, yg⟩, ic0, yv2, yj, yk, ym, yw2, ba2, ⟨x0_2, x1_2, x2_2, x3_2, x4_2, x5_2, x6_2, x7_2⟩, ic2, yr2, yn2, ⟨_, _, _, _, _, yz2, yza2, yzb2, yzc2⟩⟩ : HeTxt l.prog K e2 e0 fH ccH cdaH "badname"), yj2, PySem.W.mg_of X G m2, kp2, sb2, ty2⟩
  have WC_BadValue : HeC l.prog K mg "BadValue" e3 e0 fH ccH cdaH "badvalue" := ⟨(⟨yx3, yo3, ys3, yt3, x3_3, yy, ⟨_, _, _, _, _, _, _, _, ⟨r0, r1, r2, r3, r4, r5, r6, r7, r8, r9, r10, r11, r12, r13, r14, r15, r16, u0h⟩, _, _, _, _, yl, yc, yq1, yq2, yT, rfl⟩, ⟨_, _, _, _, _, _, yd, ye, yf⟩, ⟨_, _, _, yg⟩, ic0, yv3, yj, yk, ym, yw3, ba3, ⟨x0_3, x1_3, x2_3, x3_3, x4_3, x5_3, x6_3, x7_3⟩, ic3, yr3, yn3, ⟨_, _, _, _, _, yz3, yza3, yzb3, yzc3⟩⟩ : HeTxt l.prog K e3 e0 fH ccH cdaH "badvalue"), yj3, PySem.W.mg_of X G m3, kp3, sb3, ty3⟩
  have WC_TooLong : HeC l.prog K mg "TooLong" e4 e0 fH ccH cdaH "toolong" := ⟨(⟨yx4, yo4, ys4, yt4, x3_4, yy, ⟨_, _, _, _, _, _, _, _, ⟨r0, r1, r2, r3, r4, r5, r6, r7, r8, r9, r10, r11, r12, r13, r14, r15, r16, u0h⟩, _, _, _, _, yl, yc, yq1, yq2, yT, rfl⟩, ⟨_, _, _, _, _, _, yd, ye, yf⟩, ⟨_, _, _, yg⟩, ic0, yv4, yj, yk, ym, yw4, ba4, ⟨x0_4, x1_4, x2_4, x3_4, x4_4, x5_4, x6_4, x7_4⟩, ic4, yr4, yn4, ⟨_, _, _, _, _, yz4, yza4, yzb4, yzc4⟩⟩ : HeTxt l.prog K e4 e0 fH ccH cdaH "toolong"), yj4, PySem.W.mg_of X G m4, kp4, sb4, ty4⟩
  refine ⟨PySem.W.fnOf "law" "law" (defArgs s_law) (defBody s_law) (defScope s_law) .none kV24 dc24 pm24 an24 cd24 ct24, fun s v => .of_eq rfl, fun base _ _ => ?_⟩
  have D0 : Def l.prog w K mg base "_law_mixed" 1 f0 _ ["_law_cell_here", "_law_k"] sp_mixed := ⟨ok_mixed F0, PySem.W.mg_of X G a0, F0.kp, b0⟩
  have D1 : Def l.prog w K mg base "_law_next" 1 f1 _ ["_law_number", "_law_k"] sp_next := ⟨ok_next F1, PySem.W.mg_of X G a1, F1.kp, b1⟩
  have D2 : Def l.prog w K mg base "_law_name" 2 f2 _ ["_law_number"] sp_lname := ⟨ok_lname F2 T D1, PySem.W.mg_of X G a2, F2.kp, b2⟩
  have D3 : Def l.prog w K mg base "_law_signs" 1 f3 _ [] sp_signs := ⟨ok_signs F3, PySem.W.mg_of X G a3, F3.kp, b3⟩
  have D4 : Def l.prog w K mg base "_law_word" 2 f4 _ ["_law_number", "_law_size"] sp_lword := ⟨ok_lword F4 T D1 D3, PySem.W.mg_of X G a4, F4.kp, b4⟩
  have D5 : Def l.prog w K mg base "_law_value" 3 f5 _ ["_law_number", "_law_name_here"] sp_lvalue := ⟨ok_lvalue F5 T D1 D4, PySem.W.mg_of X G a5, F5.kp, b5⟩
  have D6 : Def l.prog w K mg base "is_small_word" 1 f6 _ ["text", "most"] sp_small_word := ⟨ok_small_word F6 T, PySem.W.mg_of X G a6, F6.kp, b6⟩
  have D7 : Def l.prog w K mg base "is_header_name" 2 f7 _ ["thing"] (sp_header_name K) := ⟨ok_header_name F7 T D6, PySem.W.mg_of X G a7, F7.kp, b7⟩
  have D8 : Def l.prog w K mg base "is_sign" 1 f8 _ ["sign"] sp_is_sign := ⟨ok_is_sign F8 T, PySem.W.mg_of X G a8, F8.kp, b8⟩
  have D9 : Def l.prog w K mg base "is_value" 2 f9 _ ["thing"] (sp_value K) := ⟨ok_value F9 T D8, PySem.W.mg_of X G a9, F9.kp, b9⟩
  have D10 : Def l.prog w K mg base "great_name" 1 f10 _ ["name"] sp_great := ⟨ok_great F10, PySem.W.mg_of X G a10, F10.kp, b10⟩
  have D11 : Def l.prog w K mg base "goes_into_rows" 1 f11 _ ["word"] sp_goes := ⟨ok_goes F11 T, PySem.W.mg_of X G a11, F11.kp, b11⟩
  have D12 : Def l.prog w K mg base "folded" 3 f12 _ ["name", "value"] sp_folded := ⟨ok_folded F12 T D7 D9 D10 D11, PySem.W.mg_of X G a12, F12.kp, b12⟩
  have DX12 : DefX l.prog w K mg base "folded" 3 f12 _ ["name", "value"] (sp_foldedA (fun i => [e0, e1, e2, e3, e4, e5, e6, e7, e8, e9, e10, e11, e12, e13, e14, e15, e16, e17, e18, e19].getD i e0)) := ⟨fn_or (ok_foldedX (ca := (fun i => [e0, e1, e2, e3, e4, e5, e6, e7, e8, e9, e10, e11, e12, e13, e14, e15, e16, e17, e18, e19].getD i e0)) F12 T WC_BadName WC_BadValue WC_TooLong D7 D9 D10 D11) (fn_toX (ok_folded F12 T D7 D9 D10 D11)), PySem.W.mg_of X G a12, F12.kp, b12⟩
  have D13 : Def l.prog w K mg base "no_text_row" 1 f13 _ ["rows"] (sp_no_text K) := ⟨ok_no_text F13 T, PySem.W.mg_of X G a13, F13.kp, b13⟩
  have D14 : Def l.prog w K mg base "is_letter" 1 f14 _ ["sign"] sp_is_letter := ⟨ok_is_letter F14, PySem.W.mg_of X G a14, F14.kp, b14⟩
  have D15 : Def l.prog w K mg base "name_signs" 2 f15 _ ["row"] sp_name_signs := ⟨ok_name_signs F15 T D14, PySem.W.mg_of X G a15, F15.kp, b15⟩
  have D16 : Def l.prog w K mg base "wrong_sign_place" 2 f16 _ ["row"] sp_wsp := ⟨ok_wsp F16 T D8, PySem.W.mg_of X G a16, F16.kp, b16⟩
  have D17 : Def l.prog w K mg base "wrong_row_place" 3 f17 _ ["row", "behind"] sp_row_place := ⟨ok_row_place F17 T D15 D7 D16, PySem.W.mg_of X G a17, F17.kp, b17⟩
  have D18 : Def l.prog w K mg base "refuse_wrong_rows" 4 f18 _ ["rows"] (sp_refuse K) := ⟨ok_refuse F18 T D13 D17, PySem.W.mg_of X G a18, F18.kp, b18⟩
  have D19 : Def l.prog w K mg base "unfolded" 5 f19 _ ["rows"] (sp_unfolded K) := ⟨ok_unfolded F19 T D18, PySem.W.mg_of X G a19, F19.kp, b19⟩
  have D20 : Def l.prog w K mg base "_law_cell" 1 f20 _ ["_law_script", "_law_k"] (sp_cell K) := ⟨ok_cell F20 T, PySem.W.mg_of X G a20, F20.kp, b20⟩
  have D21 : Def l.prog w K mg base "_law_kind" 1 f21 _ ["_law_e"] (sp_kind K (fun i => [e0, e1, e2, e3, e4, e5, e6, e7, e8, e9, e10, e11, e12, e13, e14, e15, e16, e17, e18, e19].getD i e0)) := ⟨ok_kind (ca := (fun i => [e0, e1, e2, e3, e4, e5, e6, e7, e8, e9, e10, e11, e12, e13, e14, e15, e16, e17, e18, e19].getD i e0)) F21 T E, PySem.W.mg_of X G a21, F21.kp, b21⟩
  have D22 : Def l.prog w K mg base "_law_told" 4 f22 _ ["_law_name_here", "_law_value_here"] (sp_told (fun i => [e0, e1, e2, e3, e4, e5, e6, e7, e8, e9, e10, e11, e12, e13, e14, e15, e16, e17, e18, e19].getD i e0)) := ⟨ok_told (ca := (fun i => [e0, e1, e2, e3, e4, e5, e6, e7, e8, e9, e10, e11, e12, e13, e14, e15, e16, e17, e18, e19].getD i e0)) F22 T E DX12 D21, PySem.W.mg_of X G a22, F22.kp, b22⟩
  have D23 : Def l.prog w K mg base "_law_refusals" 5 f23 _ ["_law_script"] (sp_refusals K) := ⟨ok_refusals (ca := (fun i => [e0, e1, e2, e3, e4, e5, e6, e7, e8, e9, e10, e11, e12, e13, e14, e15, e16, e17, e18, e19].getD i e0)) F23 T D0 D20 D2 D4 D22 D12, PySem.W.mg_of X G a23, F23.kp, b23⟩
  exact ok_law F24 T D0 D2 D5 D12 D19 D23
end K04
open PySem PySem.W PyProof.Rows
set_option maxHeartbeats 0 in
theorem PySem.Challenge.cw_letterhouse_k04_whole_headers_there_and_holds : PySem.Challenge.rw_letterhouse_k04_whole_headers_there_and.Holds := by
  w_on; o_law; k_head; (case hw => w_witness2)
  k_fill
  refine L2.walk_of (l := PySem.Challenge.rw_letterhouse_k04_whole_headers_there_and) (n := 63) (k := 6) (x := "_law_script") (CX := fun _ => L2.CX0) (sp := fun w => K04.spLaw _) rfl (by decide) rfl ⟨rfl, by decide, by decide⟩ (fun w h Y => PySem.W.kIn_of Y) ?F (fun _ _ a ns hl _ hS => ⟨a, ns, rfl, hS, hl, fun _ => rfl⟩) (fun _ _ _ _ _ h => h)
  case F =>
    intro w mg fa h KX G hmg
    refine' K04.all_mk KX G hmg ?a0 ?l0 ?c0 ?k0 ?a1 ?l1 ?c1 ?k1 ?a2 ?l2 ?c2 ?k2 ?a3 ?l3 ?c3 ?k3 ?a4 ?l4 ?c4 ?k4 ?a5 ?l5 ?c5 ?k5 ?a6 ?l6 ?c6 ?k6 ?a7 ?l7 ?c7 ?k7 ?a8 ?l8 ?c8 ?k8 ?a9 ?l9 ?c9 ?k9 ?a10 ?l10 ?c10 ?k10 ?a11 ?l11 ?c11 ?k11 ?a12 ?l12 ?c12 ?k12 ?a13 ?l13 ?c13 ?k13 ?a14 ?l14 ?c14 ?k14 ?a15 ?l15 ?c15 ?k15 ?a16 ?l16 ?c16 ?k16 ?a17 ?l17 ?c17 ?k17 ?a18 ?l18 ?c18 ?k18 ?a19 ?l19 ?c19 ?k19 ?a20 ?l20 ?c20 ?k20 ?a21 ?l21 ?c21 ?k21 ?a22 ?l22 ?c22 ?k22 ?a23 ?l23 ?c23 ?k23 ?a24 ?l24 ?c24 ?k24 ?m0 ?m1 ?m2 ?m3 ?m4 ?m5 ?m6 ?m7 ?m8 ?m9 ?m10 ?m11 ?m12 ?m13 ?m14 ?m15 ?m16 ?m17 ?m18 ?m19 ?ic0 ?tp0 ?ic1 ?tp1 ?ic2 ?tp2 ?ic3 ?tp3 ?ic4 ?tp4 ?ic5 ?tp5 ?ic6 ?tp6 ?ic7 ?tp7 ?ic8 ?tp8 ?ic9 ?tp9 ?ic10 ?tp10 ?ic11 ?tp11 ?ic12 ?tp12 ?ic13 ?tp13 ?ic14 ?tp14 ?ic15 ?tp15 ?ic16 ?tp16 ?ic17 ?tp17 ?ic18 ?tp18 ?ic19 ?tp19 ?hb0 ?kp2 ?sb2 ?ty2 ?x0_2 ?x1_2 ?x2_2 ?x3_2 ?x4_2 ?x5_2 ?x6_2 ?x7_2 ?fi2 ?ba2 ?ki2_0 ?nq2_0 ?ki2_1 ?ki2_2 ?nq2_2 ?ki2_3 ?nq2_3 ?ki2_4 ?nq2_4 ?ki2_5 ?nq2_5 ?ki2_6 ?nq2_6 ?ki2_7 ?nq2_7 ?ki2_8 ?nq2_8 ?ki2_9 ?nq2_9 ?ki2_10 ?nq2_10 ?ki2_11 ?nq2_11 ?ki2_12 ?nq2_12 ?ki2_13 ?nq2_13 ?ki2_14 ?nq2_14 ?ki2_15 ?nq2_15 ?ki2_16 ?nq2_16 ?ki2_17 ?nq2_17 ?ki2_18 ?nq2_18 ?kp3 ?sb3 ?ty3 ?x0_3 ?x1_3 ?x2_3 ?x3_3 ?x4_3 ?x5_3 ?x6_3 ?x7_3 ?fi3 ?ba3 ?ki3_0 ?nq3_0 ?ki3_1 ?nq3_1 ?ki3_2 ?ki3_3 ?nq3_3 ?ki3_4 ?nq3_4 ?ki3_5 ?nq3_5 ?ki3_6 ?nq3_6 ?ki3_7 ?nq3_7 ?ki3_8 ?nq3_8 ?ki3_9 ?nq3_9 ?ki3_10 ?nq3_10 ?ki3_11 ?nq3_11 ?ki3_12 ?nq3_12 ?ki3_13 ?nq3_13 ?ki3_14 ?nq3_14 ?ki3_15 ?nq3_15 ?ki3_16 ?nq3_16 ?ki3_17 ?nq3_17 ?ki3_18 ?nq3_18 ?kp4 ?sb4 ?ty4 ?x0_4 ?x1_4 ?x2_4 ?x3_4 ?x4_4 ?x5_4 ?x6_4 ?x7_4 ?fi4 ?ba4 ?ki4_0 ?nq4_0 ?ki4_1 ?nq4_1 ?ki4_2 ?nq4_2 ?ki4_3 ?ki4_4 ?nq4_4 ?ki4_5 ?nq4_5 ?ki4_6 ?nq4_6 ?ki4_7 ?nq4_7 ?ki4_8 ?nq4_8 ?ki4_9 ?nq4_9 ?ki4_10 ?nq4_10 ?ki4_11 ?nq4_11 ?ki4_12 ?nq4_12 ?ki4_13 ?nq4_13 ?ki4_14 ?nq4_14 ?ki4_15 ?nq4_15 ?ki4_16 ?nq4_16 ?ki4_17 ?nq4_17 ?ki4_18 ?nq4_18 ?yi ?yl ?yc ?yq1 ?yq2 ?yT ?yd ?ye ?yf ?yg ?yy ?yfn ?yj ?yk ?ym ?yj2 ?yx2 ?yo2 ?ys2 ?yt2 ?yv2 ?yw2 ?yr2 ?yn2 ?yz2 ?yza2 ?yzb2 ?yzc2 ?yj3 ?yx3 ?yo3 ?ys3 ?yt3 ?yv3 ?yw3 ?yr3 ?yn3 ?yz3 ?yza3 ?yzb3 ?yzc3 ?yj4 ?yx4 ?yo4 ?ys4 ?yt4 ?yv4 ?yw4 ?yr4 ?yn4 ?yz4 ?yza4 ?yzb4 ?yzc4 ?z0 ?z1 ?z2 ?z3 ?z4 ?z5 ?z6 ?z7 ?z8 ?z9 ?z10 ?z11 ?z12 ?v0 ?v1 ?v2 ?v3 ?v4
    (case a0 => k_is); (case l0 => k_is); (case c0 => k_is); (case k0 => k_is); (case a1 => k_is); (case l1 => k_is); (case c1 => k_is); (case k1 => k_is); (case a2 => k_is); (case l2 => k_is); (case c2 => k_is); (case k2 => k_is); (case a3 => k_is); (case l3 => k_is); (case c3 => k_is); (case k3 => k_is); (case a4 => k_is); (case l4 => k_is); (case c4 => k_is); (case k4 => k_is); (case a5 => k_is); (case l5 => k_is); (case c5 => k_is); (case k5 => k_is); (case a6 => k_is); (case l6 => k_is); (case c6 => k_is); (case k6 => k_is); (case a7 => k_is); (case l7 => k_is); (case c7 => k_is); (case k7 => k_is); (case a8 => k_is); (case l8 => k_is); (case c8 => k_is); (case k8 => k_is); (case a9 => k_is); (case l9 => k_is); (case c9 => k_is); (case k9 => k_is); (case a10 => k_is); (case l10 => k_is); (case c10 => k_is); (case k10 => k_is); (case a11 => k_is); (case l11 => k_is); (case c11 => k_is); (case k11 => k_is); (case a12 => k_is); (case l12 => k_is); (case c12 => k_is); (case k12 => k_is); (case a13 => k_is); (case l13 => k_is); (case c13 => k_is); (case k13 => k_is); (case a14 => k_is); (case l14 => k_is); (case c14 => k_is); (case k14 => k_is); (case a15 => k_is); (case l15 => k_is); (case c15 => k_is); (case k15 => k_is); (case a16 => k_is); (case l16 => k_is); (case c16 => k_is); (case k16 => k_is); (case a17 => k_is); (case l17 => k_is); (case c17 => k_is); (case k17 => k_is); (case a18 => k_is); (case l18 => k_is); (case c18 => k_is); (case k18 => k_is); (case a19 => k_is); (case l19 => k_is); (case c19 => k_is); (case k19 => k_is); (case a20 => k_is); (case l20 => k_is); (case c20 => k_is); (case k20 => k_is); (case a21 => k_is); (case l21 => k_is); (case c21 => k_is); (case k21 => k_is); (case a22 => k_is); (case l22 => k_is); (case c22 => k_is); (case k22 => k_is); (case a23 => k_is); (case l23 => k_is); (case c23 => k_is); (case k23 => k_is); (case a24 => k_is); (case l24 => k_is); (case c24 => k_is); (case k24 => k_is); (case m0 => k_is); (case m1 => k_is); (case m2 => k_is); (case m3 => k_is); (case m4 => k_is); (case m5 => k_is); (case m6 => k_is); (case m7 => k_is); (case m8 => k_is); (case m9 => k_is); (case m10 => k_is); (case m11 => k_is); (case m12 => k_is); (case m13 => k_is); (case m14 => k_is); (case m15 => k_is); (case m16 => k_is); (case m17 => k_is); (case m18 => k_is); (case m19 => k_is); (case ic0 => k_is); (case tp0 => k_is); (case ic1 => k_is); (case tp1 => k_is); (case ic2 => k_is); (case tp2 => k_is); (case ic3 => k_is); (case tp3 => k_is); (case ic4 => k_is); (case tp4 => k_is); (case ic5 => k_is); (case tp5 => k_is); (case ic6 => k_is); (case tp6 => k_is); (case ic7 => k_is); (case tp7 => k_is); (case ic8 => k_is); (case tp8 => k_is); (case ic9 => k_is); (case tp9 => k_is); (case ic10 => k_is); (case tp10 => k_is); (case ic11 => k_is); (case tp11 => k_is); (case ic12 => k_is); (case tp12 => k_is); (case ic13 => k_is); (case tp13 => k_is); (case ic14 => k_is); (case tp14 => k_is); (case ic15 => k_is); (case tp15 => k_is); (case ic16 => k_is); (case tp16 => k_is); (case ic17 => k_is); (case tp17 => k_is); (case ic18 => k_is); (case tp18 => k_is); (case ic19 => k_is); (case tp19 => k_is); (case hb0 => k_is); (case kp2 => k_is); (case sb2 => k_is); (case ty2 => k_is); (case x0_2 => k_is); (case x1_2 => k_is); (case x2_2 => k_is); (case x3_2 => k_is); (case x4_2 => k_is); (case x5_2 => k_is); (case x6_2 => k_is); (case x7_2 => k_is); (case fi2 => k_is); (case ba2 => k_is); (case ki2_0 => k_is); (case nq2_0 => exact rfl); (case ki2_1 => k_is); (case ki2_2 => k_is); (case nq2_2 => exact rfl); (case ki2_3 => k_is); (case nq2_3 => exact rfl); (case ki2_4 => k_is); (case nq2_4 => exact rfl); (case ki2_5 => k_is); (case nq2_5 => exact rfl); (case ki2_6 => k_is); (case nq2_6 => exact rfl); (case ki2_7 => k_is); (case nq2_7 => exact rfl); (case ki2_8 => k_is); (case nq2_8 => exact rfl); (case ki2_9 => k_is); (case nq2_9 => exact rfl); (case ki2_10 => k_is); (case nq2_10 => exact rfl); (case ki2_11 => k_is); (case nq2_11 => exact rfl); (case ki2_12 => k_is); (case nq2_12 => exact rfl); (case ki2_13 => k_is); (case nq2_13 => exact rfl); (case ki2_14 => k_is); (case nq2_14 => exact rfl); (case ki2_15 => k_is); (case nq2_15 => exact rfl); (case ki2_16 => k_is); (case nq2_16 => exact rfl); (case ki2_17 => k_is); (case nq2_17 => exact rfl); (case ki2_18 => k_is); (case nq2_18 => exact rfl); (case kp3 => k_is); (case sb3 => k_is); (case ty3 => k_is); (case x0_3 => k_is); (case x1_3 => k_is); (case x2_3 => k_is); (case x3_3 => k_is); (case x4_3 => k_is); (case x5_3 => k_is); (case x6_3 => k_is); (case x7_3 => k_is); (case fi3 => k_is); (case ba3 => k_is); (case ki3_0 => k_is); (case nq3_0 => exact rfl); (case ki3_1 => k_is); (case nq3_1 => exact rfl); (case ki3_2 => k_is); (case ki3_3 => k_is); (case nq3_3 => exact rfl); (case ki3_4 => k_is); (case nq3_4 => exact rfl); (case ki3_5 => k_is); (case nq3_5 => exact rfl); (case ki3_6 => k_is); (case nq3_6 => exact rfl); (case ki3_7 => k_is); (case nq3_7 => exact rfl); (case ki3_8 => k_is); (case nq3_8 => exact rfl); (case ki3_9 => k_is); (case nq3_9 => exact rfl); (case ki3_10 => k_is); (case nq3_10 => exact rfl); (case ki3_11 => k_is); (case nq3_11 => exact rfl); (case ki3_12 => k_is); (case nq3_12 => exact rfl); (case ki3_13 => k_is); (case nq3_13 => exact rfl); (case ki3_14 => k_is); (case nq3_14 => exact rfl); (case ki3_15 => k_is); (case nq3_15 => exact rfl); (case ki3_16 => k_is); (case nq3_16 => exact rfl); (case ki3_17 => k_is); (case nq3_17 => exact rfl); (case ki3_18 => k_is); (case nq3_18 => exact rfl); (case kp4 => k_is); (case sb4 => k_is); (case ty4 => k_is); (case x0_4 => k_is); (case x1_4 => k_is); (case x2_4 => k_is); (case x3_4 => k_is); (case x4_4 => k_is); (case x5_4 => k_is); (case x6_4 => k_is); (case x7_4 => k_is); (case fi4 => k_is); (case ba4 => k_is); (case ki4_0 => k_is); (case nq4_0 => exact rfl); (case ki4_1 => k_is); (case nq4_1 => exact rfl); (case ki4_2 => k_is); (case nq4_2 => exact rfl); (case ki4_3 => k_is); (case ki4_4 => k_is); (case nq4_4 => exact rfl); (case ki4_5 => k_is); (case nq4_5 => exact rfl); (case ki4_6 => k_is); (case nq4_6 => exact rfl); (case ki4_7 => k_is); (case nq4_7 => exact rfl); (case ki4_8 => k_is); (case nq4_8 => exact rfl); (case ki4_9 => k_is); (case nq4_9 => exact rfl); (case ki4_10 => k_is); (case nq4_10 => exact rfl); (case ki4_11 => k_is); (case nq4_11 => exact rfl); (case ki4_12 => k_is); (case nq4_12 => exact rfl); (case ki4_13 => k_is); (case nq4_13 => exact rfl); (case ki4_14 => k_is); (case nq4_14 => exact rfl); (case ki4_15 => k_is); (case nq4_15 => exact rfl); (case ki4_16 => k_is); (case nq4_16 => exact rfl); (case ki4_17 => k_is); (case nq4_17 => exact rfl); (case ki4_18 => k_is); (case nq4_18 => exact rfl); (case yi => k_is); (case yl => k_is); (case yc => k_is); (case yq1 => exact rfl); (case yq2 => exact rfl); (case yT => k_is); (case yd => k_is); (case ye => exact rfl); (case yf => decide +kernel); (case yg => k_is); (case yy => k_is); (case yfn => k_is); (case yj => k_is); (case yk => decide +kernel); (case ym => k_is); (case yj2 => k_is); (case yx2 => kx_is); (case yo2 => kx_is); (case ys2 => k_is); (case yt2 => k_is); (case yv2 => k_is); (case yw2 => ks_is); (case yr2 => k_is); (case yn2 => k_is); (case yz2 => k_is); (case yza2 => exact rfl); (case yzb2 => decide +kernel); (case yzc2 => decide +kernel); (case yj3 => k_is); (case yx3 => kx_is); (case yo3 => kx_is); (case ys3 => k_is); (case yt3 => k_is); (case yv3 => k_is); (case yw3 => ks_is); (case yr3 => k_is); (case yn3 => k_is); (case yz3 => k_is); (case yza3 => exact rfl); (case yzb3 => decide +kernel); (case yzc3 => decide +kernel); (case yj4 => k_is); (case yx4 => kx_is); (case yo4 => kx_is); (case ys4 => k_is); (case yt4 => k_is); (case yv4 => k_is); (case yw4 => ks_is); (case yr4 => k_is); (case yn4 => k_is); (case yz4 => k_is); (case yza4 => exact rfl); (case yzb4 => decide +kernel); (case yzc4 => decide +kernel); (case z0 => k_is); (case z1 => k_is); (case z2 => k_is); (case z3 => k_is); (case z4 => k_is); (case z5 => k_is); (case z6 => k_is); (case z7 => k_is); (case z8 => k_is); (case z9 => k_is); (case z10 => k_is); (case z11 => k_is); (case z12 => k_is); (case v0 => k_is); (case v1 => k_is); (case v2 => k_is); (case v3 => k_is); (case v4 => k_is)

