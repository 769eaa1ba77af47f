import PyProof.Rows.All
import Wide.All
import OpenK.AllK
import Wide.FinOn
import HandS.ForMost
import HandS.Walk
import HandS.IsInst
import HandS.MapJoin
import HandS.Style
import HandS.FStr
import PyProof.Rows.StrIntSpec
import PyProof.FString3
import KE.KxField
import PySem.Challenge.RW_letterhouse_k07_sixteens_told
set_option Elab.async false
set_option linter.all false
set_option maxRecDepth 100000
namespace LH
open PySem PySem.Spec PyProof.Rows L2
/-! ### heaps -/
theorem same_upd {H : Hp} {p : Addr} {o : HO} (h : H p = none) : Same H (upd H p o) := fun b x e => by
  rw [upd_ne (ne_of_none e h)]
  exact e
theorem seqT {K : PySem.W.Frag} {H H' : Hp} {a : Addr} {xs : List V} (e : Same H H') (h : SqT K H a xs) : SqT K H' a xs := by
  rcases h with (h | ⟨o, h⟩) | h
  · exact .inl (.inl (e _ _ h))
  · exact .inl (.inr ⟨o, e _ _ h⟩)
  · exact .inr h
/-- a list that is told new, in a heap that keeps all that stood -/
def New (H : Hp) (xs : List V) (Q : VK) : Prop := ∀ H' p, Same H H' → H p = none → H' p = some (.lst xs) → Q (.ref p) H'
/-- a value that is told in a heap that keeps all that stood -/
def Tell (H : Hp) (v : V) (Q : VK) : Prop := ∀ H', Same H H' → Q v H'
/-! ### a comprehension over anything that yields xs 0 .. xs (n - 1), its element f i -/
theorem lc_pure {J : It} {n : Nat} {G : Hp → Prop} {te : TE} {c : Nat} {σ : L2.St} {H1 : Hp} {D : Addr} {Qd : Hp → Prop} (xs f : Nat → V) (w : Walk J n G (YFn xs)) (hG : ∀ H, Same H1 H → G H) (hD : H1 D = none) (hn : n ≤ sizeLine)
    (he : ∀ i H Q, i < n → Same H1 H → Tell H (f i) Q → te ((σ.set c none).set c (some (xs i))) H Q)
    (hd : ∀ H, Same H1 H → H D = some (.lst ((List.range n).map f)) → Qd H) :
    ∃ W : Nat → Nat → Hp → Prop, (∃ m, W 0 m (upd H1 D (.lst []))) ∧ ∀ i m H, W i m H →
      (J.stop i H ∧ Qd H) ∨ (J.go i H ∧ ∃ Nx : Hp → Prop, (∀ H', Nx H' → ∃ m', m' < m ∧ W (i + 1) m' H') ∧ ∀ x H', J.yld i H x H' → gName c x (wipe σ [c]) H' fun σ2 H2 => wipe σ2 [c] = wipe σ [c] ∧ tYes σ2 H2 fun b H3 =>
        if b = true then te σ2 H3 fun y H4 => ∃ acc, H4 D = some (.lst acc) ∧ acc.length < sizeLine ∧ Nx (upd H4 D (.lst (acc ++ [y]))) else Nx H3) := by
  refine lc_it w (fun i H => Same H1 H ∧ H D = some (.lst ((List.range i).map f))) ⟨same_upd hD, upd_same⟩ (fun i H _ h => hG H h.1) (fun i x H H' hi hP hy => ?_) (fun H h => hd H h.1 h.2)
  obtain ⟨sm, eD⟩ := hP
  obtain ⟨rfl, rfl⟩ := hy
  refine ⟨?_, ?_⟩
  rotate_left
  · show (if true = true then te ((σ.set c none).set c (some (xs i))) H' fun y H4 => ∃ acc, H4 D = some (.lst acc) ∧ acc.length < sizeLine ∧ Same H1 (upd H4 D (.lst (acc ++ [y]))) ∧ upd H4 D (.lst (acc ++ [y])) D = some (.lst ((List.range (i + 1)).map f)) else (Same H1 H' ∧ H' D = some (.lst ((List.range (i + 1)).map f))))
    rw [if_pos rfl]
    refine he i H' _ hi sm fun H2 s2 => ⟨_, s2 _ _ eD, ?_, ?_, ?_⟩
    · rw [List.length_map, List.length_range]
      omega
    · intro b o hb
      rw [upd_ne (ne_of_none hb hD)]
      exact s2 _ _ (sm _ _ hb)
    · rw [upd_same, List.range_succ, List.map_append]
      rfl
  · show (((σ.set c none).set c (some (xs i))).set c none) = σ.set c none
    rw [List.set_set, List.set_set]
/-! ### a def as its callers see it -/
structure Def (P : Program) (w : World) (K : PySem.W.Frag) (mg : Str → Option Value) (base : Heap) (x : Str) (k : Nat) (f : Addr) (fd : FuncData) (ps : List Str) (sp : Sp) : Prop where
  ok : FnOk P w K mg base CX0 k f fd ps sp
  mg : mg x = some (.ref f)
  kp : PySem.W.keepIn K (.ref f) = true
  bd : Binds K fd ps []
section
variable {X : Cx} {x : Str} {k j : Nat} {f : Addr} {fd : FuncData} {ps : List Str} {sp : Sp} {e : Expr} {es : List Expr} {t : TA} {p pos : Pos}
theorem pe_def (D : Def X.prog X.w X.K X.mg X.base x k f fd ps sp) (hr : Room k X.A) (ha : PA X (e :: es) t) (hg : Gl X x := by rfl) (hdb : (x == ("__debug__" : Str)) = false := by decide)
    (he : starEach (e :: es) X.env = (false, eval e X.env) :: starEach es X.env := by rfl) (hpl : (backTo pos (starEach es X.env)).any (·.1) = false := by rfl) : PE X (.Call (.Name x p) (e :: es) [] pos) (tCall sp [] E0 t) :=
  pe_call D.ok hr hg D.mg D.kp D.bd .nil pass0 ha hdb he hpl
theorem pe_def0 (D : Def X.prog X.w X.K X.mg X.base x k f fd ps sp) (hr : Room k X.A) (hg : Gl X x := by rfl) (hdb : (x == ("__debug__" : Str)) = false := by decide) : PE X (.Call (.Name x p) [] [] pos) (tCall sp [] E0 tNil) :=
  pe_call0 D.ok hr hg D.mg D.kp D.bd .nil pass0 hdb
end
/-! ### a text times a number -/
section
variable {X : Cx}
def repS (x : Str) (n : Int) : Str := ⟨(List.replicate n.toNat x.cps.toList).flatten.toArray⟩
theorem foldl_app (l : List (Array Nat)) : ∀ a : Array Nat, (l.foldl (· ++ ·) a).toList = a.toList ++ (l.map (·.toList)).flatten := by
  induction l with
  | nil => intro a; simp
  | cons x r ih => intro a; simp [ih]
theorem mul_rep (x : Str) (n : Int) : Txt.mul x n = repS x n := by
  unfold Txt.mul repS
  by_cases h : n < 1
  · rw [if_pos h, show n.toNat = 0 by omega]
    rfl
  · rw [if_neg h]
    by_cases h2 : (n == 1 || x.length == 0) = true
    · rw [if_pos h2]
      refine TL.ext_tl ?_
      show x.cps.toList = (List.replicate n.toNat x.cps.toList).flatten
      rcases (Bool.or_eq_true _ _).mp h2 with e | e
      · have : n = 1 := eq_of_beq e
        subst this
        simp
      · have : x.cps.toList = [] := by
          have e' : x.length = 0 := eq_of_beq e
          have e3 : x.cps.toList.length = 0 := by simpa [Str.length] using e'
          exact List.length_eq_zero_iff.mp e3
        rw [this]
        simp
    · rw [if_neg h2]
      refine TL.ext_tl ?_
      show ((List.replicate n.toNat x.cps).foldl (· ++ ·) #[]).toList = (List.replicate n.toNat x.cps.toList).flatten
      rw [foldl_app]
      simp
theorem op_mul_str : OpR X (binaryOp .Mult) (fun x y H Q => ∃ z n, x = .str z ∧ y = .int n ∧ -(2 ^ 63) ≤ n ∧ n ≤ 4096 ∧ z.length ≤ 4096 ∧ Q (.str (repS z n)) H) := by
  intro pins s σ H x y v u Q I rx ry h
  obtain ⟨z, n, rfl, rfl, h0, h1, h2, q⟩ := h
  obtain ⟨t, rfl⟩ := rx
  obtain ⟨t', rfl⟩ := ry
  refine SB.mul (mulOk_of 4096 4096 h2 (by exact_mod_cast h1) h0 (by decide) (by decide)) fun t2 k => ?_
  rw [mul_rep]
  exact ⟨.str (repS z n), H, I.tok _, ⟨_, rfl⟩, q⟩
end
/-! ### chunks -/
def chunks {α : Type} (k : Nat) (t : List α) : List (List α) := (List.range ((t.length + (k - 1)) / k)).map fun i => (t.drop (i * k)).take k
theorem chunks_nil {α : Type} {k : Nat} (hk : 0 < k) : chunks k ([] : List α) = [] := by
  unfold chunks
  rw [show (([] : List α).length + (k - 1)) / k = 0 from Nat.div_eq_of_lt (by simp; omega)]
  rfl
theorem chunks_cons {α : Type} {k : Nat} (hk : 0 < k) {t : List α} (ht : t ≠ []) : chunks k t = t.take k :: chunks k (t.drop k) := by
  unfold chunks
  have hl : 0 < t.length := List.length_pos_iff.mpr ht
  have e : (t.length + (k - 1)) / k = ((t.drop k).length + (k - 1)) / k + 1 := by
    rw [List.length_drop]
    by_cases h : t.length ≤ k
    · rw [show t.length - k = 0 by omega, show (0 + (k - 1)) / k = 0 from Nat.div_eq_of_lt (by omega)]
      exact Nat.div_eq_of_lt_le (by omega) (by omega)
    · rw [show t.length + (k - 1) = (t.length - k + (k - 1)) + k by omega, Nat.add_div_right _ hk]
  rw [e, List.range_succ_eq_map, List.map_cons, List.map_map]
  congr 1
  · simp
  · refine List.map_congr_left fun i _ => ?_
    show (t.drop ((i + 1) * k)).take k = ((t.drop k).drop (i * k)).take k
    rw [List.drop_drop, Nat.succ_mul, Nat.add_comm]
/-! ### slices and ranges -/
theorem cutS_at (z : Str) (a b : Nat) : cutS z (some (a : Int)) (some (b : Int)) = ⟨((TL.tl z).drop a |>.take (b - a)).toArray⟩ := by
  unfold cutS
  rw [HT.sIx_nat, HT.sIx_nat]
  refine TL.ext_tl ?_
  show ((TL.tl z).drop (min a z.length)).take (min b z.length - min a z.length) = ((TL.tl z).drop a).take (b - a)
  have hz : z.length = (TL.tl z).length := TL.len_tl z
  rw [hz]
  generalize TL.tl z = l
  by_cases h : a ≤ l.length
  · rw [Nat.min_eq_left h]
    by_cases h2 : b ≤ l.length
    · rw [Nat.min_eq_left h2]
    · rw [Nat.min_eq_right (by omega), List.take_of_length_le (by rw [List.length_drop]; omega), List.take_of_length_le (by rw [List.length_drop]; omega)]
  · have h' : l.length ≤ a := by omega
    rw [Nat.min_eq_right h', List.drop_of_length_le (Nat.le_refl _), List.drop_of_length_le h']
    simp
theorem cutV_at (z : List V) (a b : Nat) : cutV z (some (a : Int)) (some (b : Int)) = (z.drop a).take (b - a) := by
  unfold cutV
  rw [HT.sIx_nat, HT.sIx_nat]
  by_cases h : a ≤ z.length
  · rw [Nat.min_eq_left h]
    by_cases h2 : b ≤ z.length
    · rw [Nat.min_eq_left h2]
    · rw [Nat.min_eq_right (by omega), List.take_of_length_le (by rw [List.length_drop]; omega), List.take_of_length_le (by rw [List.length_drop]; omega)]
  · have h' : z.length ≤ a := by omega
    rw [Nat.min_eq_right h', List.drop_of_length_le (Nat.le_refl _), List.drop_of_length_le h']
    simp
theorem cutV_to (z : List V) (b : Nat) : cutV z none (some (b : Int)) = z.take b := by
  unfold cutV
  rw [HT.sIx_nat, HT.sIx_none]
  by_cases h2 : b ≤ z.length
  · rw [Nat.min_eq_left h2]; simp
  · rw [Nat.min_eq_right (by omega), List.take_of_length_le (by simp), List.take_of_length_le (by omega)]; simp
theorem cutS_to (z : Str) (b : Nat) : cutS z none (some (b : Int)) = ⟨((TL.tl z).take b).toArray⟩ := by
  have := cutS_at z 0 b
  have e : cutS z none (some (b : Int)) = cutS z (some ((0 : Nat) : Int)) (some (b : Int)) := by
    unfold cutS
    rw [HT.sIx_none, HT.sIx_nat, HT.sIx_nat, Nat.zero_min]
  rw [e, this]
  simp
theorem cutS_from (z : Str) (a : Nat) : cutS z (some (a : Int)) none = ⟨((TL.tl z).drop a).toArray⟩ := by
  have e : cutS z (some (a : Int)) none = cutS z (some (a : Int)) (some ((z.length : Nat) : Int)) := by
    unfold cutS
    rw [HT.sIx_none, HT.sIx_nat, HT.sIx_nat]
    simp
  rw [e, cutS_at, TL.len_tl, List.take_of_length_le (by simp)]
theorem rgC (n k : Nat) (hk : 0 < k) (hk2 : k < 1000) (hn : n < 2 ^ 40) : RgC 0 (n : Int) (k : Int) ((n + (k - 1)) / k) := by
  refine ⟨by omega, by omega, ?_, ?_⟩
  · have e := rangeSize_pos (len := (n : Int)) (c := (k : Int)) (by omega) (by omega)
    have q : ((n : Int) + (k : Int) - 1) / (k : Int) ≤ (n : Int) + (k : Int) - 1 := Int.ediv_le_self _ (by omega)
    have q0 : 0 ≤ ((n : Int) + (k : Int) - 1) / (k : Int) := Int.ediv_nonneg (by omega) (by omega)
    unfold Builtin.Range.small
    rw [e]
    simp only [Builtin.Range.rangeFitsLong, Bool.and_eq_true, Bool.or_eq_true, decide_eq_true_eq, beq_iff_eq, show ((k : Int) > 0) by omega, if_true]
    have p1 : (0:Int) < 2 ^ 63 := by decide
    omega
  · rw [rangeSize_pos (by omega) (by omega)]
    rw [show (n : Int) + (k : Int) - 1 = ((n + (k - 1) : Nat) : Int) by omega]
    exact (Int.natCast_ediv _ _).symm
end LH
namespace LH
open PySem PySem.Spec PyProof.Rows L2
theorem walk_listF {K : PySem.W.Frag} {a : Addr} {xs : List V} : Walk (Itl K a) xs.length (fun H => SqL K H a xs) (YFn fun i => xs.getD i .non) :=
  walk_list.mono (fun _ h => h) fun i H x H' hi _ y => ⟨y.1, by show x = xs.getD i .non; rw [List.getD_eq_getElem?_getD, y.2]; rfl⟩
theorem walk_tupF {K : PySem.W.Frag} {a : Addr} {xs : List V} : Walk (Itt K a) xs.length (fun H => SqT K H a xs) (YFn fun i => xs.getD i .non) :=
  walk_tup.mono (fun _ h => h) fun i H x H' hi _ y => ⟨y.1, by show x = xs.getD i .non; rw [List.getD_eq_getElem?_getD, y.2]; rfl⟩
theorem getD_map_int (bs : List Int) (i : Nat) (h : i < bs.length) : (bs.map V.int).getD i .non = .int (bs.getD i 0) := by
  rw [List.getD_eq_getElem?_getD, List.getElem?_map, List.getElem?_eq_getElem h, List.getD_eq_getElem?_getD, List.getElem?_eq_getElem h]
  rfl
theorem range_getD {α : Type} (xs : List α) (d : α) : (List.range xs.length).map (fun i => xs.getD i d) = xs := by
  apply List.ext_getElem?
  intro i
  rw [List.getElem?_map]
  by_cases h : i < xs.length
  · rw [List.getElem?_range h]
    show some (xs.getD i d) = _
    rw [List.getD_eq_getElem?_getD, List.getElem?_eq_getElem h]
    rfl
  · rw [List.getElem?_eq_none (by rw [List.length_range]; omega), List.getElem?_eq_none (by omega)]
    rfl
section
variable {X : Cx}
theorem ixL (K : PySem.W.Frag) (h : X.K = K := by rfl) : IxR X (rIxL K) := h ▸ ix_list
theorem ixT (K : PySem.W.Frag) (h : X.K = K := by rfl) : IxR X (rIxT K) := h ▸ ix_tup
theorem slL (K : PySem.W.Frag) (h : X.K = K := by rfl) : SlR X (rSlL K) := h ▸ sl_list
theorem slT (K : PySem.W.Frag) (h : X.K = K := by rfl) : SlR X (rSlT K) := h ▸ sl_tup
theorem cIsi (K : PySem.W.Frag) (h : X.K = K := by rfl) : CallR X (.builtin "isinstance") (rIsi K) := h ▸ call_isi
def rLenS (K : PySem.W.Frag) : List V → Hp → VK → Prop := fun xs H Q => ∃ p ys, xs = [.ref p] ∧ (SqL K H p ys ∨ SqT K H p ys) ∧ Q (.int ys.length) H
theorem cLen (K : PySem.W.Frag) (h : X.K = K := by rfl) : CallR X (.builtin "len") (rLenS K) := h ▸ call_len_seq
theorem cAll (K : PySem.W.Frag) (h : X.K = K := by rfl) (hc : X.calm = true := by rfl) : CallR X (.builtin "all") (rAll K) := h ▸ cr_all hc
theorem cAny (K : PySem.W.Frag) (h : X.K = K := by rfl) (hc : X.calm = true := by rfl) : CallR X (.builtin "any") (rAny K) := h ▸ cr_any hc
theorem oIn (K : PySem.W.Frag) (h : X.K = K := by rfl) : OpR X (compareOp .In) (rIn K false) := h ▸ op_in_seq
theorem oNotIn (K : PySem.W.Frag) (h : X.K = K := by rfl) : OpR X (compareOp .NotIn) (rIn K true) := h ▸ op_notIn_seq
theorem oEqD (K : PySem.W.Frag) (hu : X.A.units + 64 < cLine) (h : X.K = K := by rfl) : OpR X (compareOp .Eq) (rEqD K) := h ▸ op_eqD hu
theorem oNeD (K : PySem.W.Frag) (hu : X.A.units + 64 < cLine) (h : X.K = K := by rfl) : OpR X (compareOp .NotEq) (rNeD K) := h ▸ op_neD hu
end
end LH
namespace LH
open PySem PySem.Spec PyProof.Rows L2
/-! ### data: flat lists compared -/
def OkS (x : Str) : Prop := ∀ c ∈ TL.tl x, c < 1114112
theorem strOk_of (x : Str) (h : OkS x) : PyData.strOk x = true := by
  unfold PyData.strOk
  rw [Array.all_eq_true']
  intro c hc
  exact decide_eq_true (h c (Array.mem_toList_iff.mpr hc))
theorem dpAll_ints {K : PySem.W.Frag} {H : Hp} : ∀ bs : List Int, DpAll K H (bs.map V.int) (bs.map PyData.int)
  | [] => .nil
  | b :: r => .cons (.int b) (dpAll_ints r)
theorem dpAll_strs {K : PySem.W.Frag} {H : Hp} : ∀ bs : List Str, DpAll K H (bs.map V.str) (bs.map PyData.str)
  | [] => .nil
  | b :: r => .cons (.str b) (dpAll_strs r)
theorem dp_ints {K : PySem.W.Frag} {H : Hp} {a : Addr} {bs : List Int} (h : SqL K H a (bs.map V.int)) : Dp K H (.ref a) (.list (bs.map PyData.int)) := .lst h (dpAll_ints bs)
theorem dp_strs {K : PySem.W.Frag} {H : Hp} {a : Addr} {bs : List Str} (h : SqL K H a (bs.map V.str)) : Dp K H (.ref a) (.list (bs.map PyData.str)) := .lst h (dpAll_strs bs)
theorem lay_strs : ∀ bs : List Str, (∀ x ∈ bs, OkS x) → PyData.canLayAll0 (bs.map PyData.str) = true
  | [], _ => by simp [PyData.canLayAll0]
  | b :: r, h => by simp [PyData.canLayAll0, PyData.canLay0, strOk_of b (h b (by simp)), lay_strs r fun x hx => h x (by simp [hx])]
theorem depth_strs : ∀ bs : List Str, PyData.depthAll (bs.map PyData.str) = 0
  | [] => rfl
  | _ :: r => by simp [PyData.depthAll, PyData.depth, depth_strs r]
theorem shaped_strs (bs : List Str) (h : ∀ x ∈ bs, OkS x) : SeqAt.shaped (.list (bs.map PyData.str)) = true := by
  simp [SeqAt.shaped, PyData.canLay0, PyData.depth, lay_strs bs h, depth_strs]
theorem shaped_intsL (bs : List Int) : SeqAt.shaped (.list (bs.map PyData.int)) = true := PySem.W.ke_shaped_ints bs
theorem eqv_ints : ∀ bs cs : List Int, PyData.eqvAll (bs.map PyData.int) (cs.map PyData.int) = decide (bs = cs)
  | [], [] => by simp [PyData.eqvAll]
  | [], _ :: _ => by simp [PyData.eqvAll]
  | _ :: _, [] => by simp [PyData.eqvAll]
  | b :: r, c :: q => by
    rw [List.map_cons, List.map_cons, PyData.eqvAll, PyData.eqv, eqv_ints r q]
    by_cases h : b = c <;> simp [h]
theorem eqv_strs : ∀ bs cs : List Str, PyData.eqvAll (bs.map PyData.str) (cs.map PyData.str) = decide (bs = cs)
  | [], [] => by simp [PyData.eqvAll]
  | [], _ :: _ => by simp [PyData.eqvAll]
  | _ :: _, [] => by simp [PyData.eqvAll]
  | b :: r, c :: q => by
    rw [List.map_cons, List.map_cons, PyData.eqvAll, PyData.eqv, eqv_strs r q]
    by_cases h : b = c <;> simp [h]
theorem eqv_intsL (bs cs : List Int) : PyData.eqv (.list (bs.map PyData.int)) (.list (cs.map PyData.int)) = decide (bs = cs) := by rw [PyData.eqv, eqv_ints]
theorem eqv_strsL (bs cs : List Str) : PyData.eqv (.list (bs.map PyData.str)) (.list (cs.map PyData.str)) = decide (bs = cs) := by rw [PyData.eqv, eqv_strs]
theorem map_true {α : Type} (l : List α) : (l.map fun _ => true).all id = true := by
  induction l with
  | nil => rfl
  | cons x r ih => simpa using ih
end LH

namespace LH
open PySem PySem.Spec PyProof.Rows L2
/-! ### a comprehension with a test -/
theorem lc_filt {J : It} {n : Nat} {G : Hp → Prop} {tt : TT} {te : TE} {c : Nat} {σ : L2.St} {H1 : Hp} {D : Addr} {Qd : Hp → Prop} (xs f : Nat → V) (b : Nat → Bool) (w : Walk J n G (YFn xs)) (hG : ∀ H, Same H1 H → G H) (hD : H1 D = none) (hn : n ≤ sizeLine)
    (ht : ∀ (i : Nat) (H : Hp) (Q : Bool → Hp → Prop), i < n → Same H1 H → (∀ H', Same H H' → Q (b i) H') → tt ((σ.set c none).set c (some (xs i))) H Q)
    (he : ∀ i H Q, i < n → Same H1 H → b i = true → Tell H (f i) Q → te ((σ.set c none).set c (some (xs i))) H Q)
    (hd : ∀ H, Same H1 H → H D = some (.lst (((List.range n).filter b).map f)) → Qd H) :
    ∃ W : Nat → Nat → Hp → Prop, (∃ m, W 0 m (upd H1 D (.lst []))) ∧ ∀ i m H, W i m H →
      (J.stop i H ∧ Qd H) ∨ (J.go i H ∧ ∃ Nx : Hp → Prop, (∀ H', Nx H' → ∃ m', m' < m ∧ W (i + 1) m' H') ∧ ∀ x H', J.yld i H x H' → gName c x (wipe σ [c]) H' fun σ2 H2 => wipe σ2 [c] = wipe σ [c] ∧ tt σ2 H2 fun b H3 =>
        if b = true then te σ2 H3 fun y H4 => ∃ acc, H4 D = some (.lst acc) ∧ acc.length < sizeLine ∧ Nx (upd H4 D (.lst (acc ++ [y]))) else Nx H3) := by
  refine lc_it w (fun i H => Same H1 H ∧ H D = some (.lst (((List.range i).filter b).map f))) ⟨same_upd hD, upd_same⟩ (fun i H _ h => hG H h.1) (fun i x H H' hi hP hy => ?_) (fun H h => hd H h.1 h.2)
  obtain ⟨sm, eD⟩ := hP
  obtain ⟨rfl, rfl⟩ := hy
  refine ⟨?_, ?_⟩
  rotate_left
  · refine ht i H' _ hi sm fun H2 s2 => ?_
    cases hb : b i with
    | true =>
      rw [if_pos rfl]
      refine he i H2 _ hi (sm.trans s2) hb fun H3 s3 => ⟨_, s3 _ _ (s2 _ _ eD), ?_, ?_, ?_⟩
      · rw [List.length_map]
        have := List.length_filter_le b (List.range i)
        rw [List.length_range] at this
        omega
      · intro b' o hb'
        rw [upd_ne (ne_of_none hb' hD)]
        exact s3 _ _ (s2 _ _ (sm _ _ hb'))
      · rw [upd_same, List.range_succ, List.filter_append, List.map_append]
        simp [hb]
    | false =>
      rw [if_neg Bool.false_ne_true]
      refine ⟨sm.trans s2, ?_⟩
      rw [s2 _ _ eD, List.range_succ, List.filter_append, List.map_append]
      simp [hb]
  · show (((σ.set c none).set c (some (xs i))).set c none) = σ.set c none
    rw [List.set_set, List.set_set]
/-! ### the signs of a text -/
theorem walk_strF {z : Str} : Walk (Its z) (TL.tl z).length (fun _ => True) (YFn fun i => .str ⟨#[(TL.tl z).getD i 0]⟩) := by
  have e : (TL.tl z).length = z.cps.size := Array.length_toList
  rw [e]
  refine walk_str.mono (fun _ h => h) fun i H x H' hi _ y => ⟨y.1, ?_⟩
  obtain ⟨_, c, hc, rfl⟩ := y
  show V.str ⟨#[c]⟩ = .str ⟨#[(TL.tl z).getD i 0]⟩
  have : (TL.tl z)[i]? = some c := by rw [← hc]; exact Array.getElem?_toList
  rw [List.getD_eq_getElem?_getD, this]
  rfl
theorem lall_range {α : Type} (l : List α) (d : α) (p : α → Bool) : ((List.range l.length).map fun i => p (l.getD i d)).all id = l.all p := by
  have e : ((List.range l.length).map fun i => p (l.getD i d)) = ((List.range l.length).map fun i => l.getD i d).map p := by rw [List.map_map]; rfl
  rw [e, range_getD, List.all_map]
  rfl
/-! ### one sign's split -/
def splitL (s : Nat) : List Nat → List (List Nat)
  | [] => [[]]
  | c :: r => if c = s then [] :: splitL s r else (c :: (splitL s r).headD []) :: (splitL s r).tail
theorem splitL_ne (s : Nat) (l : List Nat) : splitL s l ≠ [] := by
  cases l with
  | nil => simp [splitL]
  | cons c r => unfold splitL; split <;> simp
theorem splitL_eta (s : Nat) (l : List Nat) : splitL s l = (splitL s l).headD [] :: (splitL s l).tail := by
  cases h : splitL s l with
  | nil => exact absurd h (splitL_ne s l)
  | cons x r => rfl
theorem spl_one (s : Nat) : ∀ (l acc : List Nat), TL.spl [s] 0 acc l = (acc ++ (splitL s l).headD []) :: (splitL s l).tail
  | [], acc => by rw [TL.spl_nil]; simp [splitL]
  | c :: r, acc => by
    by_cases h : c = s
    · subst h
      rw [TL.spl_hit (show TL.pre [c] (c :: r) = true by simp [TL.pre])]
      show acc :: TL.spl [c] 0 [] r = _
      rw [spl_one c r []]
      have e : splitL c (c :: r) = [] :: splitL c r := by
        conv => lhs; unfold splitL
        rw [if_pos rfl]
      rw [e]
      simp only [List.headD_cons, List.tail_cons, List.append_nil, List.nil_append]
      rw [← splitL_eta]
    · rw [TL.spl_miss (show TL.pre [s] (c :: r) = false by simp [TL.pre]; exact h), spl_one s r]
      conv => rhs; unfold splitL
      rw [if_neg h]
      simp
theorem split_tl {x y : Str} {s : Nat} (hy : TL.tl y = [s]) (hs : s < 256) : (Txt.split x y).map TL.tl = splitL s (TL.tl x) := by
  rw [TL.split_spl x y (by rw [hy]; simp) (TL.kind_ok ?_), hy, spl_one, List.nil_append, ← splitL_eta]
  rw [Array.all_eq_true']
  intro c hc
  have : c ∈ TL.tl y := Array.mem_toList_iff.mpr hc
  rw [hy] at this
  exact decide_eq_true (by rw [List.mem_singleton.mp this]; exact hs)
theorem splitL_len (s : Nat) : ∀ l : List Nat, (splitL s l).length ≤ l.length + 1
  | [] => Nat.le_refl _
  | c :: r => by
    have ih := splitL_len s r
    unfold splitL
    split
    · simp only [List.length_cons]; omega
    · have := splitL_eta s r
      have h2 := congrArg List.length this
      simp only [List.length_cons] at h2 ⊢
      omega
theorem splitL_mem (s : Nat) : ∀ (l : List Nat) (w : List Nat), w ∈ splitL s l → ∀ c ∈ w, c ∈ l
  | [], w, h, c, hc => by
    simp [splitL] at h
    rw [h] at hc
    cases hc
  | d :: r, w, h, c, hc => by
    unfold splitL at h
    have e := splitL_eta s r
    split at h
    · rcases List.mem_cons.mp h with rfl | h
      · cases hc
      · exact List.mem_cons_of_mem _ (splitL_mem s r w h c hc)
    · rcases List.mem_cons.mp h with rfl | h
      · rcases List.mem_cons.mp hc with rfl | hc
        · exact List.mem_cons_self
        · exact List.mem_cons_of_mem _ (splitL_mem s r _ (by rw [e]; exact List.mem_cons_self) c hc)
      · exact List.mem_cons_of_mem _ (splitL_mem s r w (by rw [e]; exact List.mem_cons_of_mem _ h) c hc)
theorem splitL_le (s : Nat) : ∀ (l : List Nat) (w : List Nat), w ∈ splitL s l → w.length ≤ l.length
  | [], w, h => by
    simp [splitL] at h
    rw [h]
    exact Nat.le_refl _
  | d :: r, w, h => by
    unfold splitL at h
    have e := splitL_eta s r
    have mem1 : (splitL s r).headD [] ∈ splitL s r := by rw [e]; exact List.mem_cons_self
    have mem2 : ∀ x ∈ (splitL s r).tail, x ∈ splitL s r := fun x hx => by rw [e]; exact List.mem_cons_of_mem _ hx
    split at h
    · rcases List.mem_cons.mp h with rfl | h
      · exact Nat.zero_le _
      · exact Nat.le_succ_of_le (splitL_le s r w h)
    · rcases List.mem_cons.mp h with rfl | h
      · exact Nat.succ_le_succ (splitL_le s r _ mem1)
      · exact Nat.le_succ_of_le (splitL_le s r w (mem2 w h))
theorem mk_len (l : List Nat) : (⟨l.toArray⟩ : Str).length = l.length := by rw [TL.len_tl]
theorem str_eq_iff (x y : Str) : x = y ↔ TL.tl x = TL.tl y := ⟨fun h => by rw [h], TL.ext_tl⟩
end LH
namespace LH
open PySem PySem.Spec PyProof.Rows L2
/-! ### an empty part in a split: a sign at an end, or two side by side -/
def Gap (s : Nat) (l : List Nat) : Prop := ∃ i, l[i]? = some s ∧ (l[i + 1]? = none ∨ l[i + 1]? = some s)
theorem gap_nil (s : Nat) : ¬ Gap s [] := fun ⟨i, h, _⟩ => by simp at h
theorem gap_cons (s c : Nat) (r : List Nat) : Gap s (c :: r) ↔ (c = s ∧ (r = [] ∨ r[0]? = some s)) ∨ Gap s r := by
  constructor
  · rintro ⟨i, h1, h2⟩
    cases i with
    | zero =>
      left
      have : c = s := by simpa using h1
      refine ⟨this, ?_⟩
      rcases h2 with h2 | h2
      · left
        have : r[0]? = none := by simpa using h2
        cases r with
        | nil => rfl
        | cons x r => simp at this
      · right; simpa using h2
    | succ i => exact .inr ⟨i, by simpa using h1, by simpa using h2⟩
  · rintro (⟨rfl, h⟩ | ⟨i, h1, h2⟩)
    · refine ⟨0, by simp, ?_⟩
      rcases h with rfl | h
      · left; rfl
      · right; simpa using h
    · exact ⟨i + 1, by simpa using h1, by simpa using h2⟩
theorem split_head (s : Nat) (l : List Nat) : (splitL s l).headD [] = [] ↔ l = [] ∨ l[0]? = some s := by
  cases l with
  | nil => simp [splitL]
  | cons c r =>
    unfold splitL
    by_cases h : c = s
    · rw [if_pos h]; simp [h]
    · rw [if_neg h]; simp [h]
theorem split_tail (s : Nat) : ∀ l : List Nat, [] ∈ (splitL s l).tail ↔ Gap s l
  | [] => by simp [splitL, gap_nil]
  | c :: r => by
    rw [gap_cons, ← split_tail s r]
    by_cases h : c = s
    · have e : splitL s (c :: r) = [] :: splitL s r := by
        conv => lhs; unfold splitL
        rw [if_pos h]
      rw [e, List.tail_cons, splitL_eta s r, List.mem_cons, eq_comm, split_head]
      simp [h]
    · have e : splitL s (c :: r) = (c :: (splitL s r).headD []) :: (splitL s r).tail := by
        conv => lhs; unfold splitL
        rw [if_neg h]
      rw [e, List.tail_cons]
      simp [h]
theorem split_gap (s : Nat) (l : List Nat) : [] ∈ splitL s l ↔ l = [] ∨ l[0]? = some s ∨ Gap s l := by
  rw [splitL_eta s l, List.mem_cons, eq_comm, split_head, split_tail, or_assoc]
theorem joinL_nil (l : List (List Nat)) : TL.joinL [] l = l.flatten := by
  induction l with
  | nil => rfl
  | cons x r ih =>
    cases r with
    | nil => simp [TL.joinL]
    | cons y r => rw [TL.joinL, ih]; simp
theorem tl_empty : TL.tl (Str.ofString "") = [] := by decide +kernel
theorem tl_join0 (ys : List Str) : TL.tl (Txt.join (Str.ofString "") ys) = (ys.map TL.tl).flatten := by
  rw [TL.join_eq, TL.tl_join, tl_empty, joinL_nil]
theorem flatten_le {α : Type} {k : Nat} : ∀ l : List (List α), (∀ x ∈ l, x.length ≤ k) → l.flatten.length ≤ k * l.length
  | [], _ => Nat.le_refl _
  | x :: r, h => by
    have ih := flatten_le r fun y hy => h y (List.mem_cons_of_mem _ hy)
    have hx := h x (by simp)
    rw [List.flatten_cons, List.length_append, List.length_cons, Nat.mul_succ]
    omega
theorem chunks_len {α : Type} (k : Nat) (t : List α) : (chunks k t).length = (t.length + (k - 1)) / k := by
  unfold chunks
  rw [List.length_map, List.length_range]
theorem sum_len (ys : List Str) : (ys.map (·.length)).sum = ((ys.map TL.tl).flatten).length := by
  rw [List.length_flatten, List.map_map]
  rfl
/-! ### texts and their signs -/
theorem okS_app {x y : Str} (hx : OkS x) (hy : OkS y) : OkS (x ++ y) := fun c hc => by
  rw [TL.tl_append] at hc
  rcases List.mem_append.mp hc with h | h
  · exact hx c h
  · exact hy c h
theorem len_app (x y : Str) : (x ++ y).length = x.length + y.length := by
  rw [TL.len_tl, TL.tl_append, List.length_append, ← TL.len_tl, ← TL.len_tl]
theorem okS_cut {x : Str} (hx : OkS x) (lo hi : Option Int) : OkS (cutS x lo hi) := fun c hc => hx c (List.mem_of_mem_drop (List.mem_of_mem_take hc))
theorem okS_one {c : Nat} (h : c < 1114112) : OkS ⟨#[c]⟩ := fun d hd => by
  have : d = c := by simpa [TL.tl] using hd
  rw [this]; exact h
theorem joinL_mem (S : List Nat) : ∀ (ps : List (List Nat)) (c : Nat), c ∈ TL.joinL S ps → c ∈ S ∨ ∃ p ∈ ps, c ∈ p
  | [], c, h => by cases h
  | [p], c, h => .inr ⟨p, by simp, h⟩
  | p :: q :: r, c, h => by
    rw [TL.joinL] at h
    rcases List.mem_append.mp h with h | h
    · exact .inr ⟨p, by simp, h⟩
    · rcases List.mem_append.mp h with h | h
      · exact .inl h
      · rcases joinL_mem S (q :: r) c h with h | ⟨x, hx, hc⟩
        · exact .inl h
        · exact .inr ⟨x, List.mem_cons_of_mem _ hx, hc⟩
theorem joinL_len (S : List Nat) : ∀ (ps : List (List Nat)), (TL.joinL S ps).length ≤ (ps.map List.length).sum + ps.length * S.length
  | [] => by simp [TL.joinL]
  | [p] => by simp [TL.joinL]
  | p :: q :: r => by
    have ih := joinL_len S (q :: r)
    rw [TL.joinL, List.length_append, List.length_append, List.map_cons, List.sum_cons, List.length_cons, Nat.succ_mul]
    omega
theorem sum_le (k : Nat) : ∀ l : List Nat, (∀ x ∈ l, x ≤ k) → l.sum ≤ l.length * k
  | [], _ => by simp
  | x :: r, h => by
    have ih := sum_le k r fun y hy => h y (List.mem_cons_of_mem _ hy)
    have hx := h x (by simp)
    rw [List.sum_cons, List.length_cons, Nat.succ_mul]
    omega
theorem join_len_le {sep : Str} {ws : List Str} {k n : Nat} (hw : ∀ x ∈ ws, x.length ≤ k) (hn : ws.length ≤ n) : (ws.map (·.length)).sum + ws.length * sep.length ≤ n * (k + sep.length) := by
  have h1 := sum_le k (ws.map (·.length)) fun x hx => by
    obtain ⟨y, hy, rfl⟩ := List.mem_map.mp hx
    exact hw y hy
  rw [List.length_map] at h1
  calc (ws.map (·.length)).sum + ws.length * sep.length ≤ ws.length * k + ws.length * sep.length := Nat.add_le_add_right h1 _
    _ = ws.length * (k + sep.length) := (Nat.mul_add _ _ _).symm
    _ ≤ n * (k + sep.length) := Nat.mul_le_mul_right _ hn
theorem joined_len (sep : Str) (ws : List Str) : (Txt.join sep ws).length ≤ (ws.map (·.length)).sum + ws.length * sep.length := by
  rw [TL.len_tl, TL.join_eq, TL.tl_join]
  refine Nat.le_trans (joinL_len _ _) ?_
  rw [List.map_map, List.length_map, ← TL.len_tl]
  have : (ws.map (List.length ∘ TL.tl)) = ws.map (·.length) := List.map_congr_left fun x _ => (TL.len_tl x).symm
  rw [this]
  exact Nat.le_refl _
theorem okS_join {sep : Str} {ws : List Str} (hs : OkS sep) (hw : ∀ x ∈ ws, OkS x) : OkS (Txt.join sep ws) := fun c hc => by
  rw [TL.join_eq, TL.tl_join] at hc
  rcases joinL_mem _ _ c hc with h | ⟨p, hp, hc⟩
  · exact hs c h
  · obtain ⟨x, hx, rfl⟩ := List.mem_map.mp hp
    exact hw x hx c hc
/-- lists of truth values compared -/
theorem dpAll_bls {K : PySem.W.Frag} {H : Hp} : ∀ bs : List Bool, DpAll K H (bs.map V.bl) (bs.map PyData.bool)
  | [] => .nil
  | b :: r => .cons (.bl b) (dpAll_bls r)
theorem dp_bls {K : PySem.W.Frag} {H : Hp} {a : Addr} {bs : List Bool} (h : SqL K H a (bs.map V.bl)) : Dp K H (.ref a) (.list (bs.map PyData.bool)) := .lst h (dpAll_bls bs)
theorem lay_bls : ∀ bs : List Bool, PyData.canLayAll0 (bs.map PyData.bool) = true
  | [] => by simp [PyData.canLayAll0]
  | b :: r => by simp [PyData.canLayAll0, PyData.canLay0, lay_bls r]
theorem depth_bls : ∀ bs : List Bool, PyData.depthAll (bs.map PyData.bool) = 0
  | [] => rfl
  | _ :: r => by simp [PyData.depthAll, PyData.depth, depth_bls r]
theorem shaped_bls (bs : List Bool) : SeqAt.shaped (.list (bs.map PyData.bool)) = true := by
  simp [SeqAt.shaped, PyData.canLay0, PyData.depth, lay_bls bs, depth_bls]
theorem eqv_bls : ∀ bs cs : List Bool, PyData.eqvAll (bs.map PyData.bool) (cs.map PyData.bool) = decide (bs = cs)
  | [], [] => by simp [PyData.eqvAll]
  | [], _ :: _ => by simp [PyData.eqvAll]
  | _ :: _, [] => by simp [PyData.eqvAll]
  | b :: r, c :: q => by
    rw [List.map_cons, List.map_cons, PyData.eqvAll, PyData.eqv, eqv_bls r q]
    by_cases h : b = c <;> simp [h]
theorem eqv_blsL (bs cs : List Bool) : PyData.eqv (.list (bs.map PyData.bool)) (.list (cs.map PyData.bool)) = decide (bs = cs) := by rw [PyData.eqv, eqv_bls]
theorem lat_of {α : Type} {xs : List α} {z : Int} {j : Nat} {v : α} (e : z = (j : Int)) (h : xs[j]? = some v) : atI xs z = some v := by
  rw [e]
  exact atI_nat h
theorem getD_str (ws : List Str) (i : Nat) (hi : i < ws.length) : (ws.map V.str).getD i .non = .str (ws.getD i Str.empty) := by
  rw [List.getD_eq_getElem?_getD, List.getElem?_map, List.getElem?_eq_getElem hi, List.getD_eq_getElem?_getD, List.getElem?_eq_getElem hi]
  rfl
end LH
namespace LH
open PySem PySem.Spec PyProof.Rows L2
/-! ### and, or of values, each part told by its truth -/
theorem andV {ta tb : TE} {σ : L2.St} {H : Hp} {Q : VK} (c d : Bool) (ha : ∀ Q' : VK, Tell H (.bl c) Q' → ta σ H Q') (hb : c = true → ∀ (H1 : Hp) (Q' : VK), Same H H1 → Tell H1 (.bl d) Q' → tb σ H1 Q') (q : Tell H (.bl (c && d)) Q) : tAndV ta tb σ H Q := by
  refine ha _ fun H1 s1 => ⟨c, rfl, ?_⟩
  cases c with
  | true => exact iteT (hb rfl H1 Q s1 fun H2 s2 => q H2 (s1.trans s2))
  | false => exact iteF (q H1 s1)
theorem orV {ta tb : TE} {σ : L2.St} {H : Hp} {Q : VK} (c d : Bool) (ha : ∀ Q' : VK, Tell H (.bl c) Q' → ta σ H Q') (hb : c = false → ∀ (H1 : Hp) (Q' : VK), Same H H1 → Tell H1 (.bl d) Q' → tb σ H1 Q') (q : Tell H (.bl (c || d)) Q) : tOrV ta tb σ H Q := by
  refine ha _ fun H1 s1 => ⟨c, rfl, ?_⟩
  cases c with
  | true => exact iteT (q H1 s1)
  | false => exact iteF (hb rfl H1 Q s1 fun H2 s2 => q H2 (s1.trans s2))
/-- two blanks side by side -/
def dbl (s : Nat) (l : List Nat) : Bool := (List.range l.length).any fun i => decide (l[i]? = some s) && decide (l[i + 1]? = some s)
theorem dbl_iff (s : Nat) (l : List Nat) : dbl s l = true ↔ ∃ i, l[i]? = some s ∧ l[i + 1]? = some s := by
  unfold dbl
  rw [List.any_eq_true]
  constructor
  · rintro ⟨i, _, h⟩
    rw [Bool.and_eq_true, decide_eq_true_eq, decide_eq_true_eq] at h
    exact ⟨i, h⟩
  · rintro ⟨i, h1, h2⟩
    refine ⟨i, List.mem_range.mpr (List.getElem?_eq_some_iff.mp h1).1, ?_⟩
    rw [Bool.and_eq_true, decide_eq_true_eq, decide_eq_true_eq]
    exact ⟨h1, h2⟩
theorem take2 (s : Nat) : ∀ (l : List Nat) (i : Nat), (l.drop i).take 2 = [s, s] ↔ l[i]? = some s ∧ l[i + 1]? = some s
  | [], i => by simp
  | c :: r, 0 => by cases r <;> simp
  | c :: r, i + 1 => by simpa using take2 s r i
theorem in_two {x y : Str} {s : Nat} (hy : TL.tl y = [s, s]) : (!(Builtin.Str.occurrences x y 0 x.length 1).isEmpty) = dbl s (TL.tl x) := by
  rw [Bool.eq_iff_iff, PySem.StrLaws.found_iff, dbl_iff]
  have hyl : y.length = 2 := by rw [TL.len_tl, hy]; rfl
  constructor
  · rintro ⟨i, h1, h2⟩
    rw [PySem.StrLaws.subAt_eq, hyl] at h2
    exact ⟨i, (take2 s _ i).mp ((eq_of_beq h2).trans hy)⟩
  · rintro ⟨i, h⟩
    have hl := (List.getElem?_eq_some_iff.mp h.2).1
    refine ⟨i, by rw [hyl, TL.len_tl]; omega, ?_⟩
    rw [PySem.StrLaws.subAt_eq, hyl]
    refine beq_iff_eq.mpr ?_
    rw [show x.cps.toList = TL.tl x from rfl, (take2 s _ i).mpr h]
    exact hy.symm
theorem take1 (s : Nat) (l : List Nat) : l.take 1 = [s] ↔ l[0]? = some s := by cases l <;> simp
theorem dropL (s : Nat) (l : List Nat) : l.drop (l.length - 1) = [s] ↔ ∃ i, l[i]? = some s ∧ l[i + 1]? = none := by
  constructor
  · intro h
    refine ⟨l.length - 1, ?_, ?_⟩
    · have := congrArg (fun m : List Nat => m[0]?) h
      simpa using this
    · rw [List.getElem?_eq_none_iff]; omega
  · rintro ⟨i, h1, h2⟩
    obtain ⟨hl, e⟩ := List.getElem?_eq_some_iff.mp h1
    have hl2 := List.getElem?_eq_none_iff.mp h2
    have : i = l.length - 1 := by omega
    subst this
    rw [List.drop_eq_getElem_cons hl, e, List.drop_of_length_le (by omega)]
theorem blanks_iff (s : Nat) (l : List Nat) (h0 : l ≠ []) : (decide (l.take 1 = [s]) || (decide (l.drop (l.length - 1) = [s]) || dbl s l)) = decide ([] ∈ splitL s l) := by
  rw [Bool.eq_iff_iff, Bool.or_eq_true, Bool.or_eq_true, decide_eq_true_eq, decide_eq_true_eq, dbl_iff, decide_eq_true_eq, split_gap, take1, dropL]
  constructor
  · rintro (h | ⟨i, h1, h2⟩ | ⟨i, h1, h2⟩)
    · exact .inr (.inl h)
    · exact .inr (.inr ⟨i, h1, .inl h2⟩)
    · exact .inr (.inr ⟨i, h1, .inr h2⟩)
  · rintro (h | h | ⟨i, h1, h2 | h2⟩)
    · exact absurd h h0
    · exact .inl h
    · exact .inr (.inl ⟨i, h1, h2⟩)
    · exact .inr (.inr ⟨i, h1, h2⟩)
theorem cutS_last (z : Str) : TL.tl (cutS z (some (-1)) none) = (TL.tl z).drop ((TL.tl z).length - 1) := by
  unfold cutS
  rw [HT.sIx_none]
  have e : HT.sIx z.length 0 (some (-1)) = z.length - 1 := by
    show (if (-1 : Int) < 0 then (-1 + ((z.length : Nat) : Int)).toNat else min (-1 : Int).toNat z.length) = _
    rw [if_pos (by decide)]
    omega
  rw [e]
  show ((TL.tl z).drop (z.length - 1)).take (z.length - (z.length - 1)) = _
  rw [TL.len_tl]
  exact List.take_of_length_le (by rw [List.length_drop]; exact Nat.le_refl _)
end LH
namespace LH
open PySem PySem.Spec PyProof.Rows L2
theorem pickL {α : Type} (xs : List α) (m : Int) (h0 : 0 ≤ m) (h1 : m < xs.length) : ∃ x, x ∈ xs ∧ atI xs m = some x := by
  obtain ⟨j, rfl⟩ : ∃ j : Nat, m = (j : Int) := ⟨m.toNat, by omega⟩
  have hj : j < xs.length := by omega
  exact ⟨xs[j], List.getElem_mem hj, atI_nat (List.getElem?_eq_getElem hj)⟩
/-- a thing that is no text -/
def Odd (H : Hp) (x : V) : Prop := x = .non ∨ (∃ i, x = .int i) ∨ (∃ b, x = .bl b) ∨ ∃ a, x = .ref a ∧ ((∃ xs, H a = some (.lst xs)) ∨ (∃ xs, H a = some (.tup xs)) ∨ ∃ kvs, H a = some (.dK kvs))
theorem Odd.same {H H' : Hp} {x : V} (s : Same H H') (h : Odd H x) : Odd H' x := by
  rcases h with h | h | h | ⟨a, e, h⟩
  · exact .inl h
  · exact .inr (.inl h)
  · exact .inr (.inr (.inl h))
  · refine .inr (.inr (.inr ⟨a, e, ?_⟩))
    rcases h with ⟨xs, h⟩ | ⟨xs, h⟩ | ⟨xs, h⟩
    · exact .inl ⟨xs, s _ _ h⟩
    · exact .inr (.inl ⟨xs, s _ _ h⟩)
    · exact .inr (.inr ⟨xs, s _ _ h⟩)
theorem Odd.ty {K : PySem.W.Frag} {H : Hp} {x : V} (h : Odd H x) : ∃ t, TyX K H x t ∧ PySem.W.kitOne K t (.type "str") = some false := by
  rcases h with rfl | ⟨i, rfl⟩ | ⟨b, rfl⟩ | ⟨a, rfl, ⟨xs, h⟩ | ⟨xs, h⟩ | ⟨xs, h⟩⟩
  · exact ⟨_, .base .non, kit_ty (by decide +kernel)⟩
  · exact ⟨_, .base (.int i), kit_ty (by decide +kernel)⟩
  · exact ⟨_, .base (.bl b), kit_ty (by decide +kernel)⟩
  · exact ⟨_, .base (.lst h), kit_ty (by decide +kernel)⟩
  · exact ⟨_, .base (.tup h), kit_ty (by decide +kernel)⟩
  · exact ⟨_, .base (.dK h), kit_ty (by decide +kernel)⟩
end LH

namespace LH
open PySem PySem.Spec PyProof.Rows L2
/-! ### tests told by their truth; an if by its two branches -/
def TellB (H : Hp) (c : Bool) (k : Bool → Hp → Prop) : Prop := ∀ H1, Same H H1 → k c H1
section
variable {t u : TT} {σ : L2.St} {H : Hp} {k : Bool → Hp → Prop}
theorem orT (c d : Bool) (ha : ∀ k', TellB H c k' → t σ H k') (hb : c = false → ∀ H1 k', Same H H1 → TellB H1 d k' → u σ H1 k') (q : TellB H (c || d) k) : tOr t u σ H k := by
  refine ha _ fun H1 s1 => ?_
  cases c with
  | true => exact iteT (q H1 s1)
  | false => exact iteF (hb rfl H1 k s1 fun H2 s2 => q H2 (s1.trans s2))
theorem andT (c d : Bool) (ha : ∀ k', TellB H c k' → t σ H k') (hb : c = true → ∀ H1 k', Same H H1 → TellB H1 d k' → u σ H1 k') (q : TellB H (c && d) k) : tAnd t u σ H k := by
  refine ha _ fun H1 s1 => ?_
  cases c with
  | true => exact iteT (hb rfl H1 k s1 fun H2 s2 => q H2 (s1.trans s2))
  | false => exact iteF (q H1 s1)
theorem notT (c : Bool) (ha : ∀ k', TellB H c k' → t σ H k') (q : TellB H (!c) k) : tNot t σ H k := ha _ fun H1 s1 => q H1 s1
theorem ifT {tc : TT} {t u : TS} {D : Ends} (c : Bool) (hc : ∀ k', TellB H c k' → tc σ H k') (ht : c = true → ∀ H1, Same H H1 → t D σ H1) (hf : c = false → ∀ H1, Same H H1 → u D σ H1) : tIfS tc t u D σ H := by
  refine hc _ fun H1 s1 => ?_
  cases c with
  | true => exact iteT (ht rfl H1 s1)
  | false => exact iteF (hf rfl H1 s1)
theorem ifK {tc : TT} {t u : TS} {D : Ends} (G : ∀ D' : Ends, D' = D → tIfS tc t u D' σ H) : tIfS tc t u D σ H := G D rfl
theorem TellB.eq {c d : Bool} (h : c = d) (q : TellB H d k) : TellB H c k := h ▸ q
end
/-! ### lengths and signs of slices -/
theorem cutTo_len (z : Str) (p : Nat) : (cutS z none (some (p : Int))).length = min p z.length := by rw [cutS_to, mk_len, List.length_take, ← TL.len_tl]
theorem cutFrom_len (z : Str) (p : Nat) : (cutS z (some (p : Int)) none).length = z.length - p := by rw [cutS_from, mk_len, List.length_drop, ← TL.len_tl]
theorem mem_cut {z : Str} {lo hi : Option Int} {c : Nat} (h : c ∈ TL.tl (cutS z lo hi)) : c ∈ TL.tl z := List.mem_of_mem_drop (List.mem_of_mem_take h)
theorem cutV_from (z : List V) (a : Nat) : cutV z (some (a : Int)) none = z.drop a := by
  have e : cutV z (some (a : Int)) none = cutV z (some (a : Int)) (some ((z.length : Nat) : Int)) := by
    unfold cutV
    rw [HT.sIx_none, HT.sIx_nat, HT.sIx_nat]
    simp
  rw [e, cutV_at, List.take_of_length_le (by simp)]
theorem vint_dec (a b : Int) : decide (V.int a = V.int b) = decide (a = b) := decide_eq_decide.mpr ⟨V.int.inj, congrArg _⟩
theorem vstr_dec (a b : Str) : decide (V.str a = V.str b) = decide (a = b) := decide_eq_decide.mpr ⟨V.str.inj, congrArg _⟩
theorem or_false' {a b : Bool} (h : (a || b) = false) : a = false ∧ b = false := by cases a <;> cases b <;> simp_all
end LH
namespace LH
open PySem PySem.Spec PyProof.Rows L2
/-! ### while, its test told by its truth -/
theorem whileT {c : TT} {tb : TS} {D : Ends} {σ : L2.St} {H : Hp} (Pv : L2.St → Hp → Prop) (μ : L2.St → Hp → Nat) (h0 : Pv σ H)
    (hs : ∀ σ H, Pv σ H → ∃ b : Bool, (∀ k, TellB H b k → c σ H k) ∧ (b = true → ∀ H1, Same H H1 → tb { D with nx := fun σ' H' => Pv σ' H' ∧ μ σ' H' < μ σ H, ct := fun σ' H' => Pv σ' H' ∧ μ σ' H' < μ σ H, bk := D.nx } σ H1) ∧ (b = false → ∀ H1, Same H H1 → D.nx σ H1)) : tWhile c tb D σ H := by
  refine ⟨fun m σ H => m = μ σ H ∧ Pv σ H, ⟨_, rfl, h0⟩, ?_⟩
  rintro m σ H ⟨rfl, p⟩
  obtain ⟨b, ht, h1, h2⟩ := hs σ H p
  refine ht _ fun H1 s1 => ?_
  cases b with
  | true => exact ⟨_, fun σ' H' ⟨p', l⟩ => ⟨_, l, rfl, p'⟩, h1 rfl H1 s1⟩
  | false => exact h2 rfl H1 s1
end LH

namespace LH
open PySem PySem.Spec PyProof.Rows L2
/-! ### a comprehension over two clauses, the second one over a new list that the first one's item leads to -/
theorem lc_two {K : PySem.W.Frag} {J : It} {n : Nat} {G : Hp → Prop} {wi1 : TI} {te : TE} {c c1 : Nat} {σ : L2.St} {H1 : Hp} {D : Addr} {Qd : Hp → Prop} (xs : Nat → V) (ys : Nat → List V) (f : Nat → Nat → V) (hne : c ≠ c1) (w : Walk J n G (YFn xs)) (hG : ∀ H, Same H1 H → G H) (hD : H1 D = none)
    (hn : ∀ i, i ≤ n → (((List.range i).map fun i => (List.range (ys i).length).map (f i)).flatten).length ≤ sizeLine)
    (hi : ∀ i H (R : It → Hp → Prop), i < n → Same H1 H → (∀ H' p, Same H H' → H p = none → H' p = some (.lst (ys i)) → R (Itl K p) H') → wi1 (((σ.set c1 none).set c none).set c (some (xs i))) H R)
    (he : ∀ i j H Q, i < n → j < (ys i).length → Same H1 H → Tell H (f i j) Q → te (((((σ.set c1 none).set c none).set c (some (xs i))).set c1 none).set c1 (some ((ys i).getD j .non))) H Q)
    (hd : ∀ H, Same H1 H → H D = some (.lst (((List.range n).map fun i => (List.range (ys i).length).map (f i)).flatten)) → Qd H) :
    ∃ W : Nat → Nat → Hp → Prop, (∃ m, W 0 m (upd H1 D (.lst []))) ∧ ∀ i m H, W i m H →
      (J.stop i H ∧ Qd H) ∨ (J.go i H ∧ ∃ Nx : Hp → Prop, (∀ H', Nx H' → ∃ m', m' < m ∧ W (i + 1) m' H') ∧ ∀ x H', J.yld i H x H' → gName c x (wipe σ [c, c1]) H' fun σ2 H2 => wipe σ2 [c, c1] = wipe σ [c, c1] ∧ tYes σ2 H2 fun b H3 =>
        if b = true then wi1 σ2 H3 fun J1 H4 => ∃ W1 : Nat → Nat → Hp → Prop, (∃ m, W1 0 m H4) ∧ ∀ j k H, W1 j k H →
          (J1.stop j H ∧ Nx H) ∨ (J1.go j H ∧ ∃ Nx1 : Hp → Prop, (∀ H', Nx1 H' → ∃ k', k' < k ∧ W1 (j + 1) k' H') ∧ ∀ x H', J1.yld j H x H' → gName c1 x (wipe σ2 [c1]) H' fun σ3 H5 => wipe σ3 [c1] = wipe σ2 [c1] ∧ tYes σ3 H5 fun b H6 =>
            if b = true then te σ3 H6 fun y H7 => ∃ acc, H7 D = some (.lst acc) ∧ acc.length < sizeLine ∧ Nx1 (upd H7 D (.lst (acc ++ [y]))) else Nx1 H6)
        else Nx H3) := by
  let A : Nat → List V := fun i => ((List.range i).map fun i => (List.range (ys i).length).map (f i)).flatten
  have hA : ∀ i, A (i + 1) = A i ++ (List.range (ys i).length).map (f i) := fun i => by
    show ((List.range (i + 1)).map _).flatten = _
    rw [List.range_succ, List.map_append, List.flatten_append]
    simp [A]
  refine ⟨fun i m H => m = n - i ∧ i ≤ n ∧ Same H1 H ∧ H D = some (.lst (A i)), ⟨n, by simp, Nat.zero_le _, same_upd hD, upd_same⟩, ?_⟩
  rintro i m H ⟨rfl, hin, sm, eD⟩
  have q := hG H sm
  by_cases hlt : i < n
  · refine .inr ⟨w.goes i H hlt q, fun H' => Same H1 H' ∧ H' D = some (.lst (A (i + 1))), fun H' p' => ⟨n - (i + 1), by omega, rfl, hlt, p'⟩, fun x H' y => ?_⟩
    obtain ⟨rfl, rfl⟩ := w.yields i H x H' hlt q y
    refine ⟨?_, ?_⟩
    · show (((((σ.set c1 none).set c none).set c (some (xs i))).set c1 none).set c none) = (σ.set c1 none).set c none
      rw [List.set_set, List.set_comm _ _ hne]
      simp only [List.set_set]
    · unfold tYes
      dsimp only
      rw [if_pos rfl]
      refine hi i H' _ hlt sm fun H4 p s4 np ep => ?_
      have hpD : p ≠ D := fun e => by rw [e, eD] at np; exact nomatch np
      have hl := hn (i + 1) hlt
      refine ⟨fun j k H => k = (ys i).length - j ∧ j ≤ (ys i).length ∧ Same H1 H ∧ H p = some (.lst (ys i)) ∧ H D = some (.lst (A i ++ ((List.range j).map (f i)))), ⟨(ys i).length, by simp, Nat.zero_le _, sm.trans s4, ep, by simpa using s4 _ _ eD⟩, ?_⟩
      rintro j k H5 ⟨rfl, hj, s5, e5, eD5⟩
      by_cases hjl : j < (ys i).length
      · refine .inr ⟨⟨ys i, (ys i)[j], .inl (.inl e5), by simp [hjl]⟩, fun H' => Same H1 H' ∧ H' p = some (.lst (ys i)) ∧ H' D = some (.lst (A i ++ ((List.range (j + 1)).map (f i)))), fun H' p' => ⟨(ys i).length - (j + 1), by omega, rfl, hjl, p'⟩, fun x H6 y => ?_⟩
        obtain ⟨rfl, hx⟩ := y
        have hx := hx (ys i) (.inl (.inl e5))
        have ex : x = (ys i).getD j .non := by rw [List.getD_eq_getElem?_getD, hx]; rfl
        subst ex
        refine ⟨?_, ?_⟩
        · show (((((((σ.set c1 none).set c none).set c (some (xs i))).set c1 none).set c1 (some ((ys i).getD j .non)))).set c1 none) = (((σ.set c1 none).set c none).set c (some (xs i))).set c1 none
          rw [List.set_set, List.set_set]
        · rw [if_pos rfl]
          refine he i j H6 _ hlt hjl s5 fun H7 s7 => ⟨_, s7 _ _ eD5, ?_, ?_, ?_, ?_⟩
          · have e1 : (A (i + 1)).length ≤ sizeLine := hl
            rw [hA, List.length_append, List.length_map, List.length_range] at e1
            rw [List.length_append, List.length_map, List.length_range]
            omega
          · intro b o hb
            rw [upd_ne (ne_of_none hb hD)]
            exact s7 _ _ (s5 _ _ hb)
          · rw [upd_ne hpD]
            exact s7 _ _ e5
          · rw [upd_same, List.range_succ, List.map_append, List.append_assoc]
            rfl
      · have hj2 : j = (ys i).length := by omega
        subst hj2
        refine .inl ⟨⟨ys i, .inl (.inl e5), Nat.le_refl _⟩, s5, ?_⟩
        rw [hA]
        exact eD5
  · have e : i = n := by omega
    subst e
    exact .inl ⟨w.stops H q, hd H sm eD⟩
end LH
namespace LH
open PySem PySem.Spec PyProof.Rows L2
theorem cutV_last (z : List V) : cutV z (some (-1)) none = z.drop (z.length - 1) := by
  unfold cutV
  rw [HT.sIx_none]
  have e : HT.sIx z.length 0 (some (-1)) = z.length - 1 := by
    show (if (-1 : Int) < 0 then (-1 + (z.length : Int)).toNat else min (-1 : Int).toNat z.length) = _
    rw [if_pos (by decide)]
    omega
  rw [e, List.take_of_length_le]
  rw [List.length_drop]
  exact Nat.le_refl _
theorem drop_last_eq {α : Type} (l : List α) (x : α) : l.drop (l.length - 1) = [x] ↔ l.getLast? = some x := by
  rcases List.eq_nil_or_concat l with h | ⟨L, y, h⟩
  · subst h; simp
  · rw [List.concat_eq_append] at h
    subst h
    rw [List.length_append, List.length_singleton, Nat.add_sub_cancel, List.drop_left, List.getLast?_concat]
    simp
end LH
namespace LH
open PySem PySem.Spec PyProof.Rows L2
theorem pi_listK {X : Cx} {tg e : Expr} {te : TE} (K : PySem.W.Frag) (he : PE X e te) (h : X.K = K := by rfl) : PI X tg e (iList K te) := h ▸ pi_list he
end LH

namespace LH
open PySem PySem.Spec PySem.Calls PyProof.Rows L2 Builtin Builtin.Str Builtin.Int Builtin.Float
/-! ### a number by a written form -/
def FmtI (sp : Str) (i : Int) (y : Str) : Prop := ∀ (prog : Program) (w : World) (A : Around) (E : Value → Shared → Prop) (s : Shared) (t : Tok) (Q : Value → Shared → Prop), (∀ t' k, Q (.str y t') { s with toks := k }) → wpAny (model prog w) A (formatField (.int i t) sp) Q E s
def hexF : FormatSpec := { fill := 48, align := 61, width := some 2, type := some 88 }
def hexT (i : Int) : Str := intField' hexF (decide (i < 0)) [] ((Nat.toDigits 16 i.natAbs).map fun c => (if (88 : Nat) == 88 then c.toUpper else c).toNat) [] 4
theorem hex_parse : parseFormatSpec (Str.ofString "02X").cps.toList "int" 62 = .ok hexF := by kernel_rfl
def hexDig (n : Nat) : Nat := if n < 10 then 48 + n else 55 + n
theorem hexT_eq {b : Nat} (h : b < 256) : hexT (b : Nat) = ⟨#[hexDig (b / 16), hexDig (b % 16)]⟩ := by
  have : ∀ d : Fin 256, (hexT (d.val : Nat)).cps.toList = [hexDig (d.val / 16), hexDig (d.val % 16)] := by decide +kernel
  exact TL.ext_tl (this ⟨b, h⟩)
set_option maxHeartbeats 4000000 in
theorem fmt_hex {b : Nat} (h : b < 256) : FmtI (Str.ofString "02X") (b : Nat) ⟨#[hexDig (b / 16), hexDig (b % 16)]⟩ := by
  intro prog w A E s t Q q
  have hlen : (hexT (b : Nat)).length ≤ sizeLine := by rw [hexT_eq h, sizeLine_eq]; show 2 ≤ 16777216; decide
  rw [← hexT_eq h] at q
  refine PySem.W.KXf.field_int (spec' := Str.ofString "02X") (y := hexT (b : Nat)) rfl (by decide +kernel) (by decide +kernel) ?_ q
  intro _
  apply PySem.W.KPc.meets_of
  intro _ _ _ _ _ _ _
  unfold Builtin.«int.__format__»
  refine wpAny_bind (wpAny_of_eq (a := (_, _)) rfl ?_)
  refine wpAny_bind (wpAny_of_eq (a := _) rfl ?_)
  kxf_if
  refine wpAny_bind (wpAny_typeNameOf (T := "str") (typeIs_str _ _ _) (by decide) fun _ => ?_)
  refine wpAny_bind (wpAny_of_eq (a := some _) rfl ?_)
  kxf_if
  kxf_if
  refine wpAny_bind (wpAny_typeNameOfCut_int ?_)
  simp only [hex_parse, hexF]
  (repeat kxf_if)
  refine PySem.W.KXf.ret_text (T := hexT (b : Nat)) rfl hlen ?_
  assumption
/-! ### a number by figures, noughts ahead -/
def decF (k : Nat) : FormatSpec := { fill := 48, align := 61, width := some k, type := some 100 }
def decT (k : Nat) (i : Int) : Str := intField' (decF k) (decide (i < 0)) [] ((Nat.toDigits 10 i.natAbs).map fun c => (if (100 : Nat) == 88 then c.toUpper else c).toNat) [] 3
theorem dec2_parse : parseFormatSpec (Str.ofString "02d").cps.toList "int" 62 = .ok (decF 2) := by kernel_rfl
theorem dec4_parse : parseFormatSpec (Str.ofString "04d").cps.toList "int" 62 = .ok (decF 4) := by kernel_rfl
theorem dec2_eq {b : Nat} (h : b < 100) : decT 2 (b : Nat) = ⟨#[48 + b / 10, 48 + b % 10]⟩ := by
  have : ∀ d : Fin 100, (decT 2 (d.val : Nat)).cps.toList = [48 + d.val / 10, 48 + d.val % 10] := by decide +kernel
  exact TL.ext_tl (this ⟨b, h⟩)
section
variable {X : Cx}
def tFmtS (te : TE) (sp : Str) : TE := fun σ H Q => te σ H fun x H1 => ∃ i y, x = .int i ∧ FmtI sp i y ∧ Q (.str y) H1
theorem pe_fmtS {e spec : Expr} {te : TE} {sp : Str} {pos : Pos} (he : PE X e te) (hs : PE X spec (tC (.str sp))) : PE X (.FormattedValue e (-1) (some spec) pos) (tFmtS te sp) := by
  refine ⟨fun pins s σ H Q I h => ?_⟩
  refine wpAny_FormattedValue_spec (thn (he.run pins s σ H _ I h) fun v s1 hv => ?_)
  obtain ⟨x, H1, I1, r1, i, y, rfl, hf, q⟩ := hv
  obtain ⟨t, rfl⟩ := r1
  refine thn (hs.run pins s1 σ H1 (fun z H2 => z = .str sp ∧ Q (.str y) H2) I1 ⟨rfl, q⟩) fun v2 s2 hv => ?_
  obtain ⟨z, H2, I2, r2, rfl, q2⟩ := hv
  obtain ⟨t2, rfl⟩ := r2
  exact ⟨sp, t2, rfl, hf _ _ _ _ _ _ _ fun t' k => ⟨.str y, H2, I2.tok _, ⟨_, rfl⟩, q2⟩⟩
end
end LH

namespace LH
open PySem PySem.Spec PyProof.Rows L2
/-! ### o[i] op= e of a list -/
def rGetL (K : PySem.W.Frag) : V → V → Hp → VK → Prop := fun o i H Q => ∃ p xs k v, o = .ref p ∧ i = .int k ∧ SqL K H p xs ∧ atI xs k = some v ∧ Q v H
theorem get_list {X : Cx} : PGet X (rGetL X.K) := by
  intro pins s σ H x y v u Q I rx ry h
  obtain ⟨p, xs, i, z, rfl, rfl, hq, he, q⟩ := h
  cases rx
  obtain ⟨t, rfl⟩ := ry
  obtain ⟨its, r, pl, hz⟩ := I.list hq
  obtain ⟨j, h1, h2, h3, h4, h5⟩ := atI_get he
  obtain ⟨w, ew, rw'⟩ := r.get h2
  have hl := r.length
  have hn := line63
  have fin : EP X pins σ Q w s := ⟨z, H, I, rw', q⟩
  by_cases h0 : 0 ≤ i
  · have hj : i.toNat = j := by
      rw [seqIndex_of h0 h5] at h1
      exact Option.some.inj h1
    exact wpAny_getItem_list pl.isList h0 (by omega) (by rw [hj]; simpa using ew) fin
  · have hj : (i + (its.toArray.size : Int)).toNat = j := by
      rw [seqIndex_neg (by omega) h4] at h1
      rw [List.size_toArray, ← hl]
      exact Option.some.inj h1
    exact wpAny_getItem_list_neg pl.isList (by omega) (by rw [List.size_toArray] <;> omega) (by omega) (by rw [hj]; simpa using ew) fin
theorem get_listK {X : Cx} (K : PySem.W.Frag) (h : X.K = K := by rfl) : PGet X (rGetL K) := h ▸ get_list
theorem ixN_last {α : Type} (xs : List α) (v : α) : ixN (xs ++ [v]).length (-1) = some xs.length := by
  have hl : (xs ++ [v]).length = xs.length + 1 := by simp
  unfold ixN
  rw [hl, if_neg (by decide), if_pos (by omega)]
  congr 1
  omega
theorem set_last {α : Type} (xs : List α) (v u : α) : (xs ++ [v]).set xs.length u = xs ++ [u] := by
  rw [List.set_append_right _ _ (Nat.le_refl _), Nat.sub_self]
  rfl
/-! ### small letters made great -/
def Sm (l : List Nat) : Prop := ∀ c ∈ l, 97 ≤ c ∧ c ≤ 122
def cap : List Nat → List Nat
  | [] => []
  | c :: r => (c - 32) :: r
theorem title_small {c : Nat} (h : 97 ≤ c ∧ c ≤ 122) : Unicode.titleOf c = [c - 32] := by
  have : ∀ d : Fin 26, Unicode.titleOf (97 + d.val) = [97 + d.val - 32] := by decide +kernel
  have e := this ⟨c - 97, by omega⟩
  rwa [show 97 + (c - 97) = c by omega] at e
theorem upper_small {c : Nat} (h : 97 ≤ c ∧ c ≤ 122) : Unicode.upperOf c = [c - 32] := by
  have : ∀ d : Fin 26, Unicode.upperOf (97 + d.val) = [97 + d.val - 32] := by decide +kernel
  have e := this ⟨c - 97, by omega⟩
  rwa [show 97 + (c - 97) = c by omega] at e
theorem lower_small {c : Nat} (h : 97 ≤ c ∧ c ≤ 122) : Unicode.lowerOf c = [c] := by
  have : ∀ d : Fin 26, Unicode.lowerOf (97 + d.val) = [97 + d.val] := by decide +kernel
  have e := this ⟨c - 97, by omega⟩
  rwa [show 97 + (c - 97) = c by omega] at e
theorem tl_placed (x : Str) (f : Nat → Nat → List Nat) : TL.tl ⟨placed x f⟩ = ((TL.tl x).mapIdx f).flatten := by
  unfold placed TL.tl
  simp only [Array.toList_flatten, Array.toList_mapIdx]
  congr 1
  apply List.ext_getElem?
  intro i
  rw [List.getElem?_map, List.getElem?_mapIdx, List.getElem?_mapIdx]
  cases x.cps.toList[i]? <;> rfl
theorem mapIdx_same {f g : Nat → Nat → List Nat} : ∀ l : List Nat, (∀ i c, l[i]? = some c → f i c = g i c) → l.mapIdx f = l.mapIdx g := fun l h => by
  apply List.ext_getElem?
  intro i
  rw [List.getElem?_mapIdx, List.getElem?_mapIdx]
  cases e : l[i]? with
  | none => rfl
  | some c => exact congrArg some (h i c e)
theorem flat_one : ∀ l : List Nat, (l.mapIdx fun _ c => [c]).flatten = l := by
  intro l
  rw [List.mapIdx_eq_zipIdx_map]
  induction l with
  | nil => rfl
  | cons c r ih =>
    have : ∀ (l : List Nat) (n : Nat), ((l.zipIdx n).map fun (p : Nat × Nat) => [p.1]).flatten = l := by
      intro l
      induction l with
      | nil => intro n; rfl
      | cons c r ih => intro n; rw [List.zipIdx_cons, List.map_cons, List.flatten_cons, ih]; rfl
    exact this _ 0
theorem cap_eq (x : Str) (h : Sm (TL.tl x)) : TL.tl (Txt.capitalize x) = cap (TL.tl x) := by
  unfold Txt.capitalize
  by_cases h0 : (x.length == 0) = true
  · rw [if_pos h0]
    have : TL.tl x = [] := by
      have e := eq_of_beq h0
      rw [TL.len_tl] at e
      exact List.length_eq_zero_iff.mp e
    rw [this]
    rfl
  · rw [if_neg h0]
    unfold Txt.capitalized
    rw [tl_placed, mapIdx_same (g := fun i c => if i = 0 then [c - 32] else [c]) _ fun i c hc => ?_]
    · cases e : TL.tl x with
      | nil => rfl
      | cons c r =>
        rw [List.mapIdx_cons, List.flatten_cons]
        show [c - 32] ++ _ = (c - 32) :: r
        have : (r.mapIdx fun i c => if i + 1 = 0 then [c - 32] else [c]) = r.mapIdx fun _ c => [c] := mapIdx_same r fun i c _ => if_neg (by omega)
        rw [this, flat_one]
        rfl
    · have hm := h c (List.mem_of_getElem? hc)
      by_cases hi : i = 0
      · subst hi
        exact title_small hm
      · have hb : (i == 0) = false := by simpa using hi
        rw [if_neg hi]
        show (if (i == 0) = true then Unicode.titleOf c else Unicode.lowerAt x.cps i) = [c]
        rw [hb, if_neg Bool.false_ne_true]
        unfold Unicode.lowerAt
        have ec : x.cps[i]? = some c := by rw [← hc]; exact Array.getElem?_toList.symm
        rw [ec]
        show (if (c == 0x3A3 && Unicode.endsWord x.cps i) = true then [0x3C2] else Unicode.lowerOf c) = [c]
        have hb2 : (c == 0x3A3) = false := by simp; omega
        rw [hb2, Bool.false_and, if_neg Bool.false_ne_true]
        exact lower_small hm
theorem upper_eq (x : Str) (h : Sm (TL.tl x)) : TL.tl (Txt.upper x) = (TL.tl x).map fun c => c - 32 := by
  unfold Txt.upper
  rw [tl_placed, mapIdx_same (g := fun _ c => [c - 32]) _ fun i c hc => upper_small (h c (List.mem_of_getElem? hc))]
  generalize TL.tl x = l
  have : (l.mapIdx fun _ c => [c - 32]) = (l.map fun c => c - 32).mapIdx fun _ c => [c] := by
    apply List.ext_getElem?
    intro i
    rw [List.getElem?_mapIdx, List.getElem?_mapIdx, List.getElem?_map]
    cases l[i]? <;> rfl
  rw [this, flat_one]
theorem upper_cap (x : Str) (h : Sm (TL.tl x)) : TL.tl (Txt.upper (cutS x none (some 1)) ++ cutS x (some 1) none) = cap (TL.tl x) := by
  have e1 : TL.tl (cutS x none (some 1)) = (TL.tl x).take 1 := by rw [show (1 : Int) = ((1 : Nat) : Int) from rfl, cutS_to]
  have e2 : TL.tl (cutS x (some 1) none) = (TL.tl x).drop 1 := by rw [show (1 : Int) = ((1 : Nat) : Int) from rfl, cutS_from]
  rw [TL.tl_append, upper_eq _ (by rw [e1]; exact fun c hc => h c (List.mem_of_mem_take hc)), e1, e2]
  cases TL.tl x with
  | nil => rfl
  | cons c r => simp [cap]
theorem cap_len (l : List Nat) : (cap l).length = l.length := by cases l <;> rfl
/-! ### words of a text -/
/-- a word's signs: none of them a blank -/
def WordL (l : List Nat) : Prop := l ≠ [] ∧ ∀ c ∈ l, 33 ≤ c ∧ c ≤ 126 ∧ c ≠ 37
theorem space_no {c : Nat} (h : 33 ≤ c ∧ c ≤ 126) : Unicode.isSpace c = false := by
  have : ∀ d : Fin 94, Unicode.isSpace (33 + d.val) = false := by decide +kernel
  have e := this ⟨c - 33, by omega⟩
  rwa [show 33 + (c - 33) = c by omega] at e
theorem words_join (ws : List Str) (h : ∀ x ∈ ws, WordL (TL.tl x)) (sp : Str) (hs : TL.tl sp = [32]) : Txt.words (Txt.join sp ws) = ws := by
  refine TL.map_tl_inj ?_
  rw [TL.words_tl, TL.join_eq, TL.tl_join, hs]
  cases ws with
  | nil => rfl
  | cons x r =>
    rw [TL.wfold_join _ _ (by simp) fun p hp => ?_, List.nil_append]
    obtain ⟨y, hy, rfl⟩ := List.mem_map.mp hp
    exact ⟨(h y hy).1, fun c hc => space_no ⟨((h y hy).2 c hc).1, ((h y hy).2 c hc).2.1⟩⟩
/-! ### joined by a sign and split there again -/
theorem splitL_app (s : Nat) (w r : List Nat) (hw : s ∉ w) : splitL s (w ++ s :: r) = w :: splitL s r := by
  induction w with
  | nil => simp [splitL]
  | cons c w ih =>
    have hc : c ≠ s := fun h => hw (by rw [h]; exact List.mem_cons_self)
    have ih' := ih fun h => hw (List.mem_cons_of_mem _ h)
    show splitL s (c :: (w ++ s :: r)) = _
    rw [splitL, if_neg hc, ih']
    rfl
theorem splitL_self (s : Nat) (w : List Nat) (hw : s ∉ w) : splitL s w = [w] := by
  induction w with
  | nil => rfl
  | cons c w ih =>
    have hc : c ≠ s := fun h => hw (by rw [h]; exact List.mem_cons_self)
    rw [splitL, if_neg hc, ih fun h => hw (List.mem_cons_of_mem _ h)]
    rfl
theorem splitL_join (s : Nat) : ∀ ps : List (List Nat), ps ≠ [] → (∀ p ∈ ps, s ∉ p) → splitL s (TL.joinL [s] ps) = ps
  | [], h, _ => absurd rfl h
  | [p], _, h => splitL_self s p (h p (by simp))
  | p :: q :: r, _, h => by
    rw [TL.joinL]
    show splitL s (p ++ s :: TL.joinL [s] (q :: r)) = _
    rw [splitL_app s p _ (h p (by simp)), splitL_join s (q :: r) (by simp) fun x hx => h x (List.mem_cons_of_mem _ hx)]
/-! ### a header's rows -/
def hstep (st : List (List Nat) × List Nat) (w : List Nat) : List (List Nat) × List Nat :=
  if 60 < st.2.length + 1 + w.length then (st.1 ++ [st.2], 32 :: w) else (st.1, st.2 ++ 32 :: w)
def great (l : List Nat) : List Nat := TL.joinL [45] ((splitL 45 l).map cap)
def hfold (l : List Nat) (ws : List (List Nat)) : List (List Nat) × List Nat := ws.foldl hstep ([], great l ++ [58])
def hrows (l : List Nat) (ws : List (List Nat)) : List (List Nat) := (hfold l ws).1 ++ [(hfold l ws).2]
def strL (ls : List (List Nat)) : List Str := ls.map fun l => ⟨l.toArray⟩
theorem strL_app (a b : List (List Nat)) : strL (a ++ b) = strL a ++ strL b := by unfold strL; rw [List.map_append]
theorem hfold_snoc (l : List Nat) (ws : List (List Nat)) (w : List Nat) : hfold l (ws ++ [w]) = hstep (hfold l ws) w := by
  unfold hfold
  rw [List.foldl_append]
  rfl
theorem foldl_rev_ind {P : List (List Nat) → Prop} (h0 : P []) (hs : ∀ ws w, P ws → P (ws ++ [w])) : ∀ ws, P ws := by
  intro ws
  have key : ∀ r : List (List Nat), P r.reverse := by
    intro r
    induction r with
    | nil => exact h0
    | cons w r ih => rw [List.reverse_cons]; exact hs _ _ ih
  have := key ws.reverse
  rwa [List.reverse_reverse] at this
theorem hfold_len (l : List Nat) (hl : (great l).length ≤ 59) : ∀ ws : List (List Nat), (∀ w ∈ ws, w.length ≤ 59) → (hfold l ws).2.length ≤ 60 ∧ (∀ r ∈ (hfold l ws).1, r.length ≤ 60) ∧ (hfold l ws).1.length ≤ ws.length := by
  refine foldl_rev_ind (P := fun ws => (∀ w ∈ ws, w.length ≤ 59) → (hfold l ws).2.length ≤ 60 ∧ (∀ r ∈ (hfold l ws).1, r.length ≤ 60) ∧ (hfold l ws).1.length ≤ ws.length) ?_ ?_
  · intro _
    refine ⟨?_, (fun r hr => by cases hr), Nat.le_refl _⟩
    show (great l ++ [58]).length ≤ 60
    rw [List.length_append, List.length_singleton]
    omega
  · intro ws w ih h
    obtain ⟨h1, h2, h3⟩ := ih fun x hx => h x (by simp [hx])
    have hw := h w (by simp)
    rw [hfold_snoc]
    unfold hstep
    split
    · refine ⟨by simp only [List.length_cons]; omega, fun r hr => ?_, by simp only [List.length_append, List.length_singleton]; omega⟩
      rcases List.mem_append.mp hr with hr | hr
      · exact h2 r hr
      · rw [List.mem_singleton.mp hr]; exact h1
    · refine ⟨by simp only [List.length_append, List.length_cons]; omega, h2, by simp only [List.length_append, List.length_singleton]; omega⟩
theorem hfold_ok (l : List Nat) (hl : ∀ c ∈ great l, c < 1114112) : ∀ ws : List (List Nat), (∀ w ∈ ws, ∀ c ∈ w, c < 1114112) → (∀ c ∈ (hfold l ws).2, c < 1114112) ∧ ∀ r ∈ (hfold l ws).1, ∀ c ∈ r, c < 1114112 := by
  refine foldl_rev_ind (P := fun ws => (∀ w ∈ ws, ∀ c ∈ w, c < 1114112) → (∀ c ∈ (hfold l ws).2, c < 1114112) ∧ ∀ r ∈ (hfold l ws).1, ∀ c ∈ r, c < 1114112) ?_ ?_
  · intro _
    refine ⟨fun c hc => ?_, fun r hr => by cases hr⟩
    rcases List.mem_append.mp (show c ∈ great l ++ [58] from hc) with h | h
    · exact hl c h
    · rw [List.mem_singleton.mp h]; decide
  · intro ws w ih h
    obtain ⟨h1, h2⟩ := ih fun x hx => h x (by simp [hx])
    have hw := h w (by simp)
    have hw' : ∀ c ∈ 32 :: w, c < 1114112 := fun c hc => by
      rcases List.mem_cons.mp hc with rfl | hc
      · decide
      · exact hw c hc
    rw [hfold_snoc]
    unfold hstep
    split
    · refine ⟨hw', fun r hr => ?_⟩
      rcases List.mem_append.mp hr with hr | hr
      · exact h2 r hr
      · rw [List.mem_singleton.mp hr]; exact h1
    · refine ⟨fun c hc => ?_, h2⟩
      rcases List.mem_append.mp hc with h | h
      · exact h1 c h
      · exact hw' c h
end LH

namespace K07
open PySem PySem.Spec PyProof.Rows L2 LH
def topS (i : Nat) : Stmt := PySem.Challenge.pw_letterhouse_k07_sixteens_told.main.body.getD i (.Pass ⟨0, 0, 0, 0⟩)
def MSIGNS : Str := Str.ofString " !\"#$&'()*+,-./0123456789:;<=>?@ABCDEFGHIJKLMNOPQRSTUVWXYZ[\\]^_`abcdefghijklmnopqrstuvwxyz{|}~"
structure Tx (mg : Str → Option Value) (tk : Nat → Tok) : Prop where
  n_all : mg "all" = none
  n_bool : mg "bool" = none
  n_enumerate : mg "enumerate" = none
  n_int : mg "int" = none
  n_isinstance : mg "isinstance" = none
  n_len : mg "len" = none
  n_list : mg "list" = none
  n_max : mg "max" = none
  n_ord : mg "ord" = none
  n_range : mg "range" = none
  n_str : mg "str" = none
  n_sum : mg "sum" = none
  m_PERCENT : mg "PERCENT" = some (.int 37 (tk 0))
  m_ROW_END : mg "ROW_END" = some (.int 10 (tk 1))
  m_ROW_SIGNS : mg "ROW_SIGNS" = some (.int 60 (tk 2))
  m_SIGNS : mg "SIGNS" = some (.str MSIGNS (tk 3))
end K07

namespace K07
open PySem PySem.Spec PyProof.Rows L2 LH
section
variable {P : Program} {w : World} {K : PySem.W.Frag} {mg : Str → Option Value} {base : Heap} {tk : Nat → Tok} {ca : Nat → Addr}
/-! ### bytes -/
def nb (l : List Nat) : List V := l.map fun b => .int (b : Nat)
def BytesN (l : List Nat) : Prop := ∀ b ∈ l, b < 256
theorem nb_len (l : List Nat) : (nb l).length = l.length := List.length_map ..
theorem nb_at (l : List Nat) {i : Nat} (h : i < l.length) : (nb l).getD i .non = .int (l.getD i 0 : Nat) := by
  unfold nb
  rw [List.getD_eq_getElem?_getD, List.getElem?_map, List.getElem?_eq_getElem h, List.getD_eq_getElem?_getD, List.getElem?_eq_getElem h]
  rfl
theorem getD_mem {α : Type} (l : List α) (d : α) {i : Nat} (h : i < l.length) : l.getD i d ∈ l := by
  rw [List.getD_eq_getElem?_getD, List.getElem?_eq_getElem h]
  exact List.getElem_mem h
def isSgn (b : Nat) : Bool := decide (32 ≤ b) && decide (b ≤ 126) && !decide (b = 37)
/-! ### is_number -/
abbrev s_is_number : Stmt := topS 7
abbrev N_is_number : List Str := ["thing"]
abbrev P_is_number : List Str := ["thing"]
theorem sc_is_number : FnScope N_is_number ["thing"] (defScope s_is_number) := ⟨rfl, rfl, rfl, by decide +kernel, rfl, by decide +kernel, by decide +kernel⟩
def sp_is_number : Sp := fun vs H Q _ => ∃ i : Int, vs = [.int i] ∧ Tell H (.bl true) Q
theorem ok_is_number {f : Addr} {fd : FuncData} {k : Nat} (F : Fun K "is_number" "is_number" s_is_number f fd) (T : Tx mg tk) : FnOk P w K mg base CX0 (k + 1) f fd P_is_number sp_is_number := by
  refine F.ok sc_is_number (fun vs H Q E h => ?_) (fun cdv A outer s H vs Q E hr h => ?_)
  · obtain ⟨i, rfl, _⟩ := h
    rfl
  · have nd := sc_is_number.nd
    obtain ⟨i, rfl, q⟩ := h
    refine ⟨_, (pss_one (ps_ret (pe_and (pe_callB (cIsi K) (by rfl) T.n_isinstance (by decide +kernel) (pa_cons (pv 0) (pa_cons (pe_bltn (v := .ty "int") (by rfl) T.n_int (by decide +kernel) rfl) pa_nil))) (pe_one (pe_not (pe_callB (cIsi K) (by rfl) T.n_isinstance (by decide +kernel) (pa_cons (pv 0) (pa_cons (pe_bltn (v := .ty "bool") (by rfl) T.n_bool (by decide +kernel) rfl) pa_nil)))))))), ?_⟩
    refine ⟨.int i, rfl, .int i, .ty "int", _, _, true, rfl, .ty _, .base (.int i), kit_ty (by decide +kernel), true, rfl, iteT ⟨.int i, rfl, .int i, .ty "bool", _, _, false, rfl, .ty _, .base (.int i), kit_ty (by decide +kernel), false, rfl, q H (Same.refl _)⟩⟩
/-! ### is_bytes -/
abbrev s_is_bytes : Stmt := topS 8
abbrev N_is_bytes : List Str := ["thing", "byte"]
abbrev P_is_bytes : List Str := ["thing"]
theorem sc_is_bytes : FnScope N_is_bytes ["thing"] (defScope s_is_bytes) := ⟨rfl, rfl, rfl, by decide +kernel, rfl, by decide +kernel, by decide +kernel⟩
def sp_is_bytes : Sp := fun vs H Q _ => ∃ (a : Addr) (l : List Nat), vs = [.ref a] ∧ H a = some (.lst (nb l)) ∧ BytesN l ∧ l.length ≤ 100000 ∧ Tell H (.bl true) Q
theorem ok_is_bytes {f fN : Addr} {fd fdN : FuncData} (F : Fun K "is_bytes" "is_bytes" s_is_bytes f fd) (T : Tx mg tk) (D_is_number : Def P w K mg base "is_number" 1 fN fdN P_is_number sp_is_number) : FnOk P w K mg base CX0 2 f fd P_is_bytes sp_is_bytes := by
  refine F.ok sc_is_bytes (fun vs H Q E h => ?_) (fun cdv A outer s H vs Q E hr h => ?_)
  · obtain ⟨a, l, rfl, _⟩ := h
    rfl
  · have nd := sc_is_bytes.nd
    obtain ⟨a, l, rfl, hS, hb, hl, q⟩ := h
    refine ⟨_, (pss_cons (ps_if (pt_not (pt_val (pe_callB (cIsi K) (by rfl) T.n_isinstance (by decide +kernel) (pa_cons (pv 0) (pa_cons (pe_bltn (v := .ty "list") (by rfl) T.n_list (by decide +kernel) rfl) pa_nil)))))
        (pss_one (ps_ret pe_bl))
        pss_nil)
      (pss_one (ps_ret (pe_callB (cAll K) (by rfl) T.n_all (by decide +kernel) (pa_cons (pe_lc (own := [("byte", 1)]) (g := gName 1) (by rfl) nd (pi_list (pv 0)) (blkOk_by (N := N_is_bytes) (sc := defScope s_is_bytes) (by decide +kernel)) (fun _ _ _ _ _ => (pg_name (i := 1) nd rfl (Or.inl rfl))) (fun _ _ _ _ _ => pts_nil) (fun _ _ _ _ _ => (pe_and (pe_def D_is_number (hr.mono (by decide)) (pa_cons (pv 1) pa_nil)) (pe_one (pe_chain op_le op_le pe_int (pv 1) pe_int))))) pa_nil))))), ?_⟩
    refine ifT false (fun k q1 => notT true (fun k q2 => ⟨.ref a, rfl, .ref a, .ty "list", _, _, true, rfl, .ty _, .base (.lst hS), kit_ty (by decide +kernel), true, rfl, q2 _ (Same.refl _)⟩) q1) (fun h => nomatch h) (fun _ H1 s1 => ?_)
    have eS := s1 _ _ hS
    refine ⟨.ref a, rfl, a, rfl, ⟨_, .inl (.inl eS)⟩, fun D hD => lc_pure (fun i => (nb l).getD i .non) (fun _ => .bl true) walk_listF (fun H2 s2 => s2.seq (.inl (.inl eS))) hD (by rw [nb_len, sizeLine_eq]; omega) (fun i H2 Q2 hi s2 q2 => ?_) (fun H2 s2 e => ?_)⟩
    · rw [nb_len] at hi
      rw [nb_at l hi]
      have hbi := hb _ (getD_mem l 0 hi)
      generalize l.getD i 0 = b at *
      refine ⟨.int (b : Nat), rfl, _, rfl, fun H3 s3 => ⟨true, rfl, iteT ?_⟩⟩
      refine ⟨.int (b : Nat), rfl, 0, _, rfl, rfl, _, rfl, ?_⟩
      rw [decide_eq_true (show (0 : Int) ≤ ((b : Nat) : Int) by omega)]
      refine iteT ⟨_, _, rfl, rfl, ?_⟩
      show Q2 (.bl (decide (((b : Nat) : Int) ≤ 255))) _
      rw [decide_eq_true (show ((b : Nat) : Int) ≤ 255 by omega)]
      exact q2 _ s3
    · refine ⟨D, (List.range (nb l).length).map fun _ => true, rfl, .inl (.inl (by rw [e, List.map_map]; rfl)), ?_⟩
      rw [map_true]
      exact q _ (s1.trans s2)
/-! ### is_sign_byte -/
abbrev s_is_sign_byte : Stmt := topS 9
abbrev N_is_sign_byte : List Str := ["byte"]
abbrev P_is_sign_byte : List Str := ["byte"]
theorem sc_is_sign_byte : FnScope N_is_sign_byte ["byte"] (defScope s_is_sign_byte) := ⟨rfl, rfl, rfl, by decide +kernel, rfl, by decide +kernel, by decide +kernel⟩
def sp_sign_byte : Sp := fun vs H Q _ => ∃ b : Nat, vs = [.int (b : Nat)] ∧ Tell H (.bl (isSgn b)) Q
theorem ok_sign_byte {f : Addr} {fd : FuncData} {k : Nat} (F : Fun K "is_sign_byte" "is_sign_byte" s_is_sign_byte f fd) (T : Tx mg tk) : FnOk P w K mg base CX0 (k + 1) f fd P_is_sign_byte sp_sign_byte := by
  refine F.ok sc_is_sign_byte (fun vs H Q E h => ?_) (fun cdv A outer s H vs Q E hr h => ?_)
  · obtain ⟨b, rfl, _⟩ := h
    rfl
  · have nd := sc_is_sign_byte.nd
    obtain ⟨b, rfl, q⟩ := h
    refine ⟨_, (pss_one (ps_ret (pe_and (pe_chain op_le op_le pe_int (pv 0) pe_int) (pe_one (pe_cmpR op_ne (pv 0) (pe_glob (v := .int 37) (by rfl) T.m_PERCENT ⟨_, rfl⟩) (nomark _)))))), ?_⟩
    have q0 := q H (Same.refl _)
    unfold isSgn at q0
    refine ⟨.int (b : Nat), rfl, 32, _, rfl, rfl, _, rfl, ?_⟩
    by_cases h1 : 32 ≤ b
    · rw [decide_eq_true (show (32 : Int) ≤ ((b : Nat) : Int) by omega)]
      rw [decide_eq_true h1] at q0
      refine iteT ⟨_, 126, rfl, rfl, _, rfl, ?_⟩
      by_cases h2 : b ≤ 126
      · rw [decide_eq_true (show ((b : Nat) : Int) ≤ 126 by omega)]
        rw [decide_eq_true h2] at q0
        refine iteT ⟨.int (b : Nat), rfl, rfl, ?_⟩
        rw [show decide (V.int ((b : Nat) : Int) = V.int 37) = decide (b = 37) by rw [vint_dec]; exact decide_eq_decide.mpr (by omega)]
        exact q0
      · rw [decide_eq_false (show ¬ ((b : Nat) : Int) ≤ 126 by omega)]
        rw [decide_eq_false h2] at q0
        exact iteF q0
    · rw [decide_eq_false (show ¬ (32 : Int) ≤ ((b : Nat) : Int) by omega)]
      rw [decide_eq_false h1] at q0
      exact iteF ⟨false, rfl, iteF q0⟩
/-! ### sign_of_byte -/
abbrev s_sign_of_byte : Stmt := topS 10
abbrev N_sign_of_byte : List Str := ["byte"]
abbrev P_sign_of_byte : List Str := ["byte"]
theorem sc_sign_of_byte : FnScope N_sign_of_byte ["byte"] (defScope s_sign_of_byte) := ⟨rfl, rfl, rfl, by decide +kernel, rfl, by decide +kernel, by decide +kernel⟩
theorem ms_at : ∀ b : Fin 127, isSgn b.val = true → (if b.val < 37 then (TL.tl MSIGNS)[b.val - 32]? else (TL.tl MSIGNS)[b.val - 33]?) = some b.val := by decide +kernel
def sp_sign_of : Sp := fun vs H Q _ => ∃ b : Nat, vs = [.int (b : Nat)] ∧ isSgn b = true ∧ Tell H (.str ⟨#[b]⟩) Q
theorem ok_sign_of {f : Addr} {fd : FuncData} {k : Nat} (F : Fun K "sign_of_byte" "sign_of_byte" s_sign_of_byte f fd) (T : Tx mg tk) : FnOk P w K mg base CX0 (k + 1) f fd P_sign_of_byte sp_sign_of := by
  refine F.ok sc_sign_of_byte (fun vs H Q E h => ?_) (fun cdv A outer s H vs Q E hr h => ?_)
  · obtain ⟨b, rfl, _⟩ := h
    rfl
  · have nd := sc_sign_of_byte.nd
    obtain ⟨b, rfl, hb, q⟩ := h
    refine ⟨_, (pss_one (ps_ret (pe_ifExp (pt_cmpR op_lt (pv 0) (pe_glob (v := .int 37) (by rfl) T.m_PERCENT ⟨_, rfl⟩) (nomark _)) (pe_ix ix_str (pe_glob (v := .str MSIGNS) (by rfl) T.m_SIGNS ⟨_, rfl⟩) (pe_op op_sub (pv 0) pe_int) (fun _ _ => rfl)) (pe_ix ix_str (pe_glob (v := .str MSIGNS) (by rfl) T.m_SIGNS ⟨_, rfl⟩) (pe_op op_sub (pv 0) pe_int) (fun _ _ => rfl))))), ?_⟩
    have hs := hb
    unfold isSgn at hs
    simp only [Bool.and_eq_true, decide_eq_true_eq] at hs
    have hm := ms_at ⟨b, by omega⟩ hb
    have hl : MSIGNS.length ≤ sizeLine := by decide +kernel
    refine ⟨.int (b : Nat), rfl, _, 37, rfl, rfl, _, rfl, ?_⟩
    by_cases h : b < 37
    · rw [decide_eq_true (show ((b : Nat) : Int) < 37 by omega)]
      rw [if_pos h] at hm
      refine iteT ⟨.int (b : Nat), rfl, _, 32, rfl, rfl, MSIGNS, _, b, rfl, rfl, hl, ?_, q _ (Same.refl _)⟩
      rw [show ((b : Nat) : Int) - 32 = ((b - 32 : Nat) : Int) by omega]
      exact atI_nat hm
    · rw [decide_eq_false (show ¬ ((b : Nat) : Int) < 37 by omega)]
      rw [if_neg h] at hm
      refine iteF ⟨.int (b : Nat), rfl, _, 33, rfl, rfl, MSIGNS, _, b, rfl, rfl, hl, ?_, q _ (Same.refl _)⟩
      rw [show ((b : Nat) : Int) - 33 = ((b - 33 : Nat) : Int) by omega]
      exact atI_nat hm
end
end K07

namespace K07
open PySem PySem.Spec PyProof.Rows L2 LH
section
variable {P : Program} {w : World} {K : PySem.W.Frag} {mg : Str → Option Value} {base : Heap} {tk : Nat → Tok} {ca : Nat → Addr}
/-! ### the signs of a byte by sixteens -/
def hexL (b : Nat) : List Nat := [61, hexDig (b / 16), hexDig (b % 16)]
def uL (b : Nat) : List Nat := if (isSgn b && !decide (b = 61)) = true then [b] else hexL b
def uS (b : Nat) : Str := ⟨(uL b).toArray⟩
def fixL (us : List (List Nat)) : List (List Nat) := if us.getLast? = some [32] then us.dropLast ++ [hexL 32] else us
theorem hexDig_lt {n : Nat} (h : n < 16) : hexDig n < 128 := by unfold hexDig; split <;> omega
theorem uL_low {b : Nat} (h : b < 256) : ∀ c ∈ uL b, c < 128 := fun c hc => by
  unfold uL at hc
  split at hc
  · rename_i hs
    rw [List.mem_singleton.mp hc]
    unfold isSgn at hs
    simp only [Bool.and_eq_true, decide_eq_true_eq] at hs
    omega
  · have h1 := hexDig_lt (n := b / 16) (by omega)
    have h2 := hexDig_lt (n := b % 16) (by omega)
    simp only [hexL, List.mem_cons, List.mem_nil_iff, or_false] at hc
    omega
theorem uL_len (b : Nat) : 1 ≤ (uL b).length ∧ (uL b).length ≤ 3 := by
  unfold uL
  split
  · exact ⟨Nat.le_refl 1, by show 1 ≤ 3; decide⟩
  · exact ⟨by show 1 ≤ 3; decide, Nat.le_refl 3⟩
/-- units: each of one to three signs below 128 -/
def UnitsL (us : List (List Nat)) : Prop := ∀ u ∈ us, (1 ≤ u.length ∧ u.length ≤ 3) ∧ ∀ c ∈ u, c < 128
theorem units_map {l : List Nat} (h : BytesN l) : UnitsL (l.map uL) := fun u hu => by
  obtain ⟨b, hb, rfl⟩ := List.mem_map.mp hu
  exact ⟨uL_len b, uL_low (h b hb)⟩
theorem units_fix {us : List (List Nat)} (h : UnitsL us) : UnitsL (fixL us) := fun u hu => by
  unfold fixL at hu
  split at hu
  · rcases List.mem_append.mp hu with hu | hu
    · exact h u (List.dropLast_subset _ hu)
    · rw [List.mem_singleton.mp hu]
      exact ⟨⟨by decide, by decide⟩, by decide +kernel⟩
  · exact h u hu
theorem fix_len (us : List (List Nat)) : (fixL us).length = us.length := by
  unfold fixL
  split
  · rename_i h
    rcases List.eq_nil_or_concat us with h0 | ⟨L, y, h0⟩
    · subst h0; simp at h
    · rw [List.concat_eq_append] at h0
      subst h0
      simp
  · rfl
theorem fix_last (us : List (List Nat)) : (fixL us).getLast? ≠ some [32] := by
  unfold fixL
  split
  · rw [List.getLast?_concat]
    decide +kernel
  · assumption
theorem strL_len (us : List (List Nat)) : (strL us).length = us.length := List.length_map ..
theorem units_okS {us : List (List Nat)} (h : UnitsL us) : ∀ x ∈ strL us, OkS x := fun x hx => by
  obtain ⟨u, hu, rfl⟩ := List.mem_map.mp hx
  intro c hc
  have := (h u hu).2 c hc
  omega
theorem okS_blank : ∀ x ∈ [Str.ofString " "], OkS x := fun x hx c hc => by
  rw [List.mem_singleton.mp hx] at hc
  have : ∀ d ∈ TL.tl (Str.ofString " "), d < 1114112 := by decide +kernel
  exact this c hc
/-! ### figures_of -/
abbrev s_figures_of : Stmt := topS 17
abbrev N_figures_of : List Str := ["byte"]
abbrev P_figures_of : List Str := ["byte"]
theorem sc_figures_of : FnScope N_figures_of ["byte"] (defScope s_figures_of) := ⟨rfl, rfl, rfl, by decide +kernel, rfl, by decide +kernel, by decide +kernel⟩
def sp_figures : Sp := fun vs H Q _ => ∃ b : Nat, vs = [.int (b : Nat)] ∧ b < 256 ∧ Tell H (.str ⟨(hexL b).toArray⟩) Q
theorem ok_figures {f : Addr} {fd : FuncData} {k : Nat} (F : Fun K "figures_of" "figures_of" s_figures_of f fd) : FnOk P w K mg base CX0 (k + 1) f fd P_figures_of sp_figures := by
  refine F.ok sc_figures_of (fun vs H Q E h => ?_) (fun cdv A outer s H vs Q E hr h => ?_)
  · obtain ⟨b, rfl, _⟩ := h
    rfl
  · have nd := sc_figures_of.nd
    obtain ⟨b, rfl, hb, q⟩ := h
    refine ⟨_, (pss_one (ps_ret (pe_joined (PJ.cons pe_str (PJ.cons (pe_fmtS (pv 0) (pe_joined1 pe_str)) PJ.nil))))), ?_⟩
    refine ⟨Str.ofString "=", rfl, by decide +kernel, .int (b : Nat), rfl, (b : Nat), _, rfl, fmt_hex hb, _, rfl, by rw [len_app, len_app]; show _ + _ + 2 ≤ _; decide +kernel, ?_⟩
    have e : Str.empty ++ Str.ofString "=" ++ ⟨#[hexDig (b / 16), hexDig (b % 16)]⟩ = ⟨(hexL b).toArray⟩ := TL.ext_tl (by rw [TL.tl_append, TL.tl_append, show TL.tl Str.empty = [] from rfl, show TL.tl (Str.ofString "=") = [61] by decide +kernel]; rfl)
    show Q (.str (Str.empty ++ Str.ofString "=" ++ ⟨#[hexDig (b / 16), hexDig (b % 16)]⟩)) _
    rw [e]
    exact q _ (Same.refl _)
/-! ### part_of -/
abbrev s_part_of : Stmt := topS 16
abbrev N_part_of : List Str := ["byte"]
abbrev P_part_of : List Str := ["byte"]
theorem sc_part_of : FnScope N_part_of ["byte"] (defScope s_part_of) := ⟨rfl, rfl, rfl, by decide +kernel, rfl, by decide +kernel, by decide +kernel⟩
def sp_part_of : Sp := fun vs H Q _ => ∃ b : Nat, vs = [.int (b : Nat)] ∧ b < 256 ∧ Tell H (.str (uS b)) Q
theorem ok_part_of {f fB fO fF : Addr} {fd fdB fdO fdF : FuncData} (F : Fun K "part_of" "part_of" s_part_of f fd) (T : Tx mg tk) (D_is_sign_byte : Def P w K mg base "is_sign_byte" 1 fB fdB P_is_sign_byte sp_sign_byte) (D_sign_of_byte : Def P w K mg base "sign_of_byte" 1 fO fdO P_sign_of_byte sp_sign_of) (D_figures_of : Def P w K mg base "figures_of" 1 fF fdF P_figures_of sp_figures) : FnOk P w K mg base CX0 2 f fd P_part_of sp_part_of := by
  refine F.ok sc_part_of (fun vs H Q E h => ?_) (fun cdv A outer s H vs Q E hr h => ?_)
  · obtain ⟨b, rfl, _⟩ := h
    rfl
  · have nd := sc_part_of.nd
    obtain ⟨b, rfl, hb, q⟩ := h
    refine ⟨_, (pss_cons (ps_if (PW.pt (pw_and (pt_val (pe_def D_is_sign_byte (hr.mono (by decide)) (pa_cons (pv 0) pa_nil))) (pw_and1 (pt_cmpR op_ne (pv 0) (pe_callB call_ord (by rfl) T.n_ord (by decide +kernel) (pa_cons pe_str pa_nil)) (nomark _)))))
        (pss_one (ps_ret (pe_def D_sign_of_byte (hr.mono (by decide)) (pa_cons (pv 0) pa_nil))))
        pss_nil)
      (pss_one (ps_ret (pe_def D_figures_of (hr.mono (by decide)) (pa_cons (pv 0) pa_nil))))), ?_⟩
    unfold uS uL at q
    refine ifT (isSgn b && !decide (b = 61)) (fun k q1 => andT _ _ (fun k q2 => ⟨.int (b : Nat), rfl, b, rfl, fun H1 s1 => ⟨_, rfl, q2 _ s1⟩⟩) (fun _ H1 k s1 q2 => ⟨.int (b : Nat), rfl, Str.ofString "=", rfl, by decide +kernel, rfl, _, rfl, ?_⟩) q1) (fun hc H1 s1 => ?_) (fun hc H1 s1 => ?_)
    · refine TellB.eq ?_ q2 _ (Same.refl _)
      rw [show ((Str.ofString "=").cps.getD 0 0 : Nat) = 61 by decide +kernel, vint_dec]
      congr 1
      exact decide_eq_decide.mpr (by omega)
    · rw [if_pos hc] at q
      have hs : isSgn b = true := (Bool.and_eq_true _ _ ▸ hc).1
      exact ⟨.int (b : Nat), rfl, b, rfl, hs, fun H2 s2 => q _ (s1.trans s2)⟩
    · rw [if_neg (by rw [hc]; exact Bool.false_ne_true)] at q
      exact ⟨.int (b : Nat), rfl, b, rfl, hb, fun H2 s2 => q _ (s1.trans s2)⟩
/-! ### parts_of -/
abbrev s_parts_of : Stmt := topS 15
abbrev N_parts_of : List Str := ["line", "parts", "byte"]
abbrev P_parts_of : List Str := ["line"]
theorem sc_parts_of : FnScope N_parts_of ["line"] (defScope s_parts_of) := ⟨rfl, rfl, rfl, by decide +kernel, rfl, by decide +kernel, by decide +kernel⟩
def sp_parts_of : Sp := fun vs H Q _ => ∃ (a : Addr) (l : List Nat), vs = [.ref a] ∧ H a = some (.lst (nb l)) ∧ BytesN l ∧ l.length ≤ 100000 ∧ New H ((strL (fixL (l.map uL))).map V.str) Q
theorem ok_parts_of {f fP fF : Addr} {fd fdP fdF : FuncData} (F : Fun K "parts_of" "parts_of" s_parts_of f fd) (T : Tx mg tk) (D_part_of : Def P w K mg base "part_of" 2 fP fdP P_part_of sp_part_of) (D_figures_of : Def P w K mg base "figures_of" 1 fF fdF P_figures_of sp_figures) : FnOk P w K mg base CX0 3 f fd P_parts_of sp_parts_of := by
  refine F.ok sc_parts_of (fun vs H Q E h => ?_) (fun cdv A outer s H vs Q E hr h => ?_)
  · obtain ⟨a, l, rfl, _⟩ := h
    rfl
  · have nd := sc_parts_of.nd
    obtain ⟨a, l, rfl, hS, hb, hl, q⟩ := h
    refine ⟨_, (pss_cons (ps_setLc (i := 1) (own := [("byte", 2)]) (g := gName 2) (by rfl) nd rfl rfl (sw_true rfl rfl rfl (by decide +kernel)) (pi_list (pv 0)) (blkOk_by (N := N_parts_of) (sc := defScope s_parts_of) (by decide +kernel)) (fun _ _ _ _ _ => (pg_name (i := 2) nd rfl (Or.inl rfl))) (fun _ _ _ _ _ => pts_nil) (fun _ _ _ _ _ => (pe_def D_part_of (hr.mono (by decide)) (pa_cons (pv 2) pa_nil))))
      (pss_cons (ps_if (pt_cmpR (oEqD K hr.units) (pe_slice (slL K) (pv 1) (po_some (pe_un un_neg pe_int)) po_none) (pe_lst (pa_cons pe_str pa_nil)) (nomark _))
        (pss_one (ps_asg (pe_def D_figures_of (hr.mono (by decide)) (pa_cons (pe_callB call_ord (by rfl) T.n_ord (by decide +kernel) (pa_cons pe_str pa_nil)) pa_nil)) (pg_sub (pv 1) (pe_un un_neg pe_int) set_list)))
        pss_nil)
      (pss_one (ps_ret (pv 1))))), ?_⟩
    refine ⟨.ref a, rfl, a, rfl, ⟨_, .inl (.inl hS)⟩, fun D hD => lc_pure (fun i => (nb l).getD i .non) (fun i => .str (uS (l.getD i 0))) walk_listF (fun H2 s2 => s2.seq (.inl (.inl hS))) hD (by rw [nb_len, sizeLine_eq]; omega) (fun i H2 Q2 hi s2 q2 => ?_) (fun H2 s2 e => ?_)⟩
    · rw [nb_len] at hi
      rw [nb_at l hi]
      exact ⟨.int (l.getD i 0 : Nat), rfl, l.getD i 0, rfl, hb _ (getD_mem l 0 hi), q2⟩
    · have e2 : (List.range (nb l).length).map (fun i => V.str (uS (l.getD i 0))) = (strL (l.map uL)).map V.str := by
        rw [nb_len]
        have := congrArg (List.map fun b => V.str (uS b)) (LH.range_getD l 0)
        rw [List.map_map] at this
        rw [show (fun i => V.str (uS (l.getD i 0))) = (fun b => V.str (uS b)) ∘ fun i => l.getD i 0 from rfl, this]
        unfold strL
        rw [List.map_map, List.map_map]
        rfl
      rw [e2] at e
      have hU := units_map hb
      have hm : ((strL (l.map uL)).map V.str).length = l.length := by rw [List.length_map, strL_len, List.length_map]
      have ok1 := units_okS hU
      dsimp only [gName]
      refine ifT (decide ((l.map uL).getLast? = some [32])) (fun k q1 => ⟨.ref D, rfl, 1, rfl, _, rfl, D, _, rfl, .inl (.inl e), fun g ng => ⟨Nat.le_of_lt (small1000 (show 1 ≤ 1000 by decide)), fun g2 ng2 => ?_⟩⟩) (fun hc H3 s3 => ?_) (fun hc H3 s3 => ?_)
      · have t1 := same_upd (o := .lst (cutV ((strL (l.map uL)).map V.str) (some (-1)) none)) ng
        have ecut : cutV ((strL (l.map uL)).map V.str) (some (-1)) none = ((strL (l.map uL)).drop ((strL (l.map uL)).length - 1)).map V.str := by rw [cutV_last, List.length_map, List.map_drop]
        rw [ecut] at t1 ng2 ⊢
        refine ⟨_, _, dp_strs (.inl (.inl (same_upd ng2 _ _ upd_same))), dp_strs (bs := [Str.ofString " "]) (.inl (.inl upd_same)), shaped_strs _ (fun x hx => ok1 x (List.mem_of_mem_drop hx)), shaped_strs _ okS_blank, _, rfl, TellB.eq ?_ q1 _ (t1.trans (same_upd ng2))⟩
        rw [eqv_strsL]
        refine decide_eq_decide.mpr ?_
        rw [drop_last_eq]
        unfold strL
        rw [List.getLast?_map]
        cases (l.map uL).getLast? with
        | none => simp
        | some u =>
          show some _ = some _ ↔ some u = some [32]
          rw [Option.some.injEq, Option.some.injEq, str_eq_iff, show TL.tl (Str.ofString " ") = [32] by decide +kernel]
      · have hc := of_decide_eq_true hc
        rcases List.eq_nil_or_concat (l.map uL) with h0 | ⟨L, y, h0⟩
        · rw [h0] at hc; simp at hc
        · rw [List.concat_eq_append] at h0
          rw [h0, List.getLast?_concat] at hc
          have ex : fixL (l.map uL) = L ++ [hexL 32] := by
            unfold fixL
            rw [h0, List.getLast?_concat, if_pos hc, List.dropLast_concat]
          have eD := s3 _ _ e
          rw [h0, strL_app, List.map_append] at eD
          have eD : H3 D = some (.lst ((strL L).map V.str ++ [.str ⟨y.toArray⟩])) := eD
          refine ⟨Str.ofString " ", rfl, by decide +kernel, 32, (by rw [show ((Str.ofString " ").cps.getD 0 0 : Nat) = 32 by decide +kernel]; rfl), by decide, fun H4 s4 => ?_⟩
          refine ⟨.ref D, rfl, 1, rfl, D, _, -1, _, rfl, rfl, s4 _ _ eD, ixN_last _ _, ?_⟩
          rw [set_last]
          refine ⟨.ref D, rfl, q _ D (fun b o eb => ?_) hD ?_⟩
          · rw [upd_ne (ne_of_none eb hD)]
            exact s4 _ _ (s3 _ _ (s2 _ _ eb))
          · rw [upd_same, ex, strL_app, List.map_append]
            rfl
      · have hc := of_decide_eq_false hc
        have ex : fixL (l.map uL) = l.map uL := by unfold fixL; rw [if_neg hc]
        rw [ex] at q
        exact ⟨.ref D, rfl, q _ D (s2.trans s3) hD (s3 _ _ e)⟩
end
end K07

namespace K07
open PySem PySem.Spec PyProof.Rows L2 LH
section
variable {P : Program} {w : World} {K : PySem.W.Frag} {mg : Str → Option Value} {base : Heap} {tk : Nat → Tok} {ca : Nat → Addr}
/-! ### the bytes between the ends of rows -/
def pstep (s : Nat) (st : List (List Nat)) (b : Nat) : List (List Nat) := if b = s then st ++ [[]] else st.dropLast ++ [st.getLastD [] ++ [b]]
theorem pstep_hit (s : Nat) (st : List (List Nat)) {b : Nat} (h : b = s) : pstep s st b = st ++ [[]] := if_pos h
theorem pstep_miss (s : Nat) (st : List (List Nat)) {b : Nat} (h : ¬ b = s) : pstep s st b = st.dropLast ++ [st.getLastD [] ++ [b]] := if_neg h
theorem splitL_fold (s : Nat) : ∀ (l : List Nat) (A : List (List Nat)) (c : List Nat), l.foldl (pstep s) (A ++ [c]) = A ++ ((c ++ (splitL s l).headD []) :: (splitL s l).tail)
  | [], A, c => by simp [splitL]
  | b :: r, A, c => by
    rw [List.foldl_cons]
    by_cases h : b = s
    · rw [pstep_hit _ _ h, splitL_fold s r (A ++ [c]) []]
      conv => rhs; unfold splitL
      rw [if_pos h]
      have e := splitL_eta s r
      simp only [List.headD_cons, List.tail_cons, List.append_nil, List.nil_append, List.append_assoc, List.singleton_append]
      rw [← e]
    · rw [pstep_miss _ _ h, List.dropLast_concat, List.getLastD_concat, splitL_fold s r A (c ++ [b])]
      conv => rhs; unfold splitL
      rw [if_neg h]
      simp
theorem split_fold (s : Nat) (l : List Nat) : l.foldl (pstep s) [[]] = splitL s l := by
  have := splitL_fold s l [] []
  rw [List.nil_append, List.nil_append, List.nil_append] at this
  rw [this, ← splitL_eta]
/-- a list of lists of bytes that is being made -/
structure LsInv (H0 H : Hp) (o : Addr) (L : List (Addr × List Nat)) : Prop where
  lst : H o = some (.lst (L.map fun e => V.ref e.1))
  con : ∀ e ∈ L, H e.1 = some (.lst (nb e.2))
  new : ∀ e ∈ L, H0 e.1 = none
  off : ∀ e ∈ L, e.1 ≠ o
  dif : (L.map fun e => e.1).Nodup
theorem LsInv.same {H0 H H' : Hp} {o : Addr} {L : List (Addr × List Nat)} (h : LsInv H0 H o L) (s : Same H H') : LsInv H0 H' o L := ⟨s _ _ h.lst, fun e he => s _ _ (h.con e he), h.new, h.off, h.dif⟩
/-- a new empty list behind the others, in the same outer list -/
theorem LsInv.push {H0 H : Hp} {o t : Addr} {L : List (Addr × List Nat)} (h : LsInv H0 H o L) (s0 : Same H0 H) (nt : H t = none) : LsInv H0 (upd (upd H t (.lst [])) o (.lst ((L.map fun e => V.ref e.1) ++ [.ref t]))) o (L ++ [(t, [])]) := by
  have hto : t ≠ o := fun z => by rw [z, h.lst] at nt; exact nomatch nt
  refine ⟨by rw [upd_same, List.map_append]; rfl, fun e he => ?_, fun e he => ?_, fun e he => ?_, ?_⟩
  · rcases List.mem_append.mp he with he | he
    · rw [upd_ne (h.off e he), upd_ne (ne_of_none (h.con e he) nt)]; exact h.con e he
    · rw [List.mem_singleton.mp he]; show upd _ o _ t = _; rw [upd_ne hto, upd_same]; rfl
  · rcases List.mem_append.mp he with he | he
    · exact h.new e he
    · rw [List.mem_singleton.mp he]; exact s0.free nt
  · rcases List.mem_append.mp he with he | he
    · exact h.off e he
    · rw [List.mem_singleton.mp he]; exact hto
  · rw [List.map_append, List.nodup_append]
    refine ⟨h.dif, by simp, fun a ha b hb => ?_⟩
    obtain ⟨e, he, rfl⟩ := List.mem_map.mp ha
    have : b = t := by simpa using hb
    rw [this]
    exact ne_of_none (h.con e he) nt
/-- the same in a new outer list -/
theorem LsInv.cat {H0 H : Hp} {o o' t : Addr} {L : List (Addr × List Nat)} (h : LsInv H0 H o L) (s0 : Same H0 H) (nt : H t = none) (et : ∃ H1, Same H H1 ∧ H1 t = some (.lst []) ∧ H1 o' = none) {H2 : Hp} (s2 : Same H H2) (e2 : H2 t = some (.lst [])) (eo : H2 o' = some (.lst ((L.map fun e => V.ref e.1) ++ [.ref t]))) : LsInv H0 H2 o' (L ++ [(t, [])]) := by
  obtain ⟨H1, s1, e1, n1⟩ := et
  refine ⟨by rw [eo, List.map_append]; rfl, fun e he => ?_, fun e he => ?_, fun e he => ?_, ?_⟩
  · rcases List.mem_append.mp he with he | he
    · exact s2 _ _ (h.con e he)
    · rw [List.mem_singleton.mp he]; exact e2
  · rcases List.mem_append.mp he with he | he
    · exact h.new e he
    · rw [List.mem_singleton.mp he]; exact s0.free nt
  · rcases List.mem_append.mp he with he | he
    · exact ne_of_none (s1 _ _ (h.con e he)) n1
    · rw [List.mem_singleton.mp he]; exact ne_of_none e1 n1
  · rw [List.map_append, List.nodup_append]
    refine ⟨h.dif, by simp, fun a ha b hb => ?_⟩
    obtain ⟨e, he, rfl⟩ := List.mem_map.mp ha
    have : b = t := by simpa using hb
    rw [this]
    exact ne_of_none (h.con e he) nt
/-- a byte more in the last list -/
theorem LsInv.last {H0 H : Hp} {o t : Addr} {l : List Nat} {b : Nat} {L : List (Addr × List Nat)} (h : LsInv H0 H o (L ++ [(t, l)])) : LsInv H0 (upd H t (.lst (nb l ++ [.int (b : Nat)]))) o (L ++ [(t, l ++ [b])]) := by
  have hm : (t, l) ∈ L ++ [(t, l)] := by simp
  have hto : t ≠ o := h.off _ hm
  have hd := h.dif
  rw [List.map_append, List.nodup_append] at hd
  refine ⟨?_, fun e he => ?_, fun e he => ?_, fun e he => ?_, ?_⟩
  · rw [upd_ne (Ne.symm hto), h.lst, List.map_append, List.map_append]
    rfl
  · rcases List.mem_append.mp he with he | he
    · have : e.1 ≠ t := hd.2.2 e.1 (List.mem_map.mpr ⟨e, he, rfl⟩) t (by simp)
      rw [upd_ne this]; exact h.con e (by simp [he])
    · rw [List.mem_singleton.mp he]
      show upd H t _ t = _
      rw [upd_same]
      unfold nb
      rw [List.map_append]
      rfl
  · rcases List.mem_append.mp he with he | he
    · exact h.new e (by simp [he])
    · rw [List.mem_singleton.mp he]; exact h.new (t, l) hm
  · rcases List.mem_append.mp he with he | he
    · exact h.off e (by simp [he])
    · rw [List.mem_singleton.mp he]; exact hto
  · rw [List.map_append]
    have := h.dif
    rw [List.map_append] at this
    exact this
/-- a new list of lists of bytes -/
def NewLs (H : Hp) (ps : List (List Nat)) (Q : VK) : Prop := ∀ H' p (ts : List Addr), Same H H' → H p = none → H' p = some (.lst (ts.map V.ref)) → ts.length = ps.length →
  (∀ i, i < ps.length → H' (ts.getD i 0) = some (.lst (nb (ps.getD i []))) ∧ H (ts.getD i 0) = none) → Q (.ref p) H'
theorem LsInv.tell {H0 H : Hp} {o : Addr} {L : List (Addr × List Nat)} {ps : List (List Nat)} {Q : VK} (h : LsInv H0 H o L) (s : Same H0 H) (ho : H0 o = none) (e : L.map (fun e => e.2) = ps) (q : NewLs H0 ps Q) : Q (.ref o) H := by
  subst e
  refine q H o (L.map fun e => e.1) s ho (by rw [h.lst, List.map_map]; rfl) (by rw [List.length_map, List.length_map]) fun i hi => ?_
  rw [List.length_map] at hi
  have h1 := h.con L[i] (List.getElem_mem hi)
  have h2 := h.new L[i] (List.getElem_mem hi)
  rw [List.getD_eq_getElem?_getD, List.getElem?_map, List.getElem?_eq_getElem hi, List.getD_eq_getElem?_getD, List.getElem?_map, List.getElem?_eq_getElem hi]
  exact ⟨h1, h2⟩
def sp_lines : Sp := fun vs H Q _ => ∃ (a : Addr) (l : List Nat), vs = [.ref a] ∧ H a = some (.lst (nb l)) ∧ l.length ≤ 100000 ∧ NewLs H (splitL 10 l) Q
theorem fold_ne (s : Nat) (l : List Nat) : ∀ st : List (List Nat), st ≠ [] → l.foldl (pstep s) st ≠ [] := by
  induction l with
  | nil => intro st h; exact h
  | cons b r ih => intro st h; exact ih _ (by unfold pstep; split <;> simp)
theorem fold_many (s : Nat) (l : List Nat) : ∀ st : List (List Nat), (l.foldl (pstep s) st).length ≤ st.length + l.length + 1 := by
  induction l with
  | nil => intro st; simp
  | cons b r ih =>
    intro st
    have := ih (pstep s st b)
    have h2 : (pstep s st b).length ≤ st.length + 1 := by
      unfold pstep
      split <;> simp
    rw [List.foldl_cons, List.length_cons]
    rcases Nat.lt_or_ge (pstep s st b).length (st.length + 1) with h | h <;> omega
theorem map_snd_last {L : List (Addr × List Nat)} {t : Addr} {l : List Nat} : (L ++ [(t, l)]).map (fun e => e.2) = L.map (fun e => e.2) ++ [l] := by rw [List.map_append]; rfl
/-! ### lines_of -/
abbrev s_lines_of : Stmt := topS 14
abbrev N_lines_of : List Str := ["row", "lines", "byte"]
abbrev P_lines_of : List Str := ["row"]
theorem sc_lines_of : FnScope N_lines_of ["row"] (defScope s_lines_of) := ⟨rfl, rfl, rfl, by decide +kernel, rfl, by decide +kernel, by decide +kernel⟩
theorem ok_lines {f : Addr} {fd : FuncData} {k : Nat} (F : Fun K "lines_of" "lines_of" s_lines_of f fd) (T : Tx mg tk) : FnOk P w K mg base CX0 (k + 1) f fd P_lines_of sp_lines := by
  refine F.ok sc_lines_of (fun vs H Q E h => ?_) (fun cdv A outer s H vs Q E hr h => ?_)
  · obtain ⟨a, l, rfl, _⟩ := h
    rfl
  · have nd := sc_lines_of.nd
    obtain ⟨a, l, rfl, hS, hl, q⟩ := h
    refine ⟨_, (pss_cons (ps_set (i := 1) nd rfl (.inl rfl) (pe_lst (pa_cons (pe_lst pa_nil) pa_nil)))
      (pss_cons (ps_for PassesOwn.never rfl (pi_list (pv 0)) (pg_name (i := 2) nd rfl (Or.inl rfl))
        (pss_one (ps_if (pt_cmpR op_eq (pv 2) (pe_glob (v := .int 10) (by rfl) T.m_ROW_END ⟨_, rfl⟩) (nomark _))
          (pss_one (ps_expr (pe_bm PySem.F.plainAttrs_list PySem.F.slot_list_append PySem.F.type_list_append mt_append (pv 1) (pa_cons (pe_lst pa_nil) pa_nil))))
          (pss_one (ps_expr (pe_bm PySem.F.plainAttrs_list PySem.F.slot_list_append PySem.F.type_list_append mt_append (pe_ix (ixL K) (pv 1) (pe_un un_neg pe_int) (fun _ _ => rfl)) (pa_cons (pv 2) pa_nil)))))))
      (pss_one (ps_ret (pv 1))))), ?_⟩
    refine ⟨Nat.zero_le _, fun t nt => ⟨Nat.le_of_lt (small1000 (show 1 ≤ 1000 by decide)), fun o no => ?_⟩⟩
    have s1 := same_upd (o := .lst []) nt
    have s2 := same_upd (o := .lst [V.ref t]) no
    have et := s2 t _ upd_same
    have eo : upd (upd H t (.lst [])) o (.lst [V.ref t]) o = some (.lst [V.ref t]) := upd_same
    have ho : H o = none := s1.free no
    have hot : t ≠ o := fun z => by rw [z, upd_same] at no; exact nomatch no
    have sA := s1.trans s2
    have I0 : LsInv H (upd (upd H t (.lst [])) o (.lst [V.ref t])) o [(t, [])] := ⟨eo, fun e he => by rw [List.mem_singleton.mp he]; exact et, fun e he => by rw [List.mem_singleton.mp he]; exact nt, fun e he => by rw [List.mem_singleton.mp he]; exact hot, by simp⟩
    generalize upd (upd H t (.lst [])) o (.lst [V.ref t]) = H1 at *
    refine ⟨.ref a, rfl, a, rfl, ⟨nb l, .inl (.inl (sA _ _ hS))⟩, for_it (walk_listF (xs := nb l)) (fun i σ H' => ∃ (y2 : Option V) (L : List (Addr × List Nat)), σ = [some (.ref a), some (.ref o), y2] ∧ Same H H' ∧ LsInv H H' o L ∧ L.map (fun e => e.2) = (l.take i).foldl (pstep 10) [[]])
      ⟨none, [(t, [])], rfl, sA, I0, rfl⟩ (fun i σ H' _ h => by obtain ⟨_, _, rfl, sm, _⟩ := h; exact .inl (.inl (sm _ _ hS))) (fun i x σ H' H'' hi hP hy => ?_) (fun σ H' hP => ?_)⟩
    · obtain ⟨y2, L, rfl, sm, hI, hL⟩ := hP
      obtain ⟨rfl, rfl⟩ := hy
      rw [nb_len] at hi
      dsimp only [gName]
      rw [nb_at l hi]
      have hfold : (l.take (i + 1)).foldl (pstep 10) [[]] = pstep 10 (L.map fun e => e.2) (l.getD i 0) := by
        rw [List.take_add_one, List.getElem?_eq_getElem hi, Option.toList_some, List.foldl_append, hL, List.getD_eq_getElem?_getD, List.getElem?_eq_getElem hi]
        rfl
      have hmany := fold_many 10 (l.take i) [[]]
      rw [← hL, List.length_map, List.length_take] at hmany
      have hne : L ≠ [] := fun h => by
        have := fold_ne 10 (l.take i) [[]] (by simp)
        rw [← hL, h] at this
        exact this rfl
      rw [hfold]
      generalize l.getD i 0 = b
      refine ifT (decide (b = 10)) (fun k q1 => ⟨.int (b : Nat), rfl, rfl, _, rfl, TellB.eq (by rw [vint_dec]; exact decide_eq_decide.mpr (by omega)) q1 _ (Same.refl _)⟩) (fun hc H3 s3 => ?_) (fun hc H3 s3 => ?_)
      · have hc := of_decide_eq_true hc
        have hI3 := hI.same s3
        refine ⟨.ref o, rfl, .inl ⟨rfl, _, .inl (.inl hI3.lst)⟩, Nat.zero_le _, fun u nu => ⟨o, _, _, rfl, rfl, same_upd nu _ _ hI3.lst, by rw [List.length_map, sizeLine_eq]; simp only [List.length_singleton] at hmany; omega, ?_⟩⟩
        refine ⟨_, L ++ [(u, [])], rfl, fun b' x e => ?_, hI3.push (sm.trans s3) nu, ?_⟩
        · rw [upd_ne (ne_of_none e ho)]
          exact same_upd nu _ _ (s3 _ _ (sm _ _ e))
        · rw [map_snd_last, pstep_hit _ _ hc]
      · have hc := of_decide_eq_false hc
        rcases List.eq_nil_or_concat L with h0 | ⟨L', ⟨u, c⟩, h0⟩
        · exact absurd h0 hne
        rw [List.concat_eq_append] at h0
        subst h0
        have hI3 := hI.same s3
        have hm : (u, c) ∈ L' ++ [(u, c)] := by simp
        have eo3 := hI3.lst
        rw [show (L' ++ [(u, c)]).map (fun e => V.ref e.1) = (L'.map fun e => V.ref e.1) ++ [.ref u] by rw [List.map_append]; rfl] at eo3
        have ec3 := hI3.con _ hm
        have hcl : c.length ≤ 100000 := by
          rw [split_fold] at hL
          have h1 : c ∈ splitL 10 (l.take i) := by rw [← hL]; exact List.mem_map.mpr ⟨_, hm, rfl⟩
          have h2 := splitL_le 10 _ _ h1
          rw [List.length_take] at h2
          omega
        refine ⟨.ref o, rfl, 1, rfl, o, _, -1, .ref u, rfl, rfl, .inl (.inl eo3), atI_last _ _, .inl ⟨rfl, _, .inl (.inl ec3)⟩, .int (b : Nat), rfl, u, _, _, rfl, rfl, ec3, by rw [nb_len, sizeLine_eq]; show c.length < _; omega, ?_⟩
        refine ⟨_, L' ++ [(u, c ++ [b])], rfl, fun b' x e => ?_, hI3.last, ?_⟩
        · rw [upd_ne (ne_of_none e (hI.new _ hm))]
          exact s3 _ _ (sm _ _ e)
        · rw [map_snd_last, pstep_miss _ _ hc, map_snd_last, List.dropLast_concat, List.getLastD_concat]
    · obtain ⟨y2, L, rfl, sm, hI, hL⟩ := hP
      rw [nb_len, List.take_length, split_fold] at hL
      exact ⟨.ref o, rfl, hI.tell sm ho hL q⟩
/-! ### _law_parts -/
abbrev s__law_parts : Stmt := topS 22
abbrev N__law_parts : List Str := ["_law_row", "_law_found", "_law_byte"]
abbrev P__law_parts : List Str := ["_law_row"]
theorem sc__law_parts : FnScope N__law_parts ["_law_row"] (defScope s__law_parts) := ⟨rfl, rfl, rfl, by decide +kernel, rfl, by decide +kernel, by decide +kernel⟩
theorem ok_lparts {f : Addr} {fd : FuncData} {k : Nat} (F : Fun K "_law_parts" "_law_parts" s__law_parts f fd) (T : Tx mg tk) : FnOk P w K mg base CX0 (k + 1) f fd P__law_parts sp_lines := by
  refine F.ok sc__law_parts (fun vs H Q E h => ?_) (fun cdv A outer s H vs Q E hr h => ?_)
  · obtain ⟨a, l, rfl, _⟩ := h
    rfl
  · have nd := sc__law_parts.nd
    obtain ⟨a, l, rfl, hS, hl, q⟩ := h
    refine ⟨_, (pss_cons (ps_set (i := 1) nd rfl (.inl rfl) (pe_lst (pa_cons (pe_lst pa_nil) pa_nil)))
      (pss_cons (ps_for PassesOwn.never rfl (pi_list (pv 0)) (pg_name (i := 2) nd rfl (Or.inl rfl))
        (pss_one (ps_if (pt_cmpR op_eq (pv 2) pe_int (nomark _))
          (pss_one (ps_set (i := 1) nd rfl (.inl rfl) (pe_op op_cat (pv 1) (pe_lst (pa_cons (pe_lst pa_nil) pa_nil)))))
          (pss_one (ps_expr (pe_bm PySem.F.plainAttrs_list PySem.F.slot_list_append PySem.F.type_list_append mt_append (pe_ix (ixL K) (pv 1) (pe_un un_neg pe_int) (fun _ _ => rfl)) (pa_cons (pv 2) pa_nil)))))))
      (pss_one (ps_ret (pv 1))))), ?_⟩
    refine ⟨Nat.zero_le _, fun t nt => ⟨Nat.le_of_lt (small1000 (show 1 ≤ 1000 by decide)), fun o no => ?_⟩⟩
    have s1 := same_upd (o := .lst []) nt
    have s2 := same_upd (o := .lst [V.ref t]) no
    have et := s2 t _ upd_same
    have eo : upd (upd H t (.lst [])) o (.lst [V.ref t]) o = some (.lst [V.ref t]) := upd_same
    have ho : H o = none := s1.free no
    have hot : t ≠ o := fun z => by rw [z, upd_same] at no; exact nomatch no
    have sA := s1.trans s2
    have I0 : LsInv H (upd (upd H t (.lst [])) o (.lst [V.ref t])) o [(t, [])] := ⟨eo, fun e he => by rw [List.mem_singleton.mp he]; exact et, fun e he => by rw [List.mem_singleton.mp he]; exact nt, fun e he => by rw [List.mem_singleton.mp he]; exact hot, by simp⟩
    generalize upd (upd H t (.lst [])) o (.lst [V.ref t]) = H1 at *
    refine ⟨.ref a, rfl, a, rfl, ⟨nb l, .inl (.inl (sA _ _ hS))⟩, for_it (walk_listF (xs := nb l)) (fun i σ H' => ∃ (o' : Addr) (y2 : Option V) (L : List (Addr × List Nat)), σ = [some (.ref a), some (.ref o'), y2] ∧ Same H H' ∧ LsInv H H' o' L ∧ H o' = none ∧ L.map (fun e => e.2) = (l.take i).foldl (pstep 10) [[]])
      ⟨o, none, [(t, [])], rfl, sA, I0, ho, rfl⟩ (fun i σ H' _ h => by obtain ⟨_, _, _, rfl, sm, _⟩ := h; exact .inl (.inl (sm _ _ hS))) (fun i x σ H' H'' hi hP hy => ?_) (fun σ H' hP => ?_)⟩
    · obtain ⟨o', y2, L, rfl, sm, hI, ho', hL⟩ := hP
      obtain ⟨rfl, rfl⟩ := hy
      rw [nb_len] at hi
      dsimp only [gName]
      rw [nb_at l hi]
      have hfold : (l.take (i + 1)).foldl (pstep 10) [[]] = pstep 10 (L.map fun e => e.2) (l.getD i 0) := by
        rw [List.take_add_one, List.getElem?_eq_getElem hi, Option.toList_some, List.foldl_append, hL, List.getD_eq_getElem?_getD, List.getElem?_eq_getElem hi]
        rfl
      have hmany := fold_many 10 (l.take i) [[]]
      rw [← hL, List.length_map, List.length_take] at hmany
      have hne : L ≠ [] := fun h => by
        have := fold_ne 10 (l.take i) [[]] (by simp)
        rw [← hL, h] at this
        exact this rfl
      rw [hfold]
      generalize l.getD i 0 = b
      refine ifT (decide (b = 10)) (fun k q1 => ⟨.int (b : Nat), rfl, rfl, _, rfl, TellB.eq (by rw [vint_dec]; exact decide_eq_decide.mpr (by omega)) q1 _ (Same.refl _)⟩) (fun hc H3 s3 => ?_) (fun hc H3 s3 => ?_)
      · have hc := of_decide_eq_true hc
        have hI3 := hI.same s3
        refine ⟨.ref o', rfl, Nat.zero_le _, fun u nu => ⟨Nat.le_of_lt (small1000 (show 1 ≤ 1000 by decide)), fun v nv => ?_⟩⟩
        have t1 := same_upd (o := .lst []) nu
        have t2 := same_upd (o := .lst [V.ref u]) nv
        refine ⟨o', v, _, _, rfl, rfl, t2 _ _ (t1 _ _ hI3.lst), upd_same, by rw [List.length_map, sizeLine_eq]; simp only [List.length_singleton] at hmany ⊢; omega, fun o2 no2 => ?_⟩
        have t3 := same_upd (o := .lst ((L.map fun e => V.ref e.1) ++ [V.ref u])) no2
        refine ⟨o2, _, L ++ [(u, [])], rfl, (sm.trans s3).trans (t1.trans (t2.trans t3)), hI3.cat (sm.trans s3) nu ⟨_, t1.trans t2, t2 u _ upd_same, no2⟩ (t1.trans (t2.trans t3)) (t3 _ _ (t2 u _ upd_same)) upd_same, ((sm.trans s3).trans (t1.trans t2)).free no2, ?_⟩
        rw [map_snd_last, pstep_hit _ _ hc]
      · have hc := of_decide_eq_false hc
        rcases List.eq_nil_or_concat L with h0 | ⟨L', ⟨u, c⟩, h0⟩
        · exact absurd h0 hne
        rw [List.concat_eq_append] at h0
        subst h0
        have hI3 := hI.same s3
        have hm : (u, c) ∈ L' ++ [(u, c)] := by simp
        have eo3 := hI3.lst
        rw [show (L' ++ [(u, c)]).map (fun e => V.ref e.1) = (L'.map fun e => V.ref e.1) ++ [.ref u] by rw [List.map_append]; rfl] at eo3
        have ec3 := hI3.con _ hm
        have hcl : c.length ≤ 100000 := by
          rw [split_fold] at hL
          have h1 : c ∈ splitL 10 (l.take i) := by rw [← hL]; exact List.mem_map.mpr ⟨_, hm, rfl⟩
          have h2 := splitL_le 10 _ _ h1
          rw [List.length_take] at h2
          omega
        refine ⟨.ref o', rfl, 1, rfl, o', _, -1, .ref u, rfl, rfl, .inl (.inl eo3), atI_last _ _, .inl ⟨rfl, _, .inl (.inl ec3)⟩, .int (b : Nat), rfl, u, _, _, rfl, rfl, ec3, by rw [nb_len, sizeLine_eq]; show c.length < _; omega, ?_⟩
        refine ⟨o', _, L' ++ [(u, c ++ [b])], rfl, fun b' x e => ?_, hI3.last, ho', ?_⟩
        · rw [upd_ne (ne_of_none e (hI.new _ hm))]
          exact s3 _ _ (sm _ _ e)
        · rw [map_snd_last, pstep_miss _ _ hc, map_snd_last, List.dropLast_concat, List.getLastD_concat]
    · obtain ⟨o', y2, L, rfl, sm, hI, ho', hL⟩ := hP
      rw [nb_len, List.take_length, split_fold] at hL
      exact ⟨.ref o', rfl, hI.tell sm ho' hL q⟩
end
end K07

namespace K07
open PySem PySem.Spec PyProof.Rows L2 LH
section
variable {P : Program} {w : World} {K : PySem.W.Frag} {mg : Str → Option Value} {base : Heap} {tk : Nat → Tok} {ca : Nat → Addr}
/-! ### the rows of a line -/
def tot (us : List (List Nat)) : Nat := (us.map (·.length)).sum
theorem tot_cons (u : List Nat) (r : List (List Nat)) : tot (u :: r) = u.length + tot r := by unfold tot; rw [List.map_cons, List.sum_cons]
theorem tot_flat (us : List (List Nat)) : us.flatten.length = tot us := by
  induction us with
  | nil => rfl
  | cons u r ih => rw [List.flatten_cons, List.length_append, ih, tot_cons]
theorem tot_le {us : List (List Nat)} (h : UnitsL us) : tot us ≤ 3 * us.length := by
  induction us with
  | nil => exact Nat.le_refl _
  | cons u r ih =>
    have := ih fun x hx => h x (by simp [hx])
    have := (h u (by simp)).1
    rw [tot_cons, List.length_cons]
    omega
def cutR : List Nat → List (List Nat) → List (List Nat)
  | row, [] => [row]
  | row, u :: r => if 60 < row.length + tot (u :: r) ∧ 60 ≤ row.length + u.length then (row ++ [61]) :: cutR u r else cutR (row ++ u) r
theorem cutR_many : ∀ (us : List (List Nat)) (row : List Nat), (cutR row us).length ≤ us.length + 1
  | [], row => Nat.le_refl _
  | u :: r, row => by
    unfold cutR
    split
    · have := cutR_many r u
      rw [List.length_cons, List.length_cons]
      omega
    · have := cutR_many r (row ++ u)
      rw [List.length_cons]
      omega
/-- all that is left goes into one row -/
theorem cutR_short : ∀ (us : List (List Nat)) (row : List Nat), row.length + tot us ≤ 60 → cutR row us = [row ++ us.flatten]
  | [], row, _ => by simp [cutR]
  | u :: r, row, h => by
    unfold cutR
    rw [if_neg (fun c => by omega), cutR_short r (row ++ u) (by rw [tot_cons] at h; rw [List.length_append]; omega), List.flatten_cons, List.append_assoc]
theorem cutR_low : ∀ (us : List (List Nat)) (row : List Nat), UnitsL us → (∀ c ∈ row, c < 128) → ∀ x ∈ cutR row us, ∀ c ∈ x, c < 128
  | [], row, _, hr, x, hx => by
    rw [List.mem_singleton.mp hx]
    exact hr
  | u :: r, row, h, hr, x, hx => by
    have hu := (h u (by simp)).2
    have hrr : UnitsL r := fun y hy => h y (by simp [hy])
    unfold cutR at hx
    split at hx
    · rcases List.mem_cons.mp hx with rfl | hx
      · intro c hc
        rcases List.mem_append.mp hc with hc | hc
        · exact hr c hc
        · rw [List.mem_singleton.mp hc]; decide
      · exact cutR_low r u hrr hu x hx
    · exact cutR_low r (row ++ u) hrr (fun c hc => (List.mem_append.mp hc).elim (hr c) (hu c)) x hx
/-- rows of at most sixty signs, without a blank at their end -/
theorem cutR_good : ∀ (us : List (List Nat)) (row : List Nat), UnitsL us → row.length < 60 ∨ row.length + tot us ≤ 60 → (us = [] → row.getLast? ≠ some 32) → (us ≠ [] → us.getLast? ≠ some [32]) → ((∀ u ∈ us, u = [32] ∨ u.getLast? ≠ some 32)) → ∀ x ∈ cutR row us, x.length ≤ 60 ∧ x.getLast? ≠ some 32
  | [], row, _, h1, h2, _, _, x, hx => by
    rw [List.mem_singleton.mp hx]
    exact ⟨by unfold tot at h1; simp at h1; omega, h2 rfl⟩
  | u :: r, row, h, h1, h2, h3, h4, x, hx => by
    have hu := (h u (by simp)).1
    have hrr : UnitsL r := fun y hy => h y (by simp [hy])
    have h3' : r ≠ [] → r.getLast? ≠ some [32] := fun hr => by
      have := h3 (by simp)
      rw [List.getLast?_cons, List.getLast?_eq_some_getLast hr] at this
      rw [List.getLast?_eq_some_getLast hr]
      exact this
    have h4' : ∀ y ∈ r, y = [32] ∨ y.getLast? ≠ some 32 := fun y hy => h4 y (by simp [hy])
    have lastU : r = [] → ∀ row : List Nat, (row ++ u).getLast? ≠ some 32 := fun hr row => by
      have h5 := h3 (by simp)
      rw [hr] at h5
      have h6 := (h4 u (by simp)).resolve_left (fun e => h5 (by rw [e]; rfl))
      rcases List.eq_nil_or_concat u with e | ⟨v, c, e⟩
      · rw [e] at hu; simp at hu
      · rw [List.concat_eq_append] at e
        rw [e] at h6 ⊢
        rw [← List.append_assoc, List.getLast?_concat]
        rwa [List.getLast?_concat] at h6
    rw [tot_cons] at h1
    unfold cutR at hx
    rw [tot_cons] at hx
    split at hx
    · rcases List.mem_cons.mp hx with rfl | hx
      · refine ⟨by rw [List.length_append, List.length_singleton]; omega, ?_⟩
        rw [List.getLast?_concat]
        decide
      · exact cutR_good r u hrr (.inl (by omega)) (fun hr => by have := lastU hr []; rwa [List.nil_append] at this) h3' h4' x hx
    · refine cutR_good r (row ++ u) hrr ?_ (fun hr => lastU hr row) h3' h4' x hx
      rw [List.length_append]
      omega
theorem strL_tls (us : List (List Nat)) : (strL us).map TL.tl = us := by
  unfold strL
  rw [List.map_map]
  exact List.map_id us
theorem join_units (us : List (List Nat)) : TL.tl (Txt.join (Str.ofString "") (strL us)) = us.flatten := by rw [tl_join0, strL_tls]
theorem sum_units (us : List (List Nat)) : ((strL us).map (·.length)).sum = tot us := by
  unfold strL tot
  rw [List.map_map]
  exact congrArg List.sum (List.map_congr_left fun x _ => mk_len x)
/-! ### cut -/
abbrev s_cut : Stmt := topS 18
abbrev N_cut : List Str := ["parts", "rows", "row", "left", "part"]
abbrev P_cut : List Str := ["parts"]
theorem sc_cut : FnScope N_cut ["parts"] (defScope s_cut) := ⟨rfl, rfl, rfl, by decide +kernel, rfl, by decide +kernel, by decide +kernel⟩
def sp_cut : Sp := fun vs H Q _ => ∃ (a : Addr) (us : List (List Nat)), vs = [.ref a] ∧ H a = some (.lst ((strL us).map V.str)) ∧ UnitsL us ∧ us.length ≤ 100000 ∧ New H ((strL (cutR [] us)).map V.str) Q
theorem ok_cut {f : Addr} {fd : FuncData} {k : Nat} (F : Fun K "cut" "cut" s_cut f fd) (T : Tx mg tk) : FnOk P w K mg base CX0 (k + 1) f fd P_cut sp_cut := by
  refine F.ok sc_cut (fun vs H Q E h => ?_) (fun cdv A outer s H vs Q E hr h => ?_)
  · obtain ⟨a, us, rfl, _⟩ := h
    rfl
  · have nd := sc_cut.nd
    obtain ⟨a, us, rfl, hS, hU, hl, q⟩ := h
    refine ⟨_, (pss_cons (ps_set (i := 1) nd rfl (.inl rfl) (pe_lst pa_nil))
      (pss_cons (ps_set (i := 2) nd rfl (.inl rfl) pe_str)
      (pss_cons (ps_set (i := 3) nd rfl (.inl rfl) (pe_callB call_len_str (by rfl) T.n_len (by decide +kernel) (pa_cons (pe_join pe_str (pv 0)) pa_nil)))
      (pss_cons (ps_for PassesOwn.never rfl (pi_list (pv 0)) (pg_name (i := 4) nd rfl (Or.inl rfl))
        (pss_cons (ps_if (PW.pt (pw_and (pt_cmpR op_gt (pv 3) (pe_glob (v := .int 60) (by rfl) T.m_ROW_SIGNS ⟨_, rfl⟩) (nomark _)) (pw_and1 (pt_cmpR op_ge (pe_op op_add (pe_callB call_len_str (by rfl) T.n_len (by decide +kernel) (pa_cons (pv 2) pa_nil)) (pe_callB call_len_str (by rfl) T.n_len (by decide +kernel) (pa_cons (pv 4) pa_nil))) (pe_glob (v := .int 60) (by rfl) T.m_ROW_SIGNS ⟨_, rfl⟩) (nomark _)))))
          (pss_cons (ps_expr (pe_bm PySem.F.plainAttrs_list PySem.F.slot_list_append PySem.F.type_list_append mt_append (pv 1) (pa_cons (pe_op op_add_str (pv 2) pe_str) pa_nil)))
          (pss_cons (ps_aug (i := 3) nd rfl (.inl rfl) (pe_callB call_len_str (by rfl) T.n_len (by decide +kernel) (pa_cons (pv 2) pa_nil)) ip_sub)
          (pss_one (ps_set (i := 2) nd rfl (.inl rfl) pe_str))))
          pss_nil)
        (pss_one (ps_aug (i := 2) nd rfl (.inl rfl) (pv 4) iop_add_str))))
      (pss_cons (ps_expr (pe_bm PySem.F.plainAttrs_list PySem.F.slot_list_append PySem.F.type_list_append mt_append (pv 1) (pa_cons (pv 2) pa_nil)))
      (pss_one (ps_ret (pv 1)))))))), ?_⟩
    have htot := tot_le hU
    refine ⟨Nat.zero_le _, fun o no => ?_⟩
    have s1 := same_upd (o := .lst []) no
    have eo := upd_same (H := H) (a := o) (o := .lst [])
    generalize upd H o (.lst []) = H1 at *
    have hjl : (Txt.join (Str.ofString "") (strL us)).length = tot us := by rw [TL.len_tl, join_units, tot_flat]
    refine ⟨⟨_, rfl⟩, .ref a, rfl, Str.ofString "", a, strL us, rfl, rfl, .inl (.inl (.inl (s1 _ _ hS))), by rw [sum_units, show (Str.ofString "").length = 0 by decide +kernel]; omega, _, rfl, by rw [hjl, sizeLine_eq]; omega, ?_⟩
    dsimp only [gName]
    rw [hjl]
    have hsm : ((strL us).map V.str).length = us.length := by rw [List.length_map, strL_len]
    refine ⟨.ref a, rfl, a, rfl, ⟨_, .inl (.inl (s1 _ _ hS))⟩, for_it (walk_listF (xs := (strL us).map V.str)) (fun i σ H' => ∃ (y4 : Option V) (c : List Nat) (R : List (List Nat)), σ = [some (.ref a), some (.ref o), some (.str ⟨c.toArray⟩), some (.int ((c.length + tot (us.drop i) : Nat) : Int)), y4] ∧ Same H H' ∧ H' o = some (.lst ((strL R).map V.str)) ∧ R ++ cutR c (us.drop i) = cutR [] us ∧ c.length ≤ 3 * i ∧ R.length ≤ i)
      ⟨none, [], [], by rw [List.drop_zero, List.length_nil, Nat.zero_add, show (⟨([] : List Nat).toArray⟩ : Str) = Str.ofString "" from TL.ext_tl (by decide +kernel)]; rfl, s1, eo, rfl, Nat.zero_le _, Nat.le_refl _⟩ (fun i σ H' _ h => by obtain ⟨_, _, _, rfl, sm, _⟩ := h; exact .inl (.inl (sm _ _ hS))) (fun i x σ H' H'' hi hP hy => ?_) (fun σ H' hP => ?_)⟩
    · obtain ⟨y4, c, R, rfl, sm, eR, hcut, hcl, hRl⟩ := hP
      obtain ⟨rfl, rfl⟩ := hy
      rw [hsm] at hi
      have hui := hU us[i] (List.getElem_mem hi)
      have hx : ((strL us).map V.str).getD i .non = .str ⟨(us[i]).toArray⟩ := by
        unfold strL
        rw [List.getD_eq_getElem?_getD, List.getElem?_map, List.getElem?_map, List.getElem?_eq_getElem hi]
        rfl
      have hd : us.drop i = us[i] :: us.drop (i + 1) := List.drop_eq_getElem_cons hi
      have htd : tot (us.drop (i + 1)) ≤ 3 * us.length := by
        have := tot_le (us := us.drop (i + 1)) fun x hx => hU x (List.mem_of_mem_drop hx)
        rw [List.length_drop] at this
        omega
      dsimp only [gName]
      rw [hx]
      rw [hd] at hcut ⊢
      generalize us[i] = u at *
      generalize us.drop (i + 1) = r at *
      rw [cutR] at hcut
      rw [tot_cons] at hcut ⊢
      have hml : (⟨c.toArray⟩ : Str).length = c.length := mk_len c
      have hmu : (⟨u.toArray⟩ : Str).length = u.length := mk_len u
      refine ifT (decide (60 < c.length + (u.length + tot r)) && decide (60 ≤ c.length + u.length)) (fun k q1 => andT _ _ (fun k q2 => ⟨_, rfl, _, 60, rfl, rfl, _, rfl, TellB.eq (decide_eq_decide.mpr (by omega)) q2 _ (Same.refl _)⟩) (fun _ H3 k s3 q2 => ⟨.str ⟨c.toArray⟩, rfl, _, rfl, by rw [hml, sizeLine_eq]; omega, .str ⟨u.toArray⟩, rfl, _, rfl, by rw [hmu, sizeLine_eq]; omega, _, _, rfl, rfl, _, 60, rfl, rfl, _, rfl, TellB.eq (decide_eq_decide.mpr (by rw [hml, hmu]; omega)) q2 _ (Same.refl _)⟩) q1) (fun hc H3 s3 => ?_) (fun hc H3 s3 => ?_)
      · have hc := (Bool.and_eq_true _ _ ▸ hc : decide (60 < c.length + (u.length + tot r)) = true ∧ decide (60 ≤ c.length + u.length) = true)
        have hc1 := of_decide_eq_true hc.1
        have hc2 := of_decide_eq_true hc.2
        rw [if_pos ⟨hc1, hc2⟩] at hcut
        have heq : Str.ofString "=" = ⟨#[61]⟩ := TL.ext_tl (by decide +kernel)
        refine ⟨.ref o, rfl, .inl ⟨rfl, _, .inl (.inl (s3 _ _ eR))⟩, .str ⟨c.toArray⟩, rfl, _, Str.ofString "=", rfl, rfl, by rw [hml, show (Str.ofString "=").length = 1 by decide +kernel, sizeLine_eq]; omega, o, _, _, rfl, rfl, s3 _ _ eR, by rw [List.length_map, strL_len, sizeLine_eq]; omega, ?_⟩
        refine ⟨_, rfl, .str ⟨c.toArray⟩, rfl, _, rfl, by rw [hml, sizeLine_eq]; omega, _, _, rfl, rfl, ?_⟩
        refine ⟨_, rfl, .str ⟨u.toArray⟩, rfl, Str.ofString "", _, rfl, rfl, by rw [hmu, show (Str.ofString "").length = 0 by decide +kernel, sizeLine_eq]; omega, ?_⟩
        refine ⟨some (.str ⟨u.toArray⟩), u, R ++ [c ++ [61]], ?_, fun b x e => ?_, ?_, by rw [List.append_assoc]; exact hcut, by omega, by rw [List.length_append, List.length_singleton]; omega⟩
        · have e1 : Str.ofString "" ++ (⟨u.toArray⟩ : Str) = ⟨u.toArray⟩ := TL.ext_tl (by rw [TL.tl_append, show TL.tl (Str.ofString "") = [] by decide +kernel]; rfl)
          show [_, _, some (V.str (Str.ofString "" ++ (⟨u.toArray⟩ : Str))), some (V.int (((c.length + (u.length + tot r) : Nat) : Int) - ((⟨c.toArray⟩ : Str).length : Nat))), _] = _
          rw [e1, hml, show ((c.length + (u.length + tot r) : Nat) : Int) - (c.length : Nat) = ((u.length + tot r : Nat) : Int) by omega]
        · rw [upd_ne (ne_of_none e no)]
          exact s3 _ _ (sm _ _ e)
        · rw [upd_same, strL_app, List.map_append]
          have e2 : (⟨c.toArray⟩ : Str) ++ Str.ofString "=" = ⟨(c ++ [61]).toArray⟩ := TL.ext_tl (by rw [TL.tl_append, show TL.tl (Str.ofString "=") = [61] by decide +kernel])
          rw [e2]
          rfl
      · have hc3 : ¬ (60 < c.length + (u.length + tot r) ∧ 60 ≤ c.length + u.length) := fun h => by
          rw [decide_eq_true h.1, decide_eq_true h.2] at hc
          exact nomatch hc
        rw [if_neg hc3] at hcut
        dsimp only [tNext, tSeq]
        refine ⟨_, rfl, .str ⟨u.toArray⟩, rfl, ⟨c.toArray⟩, _, rfl, rfl, by rw [hmu, hml, sizeLine_eq]; omega, ?_⟩
        refine ⟨some (.str ⟨u.toArray⟩), c ++ u, R, ?_, sm.trans s3, s3 _ _ eR, hcut, by rw [List.length_append]; omega, by omega⟩
        have e1 : (⟨c.toArray⟩ : Str) ++ (⟨u.toArray⟩ : Str) = ⟨(c ++ u).toArray⟩ := TL.ext_tl (by rw [TL.tl_append])
        show [_, _, some (V.str ((⟨c.toArray⟩ : Str) ++ (⟨u.toArray⟩ : Str))), _, _] = _
        rw [e1, List.length_append, Nat.add_assoc]
    · obtain ⟨y4, c, R, rfl, sm, eR, hcut, hcl, hRl⟩ := hP
      rw [hsm] at hcut hcl hRl
      rw [List.drop_of_length_le (Nat.le_refl _)] at hcut
      refine ⟨.ref o, rfl, .inl ⟨rfl, _, .inl (.inl eR)⟩, .str ⟨c.toArray⟩, rfl, o, _, _, rfl, rfl, eR, by rw [List.length_map, strL_len, sizeLine_eq]; omega, ?_⟩
      refine ⟨.ref o, rfl, q _ o (fun b x e => ?_) no ?_⟩
      · rw [upd_ne (ne_of_none e no)]
        exact sm _ _ e
      · rw [upd_same, ← hcut, strL_app, List.map_append]
        rfl
end
end K07

namespace K07
open PySem PySem.Spec PyProof.Rows L2 LH
section
variable {P : Program} {w : World} {K : PySem.W.Frag} {mg : Str → Option Value} {base : Heap} {tk : Nat → Tok} {ca : Nat → Addr}
def lineR (p : List Nat) : List (List Nat) := cutR [] (fixL (p.map uL))
def rows16 (l : List Nat) : List (List Nat) := ((splitL 10 l).map lineR).flatten
theorem lineR_many (p : List Nat) : (lineR p).length ≤ p.length + 1 := by
  have := cutR_many (fixL (p.map uL)) []
  rw [fix_len, List.length_map] at this
  exact this
theorem flat_le {α : Type} (ls : List (List α)) (k : Nat) (h : ∀ x ∈ ls, x.length ≤ k) : ls.flatten.length ≤ ls.length * k := by
  induction ls with
  | nil => exact Nat.zero_le _
  | cons x r ih =>
    have h1 := h x (by simp)
    have h2 := ih fun y hy => h y (by simp [hy])
    rw [List.flatten_cons, List.length_append, List.length_cons, Nat.succ_mul]
    omega
theorem parts_ok {l : List Nat} (h : BytesN l) : ∀ p ∈ splitL 10 l, BytesN p ∧ p.length ≤ l.length := fun p hp => ⟨fun b hb => h b (splitL_mem 10 l p hp b hb), splitL_le 10 l p hp⟩
theorem rows16_many (l : List Nat) : (rows16 l).length ≤ (l.length + 1) * (l.length + 1) := by
  have h1 := flat_le ((splitL 10 l).map lineR) (l.length + 1) fun x hx => by
    obtain ⟨p, hp, rfl⟩ := List.mem_map.mp hx
    have := lineR_many p
    have := splitL_le 10 l p hp
    omega
  rw [List.length_map] at h1
  exact Nat.le_trans h1 (Nat.mul_le_mul_right _ (splitL_len 10 l))
/-! ### sixteens_of -/
abbrev s_sixteens_of : Stmt := topS 13
abbrev N_sixteens_of : List Str := ["row", "line", "told"]
abbrev P_sixteens_of : List Str := ["row"]
theorem sc_sixteens_of : FnScope N_sixteens_of ["row"] (defScope s_sixteens_of) := ⟨rfl, rfl, rfl, by decide +kernel, rfl, by decide +kernel, by decide +kernel⟩
def sp_sixteens : Sp := fun vs H Q _ => ∃ (a : Addr) (l : List Nat), vs = [.ref a] ∧ H a = some (.lst (nb l)) ∧ BytesN l ∧ l.length ≤ 4000 ∧ New H ((strL (rows16 l)).map V.str) Q
theorem ok_sixteens {f fB fL fP fC : Addr} {fd fdB fdL fdP fdC : FuncData} (F : Fun K "sixteens_of" "sixteens_of" s_sixteens_of f fd) (T : Tx mg tk) (D_is_bytes : Def P w K mg base "is_bytes" 2 fB fdB P_is_bytes sp_is_bytes) (D_lines_of : Def P w K mg base "lines_of" 1 fL fdL P_lines_of sp_lines) (D_parts_of : Def P w K mg base "parts_of" 3 fP fdP P_parts_of sp_parts_of) (D_cut : Def P w K mg base "cut" 1 fC fdC P_cut sp_cut) : FnOk P w K mg base CX0 4 f fd P_sixteens_of sp_sixteens := by
  refine F.ok sc_sixteens_of (fun vs H Q E h => ?_) (fun cdv A outer s H vs Q E hr h => ?_)
  · obtain ⟨a, l, rfl, _⟩ := h
    rfl
  · have nd := sc_sixteens_of.nd
    obtain ⟨a, l, rfl, hS, hb, hl, q⟩ := h
    refine ⟨_, (pss_cons (ps_if (pt_not (pt_val (pe_def D_is_bytes (hr.mono (by decide)) (pa_cons (pv 0) pa_nil))))
        (pss_one ps_never)
        pss_nil)
      (pss_one (ps_ret (pe_lc2 (own := [("line", 1), ("told", 2)]) (vs1 := [2]) (g := gName 1) (g1 := gName 2) (by rfl) nd (pi_list (pe_def D_lines_of (hr.mono (by decide)) (pa_cons (pv 0) pa_nil))) (blkOk_by (N := N_sixteens_of) (sc := defScope s_sixteens_of) (by decide +kernel)) (by decide) (fun _ _ _ _ _ => (pg_name (i := 1) nd rfl (Or.inl rfl))) (fun _ _ _ _ _ => pts_nil) (fun _ _ _ _ _ => by exact (pi_listK K (pe_def D_cut (hr.mono (by decide)) (pa_cons (pe_def D_parts_of (hr.mono (by decide)) (pa_cons (pv 1) pa_nil)) pa_nil)))) (fun _ _ _ _ _ => (pg_name (i := 2) nd rfl (Or.inl rfl))) (fun _ _ _ _ _ => pts_nil) (fun _ _ _ _ _ => (pv 2)))))), ?_⟩
    refine ifT false (fun k q1 => notT true (fun k q2 => ⟨.ref a, rfl, a, l, rfl, hS, hb, by omega, fun H1 s1 => ⟨true, rfl, q2 _ s1⟩⟩) q1) (fun h => nomatch h) (fun _ H1 s1 => ?_)
    dsimp only [tNext, tSeq]
    refine ⟨.ref a, rfl, a, l, rfl, s1 _ _ hS, by omega, fun H2 p ts s2 np ep htl hts => ?_⟩
    have hpo := parts_ok hb
    have hpl := splitL_len 10 l
    generalize hps : splitL 10 l = ps at *
    have hm : (ts.map V.ref).length = ps.length := by rw [List.length_map, htl]
    have hrow : ∀ i, (((List.range i).map fun i => (List.range ((strL (lineR (ps.getD i []))).map V.str).length).map fun j => ((strL (lineR (ps.getD i []))).map V.str).getD j .non).flatten) = (((List.range i).map fun i => (strL (lineR (ps.getD i []))).map V.str)).flatten := fun i => by
      congr 1
      exact List.map_congr_left fun x _ => LH.range_getD _ _
    refine ⟨p, rfl, ⟨_, .inl (.inl ep)⟩, fun D hD => lc_two (K := K) (fun i => (ts.map V.ref).getD i .non) (fun i => (strL (lineR (ps.getD i []))).map V.str) (fun i j => ((strL (lineR (ps.getD i []))).map V.str).getD j .non) (by decide) walk_listF (fun H3 s3 => s3.seq (.inl (.inl ep))) hD (fun i hi => ?_) (fun i H3 R hi s3 hR => ?_) (fun i j H3 Q3 hi hj s3 q3 => ?_) (fun H3 s3 e => ?_)⟩
    · rw [hm] at hi
      rw [hrow]
      have h1 := flat_le ((List.range i).map fun i => (strL (lineR (ps.getD i []))).map V.str) (l.length + 1) fun x hx => by
        obtain ⟨j, hj, rfl⟩ := List.mem_map.mp hx
        have hj := List.mem_range.mp hj
        rw [List.length_map, strL_len]
        have h2 := lineR_many (ps.getD j [])
        have h3 := (hpo _ (getD_mem ps [] (show j < ps.length by omega))).2
        omega
      rw [List.length_map, List.length_range] at h1
      refine Nat.le_trans h1 (Nat.le_trans (Nat.mul_le_mul (show i ≤ 4001 by omega) (show l.length + 1 ≤ 4001 by omega)) ?_)
      rw [sizeLine_eq]
      decide
    · rw [hm] at hi
      have hx : (ts.map V.ref).getD i .non = .ref (ts.getD i 0) := by
        rw [List.getD_eq_getElem?_getD, List.getElem?_map, List.getElem?_eq_getElem (by omega), List.getD_eq_getElem?_getD, List.getElem?_eq_getElem (by omega)]
        rfl
      rw [hx]
      have hpi := hpo _ (getD_mem ps [] hi)
      have hti := s3 _ _ (hts i hi).1
      have hU := units_fix (units_map hpi.1)
      have hul : (fixL ((ps.getD i []).map uL)).length ≤ 100000 := by rw [fix_len, List.length_map]; omega
      refine ⟨.ref (ts.getD i 0), rfl, ts.getD i 0, ps.getD i [], rfl, hti, hpi.1, by omega, fun H4 p2 s4 n4 e4 => ⟨p2, _, rfl, e4, hU, hul, fun H5 p3 s5 n5 e5 => ⟨p3, rfl, ⟨_, .inl (.inl e5)⟩, hR H5 p3 (s4.trans s5) (s4.free n5) e5⟩⟩⟩
    · exact ⟨_, rfl, q3 _ (Same.refl _)⟩
    · refine q H3 D (s1.trans (s2.trans s3)) ((s1.trans s2).free hD) ?_
      rw [e, hrow, hm]
      unfold rows16
      rw [hps]
      have e1 : ((List.range ps.length).map fun i => (strL (lineR (ps.getD i []))).map V.str) = ps.map fun p => (strL (lineR p)).map V.str := by
        have := congrArg (List.map fun p => (strL (lineR p)).map V.str) (LH.range_getD ps [])
        rw [List.map_map] at this
        exact this
      rw [e1]
      unfold strL
      rw [List.map_flatten, List.map_flatten, List.map_map, List.map_map]
      rfl
end
end K07

namespace K07
open PySem PySem.Spec PyProof.Rows L2 LH
section
variable {P : Program} {w : World} {K : PySem.W.Frag} {mg : Str → Option Value} {base : Heap} {tk : Nat → Tok} {ca : Nat → Addr}
/-! ### the signs -/
def SG1 : Str := Str.ofString " !\"#$&'()*+,-./0123456789:;<=>?@ABCDEFGHIJKLMNOPQRSTUVWXYZ[\\]^_`"
def SG2 : Str := Str.ofString "abcdefghijklmnopqrstuvwxyz{|}~"
def SIGNS : Str := SG1 ++ SG2
def FIG : Str := Str.ofString "0123456789ABCDEF"
theorem SIGNS_len : SIGNS.length = 94 := by
  unfold SIGNS
  rw [len_app]
  decide +kernel
theorem sg_at : ∀ b : Fin 127, isSgn b.val = true → (TL.tl SG1 ++ TL.tl SG2)[b.val - 32 - (if b.val > 37 then 1 else 0)]? = some b.val := by decide +kernel
theorem fig_at : ∀ n : Fin 16, (TL.tl FIG)[n.val]? = some (hexDig n.val) := by decide +kernel
/-! ### _law_signs -/
abbrev s__law_signs : Stmt := topS 21
abbrev N__law_signs : List Str := ["_law_some"]
abbrev P__law_signs : List Str := []
theorem sc__law_signs : FnScope N__law_signs [] (defScope s__law_signs) := ⟨rfl, rfl, rfl, by decide +kernel, rfl, by decide +kernel, by decide +kernel⟩
def sp_signs : Sp := fun vs H Q _ => vs = [] ∧ Q (.str SIGNS) H
theorem ok_signs {f : Addr} {fd : FuncData} {k : Nat} (F : Fun K "_law_signs" "_law_signs" s__law_signs f fd) : FnOk P w K mg base CX0 (k + 1) f fd P__law_signs sp_signs := by
  refine F.ok sc__law_signs (fun vs H Q E h => ?_) (fun cdv A outer s H vs Q E hr h => ?_)
  · obtain ⟨rfl, _⟩ := h
    rfl
  · have nd := sc__law_signs.nd
    obtain ⟨rfl, q⟩ := h
    refine ⟨_, (pss_cons (ps_set (i := 0) nd rfl (.inl rfl) pe_str)
      (pss_one (ps_ret (pe_op op_add_str (pv 0) pe_str)))), ?_⟩
    exact ⟨.str SG1, rfl, SG1, SG2, rfl, rfl, Nat.le_of_lt (small1000 (by decide +kernel)), q⟩
/-! ### _law_units -/
abbrev s__law_units : Stmt := topS 23
abbrev N__law_units : List Str := ["_law_part", "_law_signs_here", "_law_figures", "_law_found", "_law_byte", "_law_unit"]
abbrev P__law_units : List Str := ["_law_part"]
theorem sc__law_units : FnScope N__law_units ["_law_part"] (defScope s__law_units) := ⟨rfl, rfl, rfl, by decide +kernel, rfl, by decide +kernel, by decide +kernel⟩
theorem ok_lunits {f fS : Addr} {fd fdS : FuncData} (F : Fun K "_law_units" "_law_units" s__law_units f fd) (T : Tx mg tk) (D__law_signs : Def P w K mg base "_law_signs" 1 fS fdS P__law_signs sp_signs) : FnOk P w K mg base CX0 2 f fd P__law_units sp_parts_of := by
  refine F.ok sc__law_units (fun vs H Q E h => ?_) (fun cdv A outer s H vs Q E hr h => ?_)
  · obtain ⟨a, l, rfl, _⟩ := h
    rfl
  · have nd := sc__law_units.nd
    obtain ⟨a, l, rfl, hS, hb, hl, q⟩ := h
    refine ⟨_, (pss_cons (ps_set (i := 1) nd rfl (.inl rfl) (pe_def0 D__law_signs (hr.mono (by decide))))
      (pss_cons (ps_set (i := 2) nd rfl (.inl rfl) pe_str)
      (pss_cons (ps_set (i := 3) nd rfl (.inl rfl) (pe_lst pa_nil))
      (pss_cons (ps_for PassesOwn.never rfl (pi_list (pv 0)) (pg_name (i := 4) nd rfl (Or.inl rfl))
        (pss_cons (ps_set (i := 5) nd rfl (.inl rfl) (pe_op op_add_str (pe_op op_add_str pe_str (pe_ix ix_str (pv 2) (pe_op op_fdiv (pv 4) pe_int) (fun _ _ => rfl))) (pe_ix ix_str (pv 2) (pe_op op_mod (pv 4) pe_int) (fun _ _ => rfl))))
        (pss_cons (ps_if (PW.pt (pw_or (pt_chain op_lt op_lt pe_int (pv 4) pe_int) (pw_or1 (PW.pt (pw_and (pt_chain op_lt op_lt pe_int (pv 4) pe_int) (pw_and1 (pt_cmpR op_ne (pv 4) pe_int (nomark _))))))))
          (pss_one (ps_set (i := 5) nd rfl (.inl rfl) (pe_ix ix_str (pv 1) (pe_op op_sub (pe_op op_sub (pv 4) pe_int) (pe_callTy call_int1 (by rfl) T.n_int (by decide +kernel) (pa_cons (pe_cmpR op_gt (pv 4) pe_int (nomark _)) pa_nil))) (fun _ _ => rfl))))
          pss_nil)
        (pss_one (ps_expr (pe_bm PySem.F.plainAttrs_list PySem.F.slot_list_append PySem.F.type_list_append mt_append (pv 3) (pa_cons (pv 5) pa_nil)))))))
      (pss_cons (ps_if (PW.pt (pw_and (pt_cmpR (oNeD K hr.units) (pv 3) (pe_lst pa_nil) (nomark _)) (pw_and1 (pt_cmpR op_eq (pe_ix (ixL K) (pv 3) (pe_un un_neg pe_int) (fun _ _ => rfl)) pe_str (nomark _)))))
        (pss_one (ps_asg pe_str (pg_sub (pv 3) (pe_un un_neg pe_int) set_list)))
        pss_nil)
      (pss_one (ps_ret (pv 3)))))))), ?_⟩
    refine ⟨rfl, Nat.zero_le _, fun o no => ?_⟩
    have s1 := same_upd (o := .lst []) no
    have eo := upd_same (H := H) (a := o) (o := .lst [])
    generalize upd H o (.lst []) = H1 at *
    have hU := units_map hb
    have ok1 := units_okS hU
    refine ⟨.ref a, rfl, a, rfl, ⟨_, .inl (.inl (s1 _ _ hS))⟩, for_it (walk_listF (xs := nb l)) (fun i σ H' => ∃ (y4 y5 : Option V), σ = [some (.ref a), some (.str SIGNS), some (.str FIG), some (.ref o), y4, y5] ∧ Same H H' ∧ H' o = some (.lst ((strL ((l.take i).map uL)).map V.str)))
      ⟨none, none, rfl, s1, eo⟩ (fun i σ H' _ h => by obtain ⟨_, _, rfl, sm, _⟩ := h; exact .inl (.inl (sm _ _ hS))) (fun i x σ H' H'' hi hP hy => ?_) (fun σ H' hP => ?_)⟩
    · obtain ⟨y4, y5, rfl, sm, eR⟩ := hP
      obtain ⟨rfl, rfl⟩ := hy
      rw [nb_len] at hi
      dsimp only [gName]
      rw [nb_at l hi]
      have hbi := hb _ (getD_mem l 0 hi)
      have htk : l.take (i + 1) = l.take i ++ [l.getD i 0] := by
        rw [List.take_add_one, List.getElem?_eq_getElem hi, List.getD_eq_getElem?_getD, List.getElem?_eq_getElem hi]
        rfl
      have htl : (l.take i).length ≤ 100000 := by rw [List.length_take]; omega
      rw [htk]
      generalize l.getD i 0 = b at *
      have hf1 := fig_at ⟨b / 16, by omega⟩
      have hf2 := fig_at ⟨b % 16, by omega⟩
      have hfl : FIG.length ≤ sizeLine := by decide +kernel
      refine ⟨.str FIG, rfl, .int (b : Nat), rfl, _, 16, rfl, rfl, ⟨by decide, by decide⟩, FIG, _, hexDig (b / 16), rfl, rfl, hfl, (by rw [show ((b : Nat) : Int) / 16 = ((b / 16 : Nat) : Int) by omega]; exact atI_nat hf1), Str.ofString "=", _, rfl, rfl, by rw [show (Str.ofString "=").length = 1 by decide +kernel]; show 1 + 1 ≤ _; decide, .str FIG, rfl, .int (b : Nat), rfl, _, 16, rfl, rfl, (show (0 : Int) < 16 by decide), FIG, _, hexDig (b % 16), rfl, rfl, hfl, (by rw [show ((b : Nat) : Int) % 16 = ((b % 16 : Nat) : Int) by omega]; exact atI_nat hf2), _, _, rfl, rfl, by rw [len_app, show (Str.ofString "=").length = 1 by decide +kernel]; show 1 + 1 + 1 ≤ _; decide, ?_⟩
      dsimp only [gName]
      have ehex : Str.ofString "=" ++ (⟨#[hexDig (b / 16)]⟩ : Str) ++ (⟨#[hexDig (b % 16)]⟩ : Str) = ⟨(hexL b).toArray⟩ := TL.ext_tl (by rw [TL.tl_append, TL.tl_append, show TL.tl (Str.ofString "=") = [61] by decide +kernel]; rfl)
      rw [ehex]
      refine ifK fun D' hD => ?_
      have fin : ∀ (H4 : Hp) (u : List Nat), Same H'' H4 → u = uL b → D'.nx [some (.ref a), some (.str SIGNS), some (.str FIG), some (.ref o), some (.int (b : Nat)), some (.str ⟨u.toArray⟩)] H4 := fun H4 u s4 hu => by
        subst hD
        subst hu
        refine ⟨.ref o, rfl, .inl ⟨rfl, _, .inl (.inl (s4 _ _ eR))⟩, .str ⟨(uL b).toArray⟩, rfl, o, _, _, rfl, rfl, s4 _ _ eR, by rw [List.length_map, strL_len, List.length_map, sizeLine_eq]; omega, ?_⟩
        refine ⟨_, _, rfl, fun b' x e => ?_, ?_⟩
        · rw [upd_ne (ne_of_none e no)]
          exact s4 _ _ (sm _ _ e)
        · rw [upd_same, List.map_append, strL_app, List.map_append]
          rfl
      refine ifT (decide (31 < b ∧ b < 37) || (decide (37 < b ∧ b < 127) && !decide (b = 61))) (fun k q1 => orT _ _ (fun k q2 => ?_) (fun _ H3 k s3 q2 => andT _ _ (fun k q3 => ?_) (fun _ H4 k s4 q3 => ?_) q2) q1) (fun hc H3 s3 => ?_) (fun hc H3 s3 => ?_)
      · refine ⟨.int (b : Nat), rfl, 31, _, rfl, rfl, _, rfl, ?_⟩
        by_cases h1 : 31 < b
        · rw [decide_eq_true (show (31 : Int) < ((b : Nat) : Int) by omega)]
          exact iteT ⟨_, 37, rfl, rfl, _, rfl, TellB.eq (decide_eq_decide.mpr (by omega)) q2 _ (Same.refl _)⟩
        · rw [decide_eq_false (show ¬ (31 : Int) < ((b : Nat) : Int) by omega)]
          exact iteF ⟨_, rfl, TellB.eq (decide_eq_false (by omega)).symm q2 _ (Same.refl _)⟩
      · refine ⟨.int (b : Nat), rfl, 37, _, rfl, rfl, _, rfl, ?_⟩
        by_cases h1 : 37 < b
        · rw [decide_eq_true (show (37 : Int) < ((b : Nat) : Int) by omega)]
          exact iteT ⟨_, 127, rfl, rfl, _, rfl, TellB.eq (decide_eq_decide.mpr (by omega)) q3 _ (Same.refl _)⟩
        · rw [decide_eq_false (show ¬ (37 : Int) < ((b : Nat) : Int) by omega)]
          exact iteF ⟨_, rfl, TellB.eq (decide_eq_false (by omega)).symm q3 _ (Same.refl _)⟩
      · refine ⟨.int (b : Nat), rfl, rfl, _, rfl, TellB.eq ?_ q3 _ (Same.refl _)⟩
        rw [vint_dec]
        exact congrArg (! ·) (decide_eq_decide.mpr (by omega))
      · have hcc : (31 < b ∧ b < 37) ∨ ((37 < b ∧ b < 127) ∧ ¬ b = 61) := by simpa using hc
        have hsg : isSgn b = true := by
          unfold isSgn
          simp only [Bool.and_eq_true, decide_eq_true_eq, Bool.not_eq_true', decide_eq_false_iff_not]
          omega
        have hat := sg_at ⟨b, by omega⟩ hsg
        refine ⟨.str SIGNS, rfl, .int (b : Nat), rfl, _, 32, rfl, rfl, .int (b : Nat), rfl, _, 37, rfl, rfl, .inr ⟨_, rfl, _, _, rfl, rfl, SIGNS, _, b, rfl, rfl, by rw [SIGNS_len, sizeLine_eq]; decide, ?_, ?_⟩⟩
        · show atI (TL.tl SIGNS) ((b : Nat) - 32 - (if decide ((37 : Int) < ((b : Nat) : Int)) = true then 1 else 0)) = _
          unfold SIGNS
          rw [TL.tl_append]
          by_cases h1 : 37 < b
          · rw [decide_eq_true (show (37 : Int) < ((b : Nat) : Int) by omega), if_pos rfl]
            rw [if_pos (show b > 37 from h1)] at hat
            rw [show ((b : Nat) : Int) - 32 - 1 = ((b - 32 - 1 : Nat) : Int) by omega]
            exact atI_nat hat
          · rw [decide_eq_false (show ¬ (37 : Int) < ((b : Nat) : Int) by omega), if_neg Bool.false_ne_true]
            rw [if_neg (show ¬ b > 37 from h1)] at hat
            rw [show ((b : Nat) : Int) - 32 - 0 = ((b - 32 - 0 : Nat) : Int) by omega]
            exact atI_nat hat
        · refine fin H3 [b] s3 ?_
          unfold uL
          rw [if_pos (by rw [hsg]; simp; omega)]
      · have hcc : ¬ ((31 < b ∧ b < 37) ∨ ((37 < b ∧ b < 127) ∧ ¬ b = 61)) := fun h => by
          have : (decide (31 < b ∧ b < 37) || (decide (37 < b ∧ b < 127) && !decide (b = 61))) = true := by simpa using h
          rw [hc] at this
          exact nomatch this
        dsimp only [tNext, tSeq]
        refine fin H3 (hexL b) s3 ?_
        unfold uL
        rw [if_neg]
        intro h
        unfold isSgn at h
        simp only [Bool.and_eq_true, decide_eq_true_eq, Bool.not_eq_true', decide_eq_false_iff_not] at h
        omega
    · obtain ⟨y4, y5, rfl, sm, eR⟩ := hP
      rw [nb_len, List.take_length] at eR
      dsimp only [tNext, tSeq]
      have eblank : Str.ofString " " = ⟨#[32]⟩ := TL.ext_tl (by decide +kernel)
      refine ifT (decide ((l.map uL).getLast? = some [32])) (fun k q1 => andT (!decide (strL (l.map uL) = [])) (decide ((l.map uL).getLast? = some [32])) (fun k q2 => ⟨.ref o, rfl, Nat.zero_le _, fun g ng => ⟨_, _, dp_strs (.inl (.inl (same_upd ng _ _ eR))), .lst (.inl (.inl upd_same)) .nil, shaped_strs _ ok1, (by rfl), _, rfl, TellB.eq (congrArg (! ·) (eqv_strsL _ [])) q2 _ (same_upd ng)⟩⟩) (fun hne H3 k s3 q2 => ?_) (TellB.eq ?_ q1)) (fun hc H3 s3 => ?_) (fun hc H3 s3 => ?_)
      · rcases List.eq_nil_or_concat (l.map uL) with h0 | ⟨L, y, h0⟩
        · rw [h0] at hne; exact absurd hne (by simp [strL])
        · rw [List.concat_eq_append] at h0
          rw [h0] at q2 eR
          rw [List.getLast?_concat] at q2
          rw [strL_app, List.map_append] at eR
          refine ⟨.ref o, rfl, 1, rfl, o, _, -1, .str ⟨y.toArray⟩, rfl, rfl, .inl (.inl (s3 _ _ eR)), atI_last _ _, rfl, _, rfl, TellB.eq ?_ q2 _ (Same.refl _)⟩
          rw [vstr_dec]
          refine decide_eq_decide.mpr ?_
          rw [eblank, Option.some.injEq, str_eq_iff]
      · cases h0 : l.map uL with
        | nil => simp [strL]
        | cons x r => simp [strL]
      · have hc := of_decide_eq_true hc
        rcases List.eq_nil_or_concat (l.map uL) with h0 | ⟨L, y, h0⟩
        · rw [h0] at hc; simp at hc
        · rw [List.concat_eq_append] at h0
          rw [h0, List.getLast?_concat] at hc
          have ex : fixL (l.map uL) = L ++ [hexL 32] := by
            unfold fixL
            rw [h0, List.getLast?_concat, if_pos hc, List.dropLast_concat]
          have eD := s3 _ _ eR
          rw [h0, strL_app, List.map_append] at eD
          have eD : H3 o = some (.lst ((strL L).map V.str ++ [.str ⟨y.toArray⟩])) := eD
          refine ⟨.ref o, rfl, 1, rfl, o, _, -1, _, rfl, rfl, eD, ixN_last _ _, ?_⟩
          rw [set_last]
          refine ⟨.ref o, rfl, q _ o (fun b x eb => ?_) no ?_⟩
          · rw [upd_ne (ne_of_none eb no)]
            exact s3 _ _ (sm _ _ eb)
          · rw [upd_same, ex, strL_app, List.map_append, show Str.ofString "=20" = ⟨(hexL 32).toArray⟩ from TL.ext_tl (by decide +kernel)]
            rfl
      · have hc := of_decide_eq_false hc
        have ex : fixL (l.map uL) = l.map uL := by unfold fixL; rw [if_neg hc]
        rw [ex] at q
        exact ⟨.ref o, rfl, q _ o (sm.trans s3) no (s3 _ _ eR)⟩
end
end K07

namespace K07
open PySem PySem.Spec PyProof.Rows L2 LH
section
variable {P : Program} {w : World} {K : PySem.W.Frag} {mg : Str → Option Value} {base : Heap} {tk : Nat → Tok} {ca : Nat → Addr}
theorem cutR_begin {u : List Nat} {r : List (List Nat)} (h : u.length < 60) : cutR [] (u :: r) = cutR u r := by
  rw [cutR, if_neg (fun c => by have := c.2; rw [List.length_nil] at this; omega), List.nil_append]
theorem strL_cons (u : List Nat) (r : List (List Nat)) : (strL (u :: r)).map V.str = .str ⟨u.toArray⟩ :: (strL r).map V.str := rfl
theorem sum_ints (us : List (List Nat)) : (((us.map fun u => ((u.length : Nat) : Int)))).sum = (tot us : Nat) := by
  induction us with
  | nil => rfl
  | cons u r ih => rw [List.map_cons, List.sum_cons, ih, tot_cons]; omega
theorem at0 {α : Type} (x : α) (r : List α) : atI (x :: r) 0 = some x := atI_nat (xs := x :: r) (j := 0) rfl
/-! ### _law_in_sixteens -/
abbrev s__law_in_sixteens : Stmt := topS 24
abbrev N__law_in_sixteens : List Str := ["_law_row", "_law_rows", "_law_part", "_law_units_here", "_law_row_so_far", "_law_unit"]
abbrev P__law_in_sixteens : List Str := ["_law_row"]
theorem sc__law_in_sixteens : FnScope N__law_in_sixteens ["_law_row"] (defScope s__law_in_sixteens) := ⟨rfl, rfl, rfl, by decide +kernel, rfl, by decide +kernel, by decide +kernel⟩
theorem ok_lin {f fP fU : Addr} {fd fdP fdU : FuncData} (F : Fun K "_law_in_sixteens" "_law_in_sixteens" s__law_in_sixteens f fd) (T : Tx mg tk) (D__law_parts : Def P w K mg base "_law_parts" 1 fP fdP P__law_parts sp_lines) (D__law_units : Def P w K mg base "_law_units" 2 fU fdU P__law_units sp_parts_of) : FnOk P w K mg base CX0 3 f fd P__law_in_sixteens sp_sixteens := by
  refine F.ok sc__law_in_sixteens (fun vs H Q E h => ?_) (fun cdv A outer s H vs Q E hr h => ?_)
  · obtain ⟨a, l, rfl, _⟩ := h
    rfl
  · have nd := sc__law_in_sixteens.nd
    obtain ⟨a, l, rfl, hS, hb, hl, q⟩ := h
    refine ⟨_, (pss_cons (ps_set (i := 1) nd rfl (.inl rfl) (pe_lst pa_nil))
      (pss_cons (ps_for PassesOwn.never rfl (pi_list (pe_def D__law_parts (hr.mono (by decide)) (pa_cons (pv 0) pa_nil))) (pg_name (i := 2) nd rfl (Or.inl rfl))
        (pss_cons (ps_set (i := 3) nd rfl (.inl rfl) (pe_def D__law_units (hr.mono (by decide)) (pa_cons (pv 2) pa_nil)))
        (pss_cons (ps_while PassesOwn.never (pt_cmpR op_gt (pe_callB (cr_sum rfl) (by rfl) T.n_sum (by decide +kernel) (pa_cons (pe_lc (own := [("_law_unit", 5)]) (g := gName 5) (by rfl) nd (pi_list (pv 3)) (blkOk_by (N := N__law_in_sixteens) (sc := defScope s__law_in_sixteens) (by decide +kernel)) (fun _ _ _ _ _ => (pg_name (i := 5) nd rfl (Or.inl rfl))) (fun _ _ _ _ _ => pts_nil) (fun _ _ _ _ _ => (pe_callB call_len_str (by rfl) T.n_len (by decide +kernel) (pa_cons (pv 5) pa_nil)))) pa_nil)) pe_int (nomark _))
          (pss_cons (ps_set (i := 4) nd rfl (.inl rfl) pe_str)
          (pss_cons (ps_while PassesOwn.never (pt_cmpR op_lt (pe_callB call_len_str (by rfl) T.n_len (by decide +kernel) (pa_cons (pe_op op_add_str (pv 4) (pe_ix (ixL K) (pv 3) pe_int (fun _ _ => rfl))) pa_nil)) pe_int (nomark _))
            (pss_cons (ps_set (i := 4) nd rfl (.inl rfl) (pe_op op_add_str (pv 4) (pe_ix (ixL K) (pv 3) pe_int (fun _ _ => rfl))))
            (pss_one (ps_set (i := 3) nd rfl (.inl rfl) (pe_slice (slL K) (pv 3) (po_some pe_int) po_none)))))
          (pss_one (ps_expr (pe_bm PySem.F.plainAttrs_list PySem.F.slot_list_append PySem.F.type_list_append mt_append (pv 1) (pa_cons (pe_op op_add_str (pv 4) pe_str) pa_nil)))))))
        (pss_one (ps_expr (pe_bm PySem.F.plainAttrs_list PySem.F.slot_list_append PySem.F.type_list_append mt_append (pv 1) (pa_cons (pe_join pe_str (pv 3)) pa_nil)))))))
      (pss_one (ps_ret (pv 1))))), ?_⟩
    refine ⟨Nat.zero_le _, fun o no => ?_⟩
    have s1 := same_upd (o := .lst []) no
    have eo := upd_same (H := H) (a := o) (o := .lst [])
    generalize upd H o (.lst []) = H1 at *
    refine ⟨.ref a, rfl, a, l, rfl, s1 _ _ hS, by omega, fun H2 p ts s2 np ep htl hts => ?_⟩
    have hpo := parts_ok hb
    have hpl := splitL_len 10 l
    have hrm := rows16_many l
    unfold rows16 at hrm q
    generalize hps : splitL 10 l = ps at *
    have hm : (ts.map V.ref).length = ps.length := by rw [List.length_map, htl]
    have tne : ∀ j, j < ps.length → ts.getD j 0 ≠ o := fun j hj => Ne.symm (ne_of_none eo (hts j hj).2)
    have pne : p ≠ o := Ne.symm (ne_of_none eo np)
    refine ⟨p, rfl, ⟨_, .inl (.inl ep)⟩, for_it (walk_listF (xs := ts.map V.ref)) (fun i σ H' => ∃ (y2 y3 y4 : Option V), σ = [some (.ref a), some (.ref o), y2, y3, y4, none] ∧ Same H H' ∧ H' p = some (.lst (ts.map V.ref)) ∧ (∀ j, j < ps.length → H' (ts.getD j 0) = some (.lst (nb (ps.getD j [])))) ∧ H' o = some (.lst ((strL ((ps.take i).map lineR).flatten).map V.str)))
      ⟨none, none, none, rfl, s1.trans s2, ep, fun j hj => (hts j hj).1, s2 _ _ eo⟩ (fun i σ H' _ h => by obtain ⟨_, _, _, rfl, _, e, _⟩ := h; exact .inl (.inl e)) (fun i x σ H' H'' hi hP hy => ?_) (fun σ H' hP => ?_)⟩
    · obtain ⟨y2, y3, y4, rfl, sm, ep', hts', eR⟩ := hP
      obtain ⟨rfl, rfl⟩ := hy
      rw [hm] at hi
      have hx : (ts.map V.ref).getD i .non = .ref (ts.getD i 0) := by
        rw [List.getD_eq_getElem?_getD, List.getElem?_map, List.getElem?_eq_getElem (by omega), List.getD_eq_getElem?_getD, List.getElem?_eq_getElem (by omega)]
        rfl
      dsimp only [gName]
      rw [hx]
      have hpi := hpo _ (getD_mem ps [] hi)
      have htk : ps.take (i + 1) = ps.take i ++ [ps.getD i []] := by
        rw [List.take_add_one, List.getElem?_eq_getElem hi, List.getD_eq_getElem?_getD, List.getElem?_eq_getElem hi]
        rfl
      have hgood := hts' i hi
      refine ⟨.ref (ts.getD i 0), rfl, ts.getD i 0, ps.getD i [], rfl, hgood, hpi.1, by omega, fun H3 g s3 ng eg => ?_⟩
      have hU := units_fix (units_map hpi.1)
      have hul : (fixL ((ps.getD i []).map uL)).length ≤ 4000 := by rw [fix_len, List.length_map]; omega
      have htgt : ((ps.take (i + 1)).map lineR).flatten = ((ps.take i).map lineR).flatten ++ cutR [] (fixL ((ps.getD i []).map uL)) := by
        rw [htk, List.map_append, List.flatten_append]
        simp [lineR]
      rw [htgt]
      generalize fixL ((ps.getD i []).map uL) = us at *
      generalize hR0 : ((ps.take i).map lineR).flatten = R0 at *
      have hR0l : R0.length ≤ 16008001 := by
        have h1 := flat_le ((ps.take i).map lineR) (l.length + 1) fun x hx => by
          obtain ⟨z, hz, rfl⟩ := List.mem_map.mp hx
          have := lineR_many z
          have := (hpo z (List.mem_of_mem_take hz)).2
          omega
        rw [hR0, List.length_map, List.length_take] at h1
        exact Nat.le_trans h1 (Nat.le_trans (Nat.mul_le_mul (show min i ps.length ≤ 4001 by omega) (show l.length + 1 ≤ 4001 by omega)) (by decide))
      dsimp only [gName]
      refine whileT (fun σ H' => ∃ (y4 : Option V) (g : Addr) (vs : List (List Nat)) (R : List (List Nat)), σ = [some (.ref a), some (.ref o), some (.ref (ts.getD i 0)), some (.ref g), y4, none] ∧ Same H H' ∧ H' p = some (.lst (ts.map V.ref)) ∧ (∀ j, j < ps.length → H' (ts.getD j 0) = some (.lst (nb (ps.getD j [])))) ∧ g ≠ o ∧ H' g = some (.lst ((strL vs).map V.str)) ∧ H' o = some (.lst ((strL R).map V.str)) ∧ R ++ cutR [] vs = R0 ++ cutR [] us ∧ UnitsL vs ∧ vs.length ≤ us.length ∧ R.length + vs.length ≤ R0.length + us.length)
        (fun σ H' => match σ[3]? with | some (some (V.ref g)) => (match H' g with | some (HO.lst xs) => xs.length | _ => 0) | _ => 0)
        ⟨_, g, us, R0, rfl, sm.trans s3, s3 _ _ ep', fun j hj => s3 _ _ (hts' j hj), ?_, eg, s3 _ _ eR, rfl, hU, Nat.le_refl _, Nat.le_refl _⟩ (fun σ H4 hP => ?_)
      · exact fun z => by rw [z] at ng; rw [eR] at ng; exact nomatch ng
      · obtain ⟨y4, g, vs, R, rfl, sm4, ep4, hts4, hgo, eg4, eR4, hcut, hV, hvl, hRv⟩ := hP
        have hvm : ((strL vs).map V.str).length = vs.length := by rw [List.length_map, strL_len]
        refine ⟨decide (60 < tot vs), fun k q1 => ?_, fun hc H5 s5 => ?_, fun hc H5 s5 => ?_⟩
        · refine ⟨.ref g, rfl, g, rfl, ⟨_, .inl (.inl eg4)⟩, fun D hD => lc_pure (fun j => ((strL vs).map V.str).getD j .non) (fun j => .int ((vs.getD j []).length : Nat)) walk_listF (fun H5 s5 => s5.seq (.inl (.inl eg4))) hD (by rw [hvm, sizeLine_eq]; omega) (fun j H5 Q5 hj s5 q5 => ?_) (fun H5 s5 e => ?_)⟩
          · rw [hvm] at hj
            have hxj : ((strL vs).map V.str).getD j .non = .str ⟨(vs.getD j []).toArray⟩ := by
              unfold strL
              rw [List.getD_eq_getElem?_getD, List.getElem?_map, List.getElem?_map, List.getElem?_eq_getElem hj, List.getD_eq_getElem?_getD, List.getElem?_eq_getElem hj]
              rfl
            rw [hxj]
            have hvj := hV _ (getD_mem vs [] hj)
            refine ⟨_, rfl, _, rfl, by rw [mk_len, sizeLine_eq]; omega, ?_⟩
            rw [mk_len]
            exact q5 _ (Same.refl _)
          · have e2 : (List.range ((strL vs).map V.str).length).map (fun j => V.int ((vs.getD j []).length : Nat)) = (vs.map fun u => ((u.length : Nat) : Int)).map V.int := by
              rw [hvm, List.map_map]
              have := congrArg (List.map fun u : List Nat => V.int ((u.length : Nat) : Int)) (LH.range_getD vs [])
              rw [List.map_map] at this
              exact this
            rw [e2] at e
            refine ⟨D, _, rfl, .inl (.inl e), _, 60, rfl, rfl, _, rfl, TellB.eq ?_ q1 _ s5⟩
            rw [sum_ints]
            exact decide_eq_decide.mpr (by omega)
        · have hc := of_decide_eq_true hc
          have sm5 := sm4.trans s5
          have ep5 := s5 _ _ ep4
          have hts5 := fun j hj => s5 _ _ (hts4 j hj)
          have eR5 := s5 _ _ eR4
          have eg5 := s5 _ _ eg4
          dsimp only [gName]
          refine whileT (fun σ H' => ∃ (c : List Nat) (g' : Addr) (ws : List (List Nat)), σ = [some (.ref a), some (.ref o), some (.ref (ts.getD i 0)), some (.ref g'), some (.str ⟨c.toArray⟩), none] ∧ Same H5 H' ∧ g' ≠ o ∧ H' g' = some (.lst ((strL ws).map V.str)) ∧ R ++ cutR c ws = R0 ++ cutR [] us ∧ UnitsL ws ∧ 60 < c.length + tot ws ∧ c.length < 60 ∧ ws.length ≤ vs.length ∧ (0 < c.length → ws.length < vs.length))
            (fun σ H' => match σ[4]? with | some (some (V.str z)) => 60 - z.length | _ => 0)
            ⟨[], g, vs, ?_, Same.refl _, hgo, eg5, hcut, hV, by rw [List.length_nil]; omega, by decide, Nat.le_refl _, fun h => absurd h (Nat.lt_irrefl 0)⟩ (fun σ H6 hP => ?_)
          · rw [show (⟨([] : List Nat).toArray⟩ : Str) = Str.ofString "" from TL.ext_tl (by decide +kernel)]
            rfl
          · obtain ⟨c, g', ws, rfl, s6, hgo', eg6, hcut6, hW, ht6, hc6, hw6, hw6'⟩ := hP
            cases ws with
            | nil =>
              have : tot ([] : List (List Nat)) = 0 := rfl
              omega
            | cons u r =>
              have hu := hW u (by simp)
              have hr' : UnitsL r := fun x hx => hW x (by simp [hx])
              have hml : (⟨c.toArray⟩ : Str).length = c.length := mk_len c
              have hmu : (⟨u.toArray⟩ : Str).length = u.length := mk_len u
              rw [tot_cons] at ht6
              rw [strL_cons] at eg6
              refine ⟨decide (c.length + u.length < 60), fun k q1 => ?_, fun hc H7 s7 => ?_, fun hc H7 s7 => ?_⟩
              · refine ⟨_, rfl, .ref g', rfl, g', _, 0, .str ⟨u.toArray⟩, rfl, rfl, .inl (.inl eg6), at0 _ _, _, _, rfl, rfl, by rw [hml, hmu, sizeLine_eq]; omega, _, rfl, by rw [len_app, hml, hmu, sizeLine_eq]; omega, _, 60, rfl, rfl, _, rfl, TellB.eq (decide_eq_decide.mpr (by rw [len_app, hml, hmu]; omega)) q1 _ (Same.refl _)⟩
              · have hc := of_decide_eq_true hc
                have eg7 := s7 _ _ eg6
                have e1 : (⟨c.toArray⟩ : Str) ++ (⟨u.toArray⟩ : Str) = ⟨(c ++ u).toArray⟩ := TL.ext_tl (by rw [TL.tl_append])
                refine ⟨_, rfl, .ref g', rfl, g', _, 0, .str ⟨u.toArray⟩, rfl, rfl, .inl (.inl eg7), at0 _ _, _, _, rfl, rfl, by rw [hml, hmu, sizeLine_eq]; omega, ?_⟩
                rw [e1]
                refine ⟨.ref g', rfl, 1, rfl, g', _, rfl, .inl (.inl eg7), fun g2 ng2 => ?_⟩
                have s8 := same_upd (o := .lst (cutV (V.str ⟨u.toArray⟩ :: (strL r).map V.str) (some 1) none)) ng2
                have ecut : cutV (V.str ⟨u.toArray⟩ :: (strL r).map V.str) (some 1) none = (strL r).map V.str := by
                  rw [show (1 : Int) = ((1 : Nat) : Int) from rfl, cutV_from]
                  rfl
                rw [ecut] at s8 ⊢
                refine ⟨⟨c ++ u, g2, r, rfl, s6.trans (s7.trans s8), fun z => ?_, upd_same, ?_, hr', by rw [List.length_append]; omega, by rw [List.length_append]; omega, by rw [List.length_cons] at hw6; omega, fun _ => by rw [List.length_cons] at hw6; omega⟩, ?_⟩
                · rw [z, s7 _ _ (s6 _ _ eR5)] at ng2
                  exact nomatch ng2
                · rw [cutR, tot_cons, if_neg (fun h => by omega)] at hcut6
                  exact hcut6
                · show 60 - (⟨(c ++ u).toArray⟩ : Str).length < 60 - (⟨c.toArray⟩ : Str).length
                  rw [mk_len, hml, List.length_append]
                  omega
              · have hc := of_decide_eq_false hc
                have e2 : (⟨c.toArray⟩ : Str) ++ Str.ofString "=" = ⟨(c ++ [61]).toArray⟩ := TL.ext_tl (by rw [TL.tl_append, show TL.tl (Str.ofString "=") = [61] by decide +kernel])
                have s8 := s6.trans s7
                have eR7 := s8 _ _ eR5
                have hRl : R.length ≤ 16016001 := by omega
                refine ⟨.ref o, rfl, .inl ⟨rfl, _, .inl (.inl eR7)⟩, .str ⟨c.toArray⟩, rfl, _, Str.ofString "=", rfl, rfl, by rw [hml, show (Str.ofString "=").length = 1 by decide +kernel, sizeLine_eq]; omega, o, _, _, rfl, rfl, eR7, by rw [List.length_map, strL_len, sizeLine_eq]; omega, ?_⟩
                rw [e2]
                have hcut7 : R ++ [c ++ [61]] ++ cutR [] (u :: r) = R0 ++ cutR [] us := by
                  rw [cutR, tot_cons, if_pos ⟨ht6, by omega⟩] at hcut6
                  rw [cutR_begin (by omega), List.append_assoc]
                  exact hcut6
                have hlt := hw6' (by omega)
                refine ⟨⟨_, g', u :: r, R ++ [c ++ [61]], rfl, fun b x e => ?_, ?_, fun j hj => ?_, hgo', ?_, ?_, hcut7, hW, by omega, ?_⟩, ?_⟩
                · rw [upd_ne (ne_of_none e no)]
                  exact s8 _ _ (sm5 _ _ e)
                · rw [upd_ne pne]
                  exact s8 _ _ ep5
                · rw [upd_ne (tne j hj)]
                  exact s8 _ _ (hts5 j hj)
                · rw [upd_ne hgo']
                  exact s7 _ _ eg6
                · rw [upd_same, strL_app, List.map_append]
                  rfl
                · rw [List.length_append, List.length_singleton]
                  omega
                · show (match upd H7 o _ g' with | some (HO.lst xs) => xs.length | _ => 0) < (match H4 g with | some (HO.lst xs) => xs.length | _ => 0)
                  rw [upd_ne hgo', s7 _ _ eg6, eg4]
                  show (V.str ⟨u.toArray⟩ :: (strL r).map V.str).length < ((strL vs).map V.str).length
                  rw [hvm, List.length_cons, List.length_map, strL_len]
                  rw [List.length_cons] at hlt
                  exact hlt
        · have hc := of_decide_eq_false hc
          have sm5 := sm4.trans s5
          have eR5 := s5 _ _ eR4
          have hjl : (Txt.join (Str.ofString "") (strL vs)).length = tot vs := by rw [TL.len_tl, join_units, tot_flat]
          have hjt : Txt.join (Str.ofString "") (strL vs) = ⟨vs.flatten.toArray⟩ := TL.ext_tl (by rw [join_units])
          have hRl : R.length ≤ 16016001 := by omega
          refine ⟨.ref o, rfl, .inl ⟨rfl, _, .inl (.inl eR5)⟩, ⟨_, rfl⟩, .ref g, rfl, Str.ofString "", g, strL vs, rfl, rfl, .inl (.inl (.inl (s5 _ _ eg4))), by rw [sum_units, show (Str.ofString "").length = 0 by decide +kernel]; omega, o, _, _, rfl, rfl, eR5, by rw [List.length_map, strL_len, sizeLine_eq]; omega, ?_⟩
          rw [hjt]
          rw [cutR_short vs [] (by rw [List.length_nil]; omega), List.nil_append] at hcut
          refine ⟨_, _, _, rfl, fun b x e => ?_, ?_, fun j hj => ?_, ?_⟩
          · rw [upd_ne (ne_of_none e no)]
            exact sm5 _ _ e
          · rw [upd_ne pne]
            exact s5 _ _ ep4
          · rw [upd_ne (tne j hj)]
            exact s5 _ _ (hts4 j hj)
          · rw [upd_same, ← hcut, strL_app, List.map_append]
            rfl
    · obtain ⟨y2, y3, y4, rfl, sm, ep', hts', eR⟩ := hP
      rw [hm, List.take_length] at eR
      exact ⟨.ref o, rfl, q _ o sm no eR⟩
end
end K07

namespace K07
open PySem PySem.Spec PyProof.Rows L2 LH
section
variable {P : Program} {w : World} {K : PySem.W.Frag} {mg : Str → Option Value} {base : Heap} {tk : Nat → Tok} {ca : Nat → Addr}
/-! ### _law_mixed -/
/-! ### _law_mixed -/
abbrev s__law_mixed : Stmt := topS 20
abbrev N__law_mixed : List Str := ["_law_cell", "_law_k"]
abbrev P__law_mixed : List Str := ["_law_cell", "_law_k"]
theorem sc__law_mixed : FnScope N__law_mixed ["_law_cell", "_law_k"] (defScope s__law_mixed) := ⟨rfl, rfl, rfl, by decide +kernel, rfl, by decide +kernel, by decide +kernel⟩
def mixed (c k : Int) : Int := (c * 48271 + 7919 * k * k * k + 104729) % 2147483647 * 16807 % 2147483629
theorem mixed_lt (c k : Int) : 0 ≤ mixed c k ∧ mixed c k < 2147483629 := ⟨Int.emod_nonneg _ (by decide), Int.emod_lt_of_pos _ (by decide)⟩
def sp_mixed : Sp := fun vs H Q _ => ∃ (c k : Int), vs = [.int c, .int k] ∧ 0 ≤ k ∧ k < 1000 ∧ Tell H (.int (mixed c k)) Q
theorem ok_mixed {f : Addr} {fd : FuncData} {k : Nat} (F : Fun K "_law_mixed" "_law_mixed" s__law_mixed f fd) : FnOk P w K mg base CX0 (k + 1) f fd P__law_mixed sp_mixed := by
  refine F.ok sc__law_mixed (fun vs H Q E h => ?_) (fun cdv A outer s H vs Q E hr h => ?_)
  · obtain ⟨c, j, rfl, _⟩ := h
    rfl
  · have nd := sc__law_mixed.nd
    obtain ⟨c, j, rfl, h0, h1, q⟩ := h
    refine ⟨_, (pss_one (ps_ret (pe_op op_mod (pe_op op_mul (pe_op op_mod (pe_op op_add (pe_op op_add (pe_op op_mul (pv 0) pe_int) (pe_op op_mul (pe_op op_mul (pe_op op_mul pe_int (pv 1)) (pv 1)) (pv 1))) pe_int) pe_int) pe_int) pe_int))), ?_⟩
    refine ⟨.int c, rfl, c, 48271, rfl, rfl, .inr (by decide), .int j, rfl, 7919, j, rfl, rfl, .inl (by decide), .int j, rfl, _, j, rfl, rfl, .inr ⟨by omega, by omega⟩, .int j, rfl, _, j, rfl, rfl, .inr ⟨by omega, by omega⟩, _, _, rfl, rfl, _, _, rfl, rfl, _, _, rfl, rfl, (show (0 : Int) < 2147483647 by decide), _, _, rfl, rfl, .inr (by decide), _, _, rfl, rfl, (show (0 : Int) < 2147483629 by decide), q _ (Same.refl _)⟩
theorem nb_app (a b : List Nat) : nb (a ++ b) = nb a ++ nb b := List.map_append
theorem nb_rep (b n : Nat) : (List.replicate n [V.int (b : Nat)]).flatten = nb (List.replicate n b) := by
  induction n with
  | zero => rfl
  | succ k ih => rw [List.replicate_succ, List.flatten_cons, ih, List.replicate_succ]; rfl
theorem bytes_rep {b : Nat} (h : b < 256) (n : Nat) : BytesN (List.replicate n b) := fun x hx => by rw [(List.mem_replicate.mp hx).2]; exact h
theorem bytes_app {a b : List Nat} (h : BytesN a) (g : BytesN b) : BytesN (a ++ b) := fun x hx => (List.mem_append.mp hx).elim (h x) (g x)
theorem rep_len1 {α : Type} (x : α) (k : Nat) : (List.replicate k [x]).flatten.length = k := by
  induction k with
  | zero => rfl
  | succ n ih => rw [List.replicate_succ, List.flatten_cons, List.length_append, ih]; simp; omega
theorem getD_app_r' {α : Type} (xs ys : List α) (d : α) {i : Nat} (h : xs.length ≤ i) : (xs ++ ys).getD i d = ys.getD (i - xs.length) d := by
  rw [List.getD_eq_getElem?_getD, List.getD_eq_getElem?_getD, List.getElem?_append_right h]
theorem tot_units {l : List Nat} (h : BytesN l) : tot (fixL (l.map uL)) ≤ 3 * l.length := by
  have := tot_le (units_fix (units_map h))
  rw [fix_len, List.length_map] at this
  exact this
/-! ### _law_bytes -/
abbrev s__law_bytes : Stmt := topS 25
abbrev N__law_bytes : List Str := ["_law_script", "_law_found", "_law_k", "_law_cell", "_law_number", "_law_more", "_law_way", "_law_size", "_law_room", "_law_unit"]
abbrev P__law_bytes : List Str := ["_law_script"]
theorem sc__law_bytes : FnScope N__law_bytes ["_law_script"] (defScope s__law_bytes) := ⟨rfl, rfl, rfl, by decide +kernel, rfl, by decide +kernel, by decide +kernel⟩
def sp_lbytes (K : PySem.W.Frag) : Sp := fun vs H Q _ => ∃ (a : Addr) (ns : List Int), vs = [.ref a] ∧ SqL K H a (ns.map V.int) ∧ ns.length ≤ 63 ∧ ∀ l : List Nat, BytesN l → l.length ≤ 4000 → New H (nb l) Q
theorem ok_lbytes {f fM fP fU : Addr} {fd fdM fdP fdU : FuncData} (F : Fun K "_law_bytes" "_law_bytes" s__law_bytes f fd) (T : Tx mg tk) (D__law_mixed : Def P w K mg base "_law_mixed" 1 fM fdM P__law_mixed sp_mixed) (D__law_parts : Def P w K mg base "_law_parts" 1 fP fdP P__law_parts sp_lines) (D__law_units : Def P w K mg base "_law_units" 2 fU fdU P__law_units sp_parts_of) : FnOk P w K mg base CX0 3 f fd P__law_bytes (sp_lbytes K) := by
  refine F.ok sc__law_bytes (fun vs H Q E h => ?_) (fun cdv A outer s H vs Q E hr h => ?_)
  · obtain ⟨a, ns, rfl, _⟩ := h
    rfl
  · have nd := sc__law_bytes.nd
    obtain ⟨a, ns, rfl, hS, hlen, q⟩ := h
    refine ⟨_, (pss_cons (ps_set (i := 1) nd rfl (.inl rfl) (pe_lst pa_nil))
      (pss_cons (ps_for PassesOwn.never rfl (pi_enum (by rfl) T.n_enumerate (pa_cons (pe_slice (slL K) (pv 0) po_none (po_some pe_int)) pa_nil)) (pg_tup rfl (pgs_cons (pg_name (i := 2) nd rfl (Or.inl rfl)) (pgs_cons (pg_name (i := 3) nd rfl (Or.inl rfl)) pgs_nil)))
        (pss_cons (ps_set (i := 4) nd rfl (.inl rfl) (pe_def D__law_mixed (hr.mono (by decide)) (pa_cons (pv 3) (pa_cons (pv 2) pa_nil))))
        (pss_cons (ps_set (i := 5) nd rfl (.inl rfl) (pe_op op_fdiv (pv 4) pe_int))
        (pss_cons (ps_set (i := 6) nd rfl (.inl rfl) (pe_op op_mod (pv 4) pe_int))
        (pss_one (ps_if (pt_cmpR op_lt (pv 6) pe_int (nomark _))
          (pss_one (ps_set (i := 1) nd rfl (.inl rfl) (pe_op op_cat (pv 1) (pe_op op_rep (pe_lst (pa_cons (pe_op op_add pe_int (pe_op op_mod (pv 5) pe_int)) pa_nil)) (pe_op op_add pe_int (pe_op op_mod (pe_op op_fdiv (pv 5) pe_int) pe_int))))))
          (pss_one (ps_if (pt_cmpR op_eq (pv 6) pe_int (nomark _))
            (pss_one (ps_set (i := 1) nd rfl (.inl rfl) (pe_op op_cat (pv 1) (pe_op op_rep (pe_lst (pa_cons pe_int pa_nil)) (pe_op op_add pe_int (pe_op op_mod (pv 5) pe_int))))))
            (pss_one (ps_if (pt_cmpR op_eq (pv 6) pe_int (nomark _))
              (pss_one (ps_set (i := 1) nd rfl (.inl rfl) (pe_op op_cat (pv 1) (pe_op op_rep (pe_lst (pa_cons pe_int pa_nil)) (pe_op op_add pe_int (pe_op op_fdiv (pe_op op_mod (pv 5) pe_int) pe_int))))))
              (pss_one (ps_if (pt_cmpR op_eq (pv 6) pe_int (nomark _))
                (pss_one (ps_set (i := 1) nd rfl (.inl rfl) (pe_op op_cat (pv 1) (pe_lst (pa_cons (pe_op op_mod (pv 5) pe_int) (pa_cons (pe_op op_mod (pe_op op_fdiv (pv 5) pe_int) pe_int) pa_nil))))))
                (pss_one (ps_if (pt_cmpR op_eq (pv 6) pe_int (nomark _))
                  (pss_one (ps_set (i := 1) nd rfl (.inl rfl) (pe_op op_cat (pv 1) (pe_op op_rep (pe_lst (pa_cons (pe_ix (ixL K) (pe_lst (pa_cons pe_int (pa_cons pe_int (pa_cons pe_int (pa_cons pe_int (pa_cons pe_int (pa_cons pe_int (pa_cons pe_int (pa_cons pe_int pa_nil))))))))) (pe_op op_mod (pv 5) pe_int) (fun _ _ => rfl)) pa_nil)) (pe_op op_add pe_int (pe_op op_mod (pe_op op_fdiv (pv 5) pe_int) pe_int))))))
                  (pss_cons (ps_set (i := 7) nd rfl (.inl rfl) (pe_callB (cr_sum rfl) (by rfl) T.n_sum (by decide +kernel) (pa_cons (pe_lc (own := [("_law_unit", 9)]) (g := gName 9) (by rfl) nd (pi_list (pe_def D__law_units (hr.mono (by decide)) (pa_cons (pe_ix (ixL K) (pe_def D__law_parts (hr.mono (by decide)) (pa_cons (pv 1) pa_nil)) (pe_un un_neg pe_int) (fun _ _ => rfl)) pa_nil))) (blkOk_by (N := N__law_bytes) (sc := defScope s__law_bytes) (by decide +kernel)) (fun _ _ _ _ _ => (pg_name (i := 9) nd rfl (Or.inl rfl))) (fun _ _ _ _ _ => pts_nil) (fun _ _ _ _ _ => (pe_callB call_len_str (by rfl) T.n_len (by decide +kernel) (pa_cons (pv 9) pa_nil)))) pa_nil)))
                  (pss_cons (ps_set (i := 8) nd rfl (.inl rfl) (pe_callB (call_max2 rfl) (by rfl) T.n_max (by decide +kernel) (pa_cons pe_int (pa_cons (pe_op op_sub (pe_op op_add pe_int (pe_op op_mod (pe_op op_fdiv (pv 5) pe_int) pe_int)) (pe_op op_mod (pv 7) pe_int)) pa_nil))))
                  (pss_one (ps_set (i := 1) nd rfl (.inl rfl) (pe_op op_cat (pv 1) (pe_op op_rep (pe_lst (pa_cons (pe_ix (ixL K) (pe_lst (pa_cons pe_int (pa_cons pe_int (pa_cons pe_int pa_nil)))) (pe_op op_mod (pv 5) pe_int) (fun _ _ => rfl)) pa_nil)) (pe_op op_fdiv (pv 8) (pe_ix (ixL K) (pe_lst (pa_cons pe_int (pa_cons pe_int (pa_cons pe_int pa_nil)))) (pe_op op_mod (pv 5) pe_int) (fun _ _ => rfl)))))))))))))))))))))))
      (pss_one (ps_ret (pv 1))))), ?_⟩
    refine ⟨Nat.zero_le _, fun o no => ?_⟩
    have s1 := same_upd (o := .lst []) no
    have eo := upd_same (H := H) (a := o) (o := .lst [])
    generalize upd H o (.lst []) = H1 at *
    refine ⟨.ref a, rfl, 63, rfl, a, _, rfl, s1.seq hS, fun c nc => ?_⟩
    have ecut : cutV (ns.map V.int) none (some 63) = ns.map V.int := by
      rw [show (63 : Int) = ((63 : Nat) : Int) from rfl, cutV_to, List.take_of_length_le (by rw [List.length_map]; omega)]
    rw [ecut]
    have s2 := same_upd (o := .lst (ns.map V.int)) nc
    have ec := upd_same (H := H1) (a := c) (o := .lst (ns.map V.int))
    have eo2 := s2 _ _ eo
    have sA := s1.trans s2
    generalize upd H1 c (.lst (ns.map V.int)) = H2 at *
    refine ⟨c, ns.map V.int, rfl, .inl (.inl ec), for_it walk_enum (fun i σ H' => ∃ (o' : Addr) (l : List Nat) (y2 y3 y4 y5 y6 y7 y8 : Option V), σ = [some (.ref a), some (.ref o'), y2, y3, y4, y5, y6, y7, y8, none] ∧ Same H H' ∧ Same H2 H' ∧ H o' = none ∧ H' o' = some (.lst (nb l)) ∧ BytesN l ∧ l.length ≤ 61 * i)
      ⟨o, [], none, none, none, none, none, none, none, rfl, sA, Same.refl _, no, eo2, (fun _ h => by cases h), Nat.zero_le _⟩
      (fun i σ H' _ h => by obtain ⟨_, _, _, _, _, _, _, _, _, rfl, _, s2', _⟩ := h; exact .inl (.inl (s2' _ _ ec))) (fun i x σ H' H'' hi hP hy => ?_) (fun σ H' hP => ?_)⟩
    · obtain ⟨o', l, y2, y3, y4, y5, y6, y7, y8, rfl, sm, sm2, no', eo', hb, hl⟩ := hP
      obtain ⟨U, x1, x2, rfl, nU, rfl, f1, f2⟩ := hy
      rw [List.length_map] at hi
      have f2 : (ns.map V.int)[i]? = some x2 := f2
      rw [List.getElem?_map, List.getElem?_eq_getElem hi] at f2
      obtain rfl := Option.some.inj f1
      obtain rfl := Option.some.inj f2
      have sU := same_upd (o := .tup [.int (i : Nat), .int ns[i]]) nU
      refine ⟨U, _, rfl, .inl (.inl upd_same), rfl, _, _, rfl, _, _, rfl, rfl, ?_⟩
      refine ⟨_, rfl, _, rfl, ns[i], (i : Int), rfl, by omega, by omega, fun H3 s3 => ?_⟩
      have hM := mixed_lt ns[i] (i : Int)
      generalize mixed ns[i] (i : Int) = M at hM
      refine ⟨.int M, rfl, M, 9, rfl, rfl, ⟨by decide, by decide⟩, .int M, rfl, M, 9, rfl, rfl, (show (0 : Int) < 9 by decide), ?_⟩
      have hE : 0 ≤ M / 9 ∧ M / 9 < 2147483648 := by omega
      have sB := sU.trans s3
      have smB := sm.trans sB
      have sm2B := sm2.trans sB
      have eoB := sB _ _ eo'
      dsimp only [gName]
      generalize M / 9 = X at *
      have hl63 : l.length ≤ 3843 := by omega
      -- what is left behind each of the ways
      have fin : ∀ (H5 : Hp) (g : Addr) (m : List Nat), Same H3 H5 → H3 g = none → BytesN m → m.length ≤ 61 → Same H (upd H5 g (.lst (nb l ++ nb m))) ∧ Same H2 (upd H5 g (.lst (nb l ++ nb m))) ∧ H g = none ∧ upd H5 g (.lst (nb l ++ nb m)) g = some (.lst (nb (l ++ m))) ∧ BytesN (l ++ m) ∧ (l ++ m).length ≤ 61 * (i + 1) := fun H5 g m s5 ng hm hml => by
        refine ⟨fun b x e => ?_, fun b x e => ?_, smB.free ng, by rw [upd_same, nb_app], bytes_app hb hm, by rw [List.length_append]; omega⟩
        · rw [upd_ne (ne_of_none (smB _ _ e) ng)]
          exact s5 _ _ (smB _ _ e)
        · rw [upd_ne (ne_of_none (sm2B _ _ e) ng)]
          exact s5 _ _ (sm2B _ _ e)
      have rep : ∀ (H4 : Hp) (b n : Int), Same H3 H4 → 0 ≤ b → b < 256 → n ≤ 61 → ∀ g, H4 g = none → ∀ g2, upd H4 g (.lst [V.int b]) g2 = none → ∀ g3, upd (upd H4 g (.lst [V.int b])) g2 (.lst (List.replicate n.toNat [V.int b]).flatten) g3 = none →
          ∃ l', (Same H (upd (upd (upd H4 g (.lst [V.int b])) g2 (.lst (List.replicate n.toNat [V.int b]).flatten)) g3 (.lst (nb l ++ (List.replicate n.toNat [V.int b]).flatten))) ∧ Same H2 (upd (upd (upd H4 g (.lst [V.int b])) g2 (.lst (List.replicate n.toNat [V.int b]).flatten)) g3 (.lst (nb l ++ (List.replicate n.toNat [V.int b]).flatten))) ∧ H g3 = none ∧ upd (upd (upd H4 g (.lst [V.int b])) g2 (.lst (List.replicate n.toNat [V.int b]).flatten)) g3 (.lst (nb l ++ (List.replicate n.toNat [V.int b]).flatten)) g3 = some (.lst (nb l')) ∧ BytesN l' ∧ l'.length ≤ 61 * (i + 1)) := fun H4 b n s4 h0 h1 hn g ng g2 ng2 g3 ng3 => by
        obtain ⟨b, rfl⟩ : ∃ b' : Nat, b = (b' : Int) := ⟨b.toNat, by omega⟩
        rw [nb_rep] at *
        have t1 := same_upd (o := .lst [V.int (b : Nat)]) ng
        have t2 := same_upd (o := .lst (nb (List.replicate n.toNat b))) ng2
        have t3 := s4.trans (t1.trans t2)
        exact ⟨_, fin _ g3 _ t3 (t3.free ng3) (bytes_rep (by omega) _) (by rw [List.length_replicate]; omega)⟩
      have n1 : 1 ≤ sizeLine := Nat.le_of_lt (small1000 (show 1 ≤ 1000 by decide))
      have nbl : (nb l).length = l.length := nb_len l
      refine ifT (decide (M % 9 < 3)) (fun k q1 => ⟨_, rfl, _, 3, rfl, rfl, _, rfl, q1 _ (Same.refl _)⟩) (fun _ H4 s4 => ?_) (fun _ H4 s4 => ifT (decide (M % 9 = 3)) (fun k q1 => ⟨_, rfl, rfl, _, rfl, TellB.eq (vint_dec _ _) q1 _ (Same.refl _)⟩) (fun _ H5 s5 => ?_) (fun _ H5 s5 => ifT (decide (M % 9 = 4)) (fun k q1 => ⟨_, rfl, rfl, _, rfl, TellB.eq (vint_dec _ _) q1 _ (Same.refl _)⟩) (fun _ H6 s6 => ?_)
        (fun _ H6 s6 => ifT (decide (M % 9 = 5)) (fun k q1 => ⟨_, rfl, rfl, _, rfl, TellB.eq (vint_dec _ _) q1 _ (Same.refl _)⟩) (fun _ H7 s7 => ?_) (fun _ H7 s7 => ifT (decide (M % 9 = 6)) (fun k q1 => ⟨_, rfl, rfl, _, rfl, TellB.eq (vint_dec _ _) q1 _ (Same.refl _)⟩) (fun _ H8 s8 => ?_) (fun _ H8 s8 => ?_)))))
      · refine ⟨.ref o', rfl, .int X, rfl, X, 94, rfl, rfl, (show (0 : Int) < 94 by decide), 33, _, rfl, rfl, n1, fun g ng => ⟨.int X, rfl, X, 100, rfl, rfl, ⟨by decide, by decide⟩, _, 9, rfl, rfl, (show (0 : Int) < 9 by decide), 1, _, rfl, rfl, g, _, _, rfl, rfl, upd_same, by omega, by omega, by show 1 * _ ≤ _; rw [sizeLine_eq]; omega, fun g2 ng2 => ⟨o', g2, _, _, rfl, rfl, same_upd ng2 _ _ (same_upd ng _ _ (s4 _ _ eoB)), upd_same, by rw [nbl, rep_len1, sizeLine_eq]; omega, fun g3 ng3 => ?_⟩⟩⟩
        obtain ⟨l', h⟩ := rep H4 (33 + X % 94) (1 + X / 100 % 9) s4 (by omega) (by omega) (by omega) g ng g2 ng2 g3 ng3
        exact ⟨g3, l', _, _, _, _, _, _, _, rfl, h⟩
      · have sC := s4.trans s5
        refine ⟨.ref o', rfl, n1, fun g ng => ⟨.int X, rfl, X, 3, rfl, rfl, (show (0 : Int) < 3 by decide), 1, _, rfl, rfl, g, _, _, rfl, rfl, upd_same, by omega, by omega, by show 1 * _ ≤ _; rw [sizeLine_eq]; omega, fun g2 ng2 => ⟨o', g2, _, _, rfl, rfl, same_upd ng2 _ _ (same_upd ng _ _ (sC _ _ eoB)), upd_same, by rw [nbl, rep_len1, sizeLine_eq]; omega, fun g3 ng3 => ?_⟩⟩⟩
        obtain ⟨l', h⟩ := rep H5 32 (1 + X % 3) sC (by omega) (by omega) (by omega) g ng g2 ng2 g3 ng3
        exact ⟨g3, l', _, _, _, _, _, _, _, rfl, h⟩
      · have sC := s4.trans (s5.trans s6)
        refine ⟨.ref o', rfl, n1, fun g ng => ⟨.int X, rfl, X, 5, rfl, rfl, (show (0 : Int) < 5 by decide), _, 4, rfl, rfl, ⟨by decide, by decide⟩, 1, _, rfl, rfl, g, _, _, rfl, rfl, upd_same, by omega, by omega, by show 1 * _ ≤ _; rw [sizeLine_eq]; omega, fun g2 ng2 => ⟨o', g2, _, _, rfl, rfl, same_upd ng2 _ _ (same_upd ng _ _ (sC _ _ eoB)), upd_same, by rw [nbl, rep_len1, sizeLine_eq]; omega, fun g3 ng3 => ?_⟩⟩⟩
        obtain ⟨l', h⟩ := rep H6 10 (1 + X % 5 / 4) sC (by omega) (by omega) (by omega) g ng g2 ng2 g3 ng3
        exact ⟨g3, l', _, _, _, _, _, _, _, rfl, h⟩
      · have sC := s4.trans (s5.trans (s6.trans s7))
        obtain ⟨b1, hb1⟩ : ∃ b : Nat, X % 256 = (b : Int) := ⟨(X % 256).toNat, by omega⟩
        obtain ⟨b2, hb2⟩ : ∃ b : Nat, X / 256 % 256 = (b : Int) := ⟨(X / 256 % 256).toNat, by omega⟩
        refine ⟨.ref o', rfl, .int X, rfl, X, 256, rfl, rfl, (show (0 : Int) < 256 by decide), .int X, rfl, X, 256, rfl, rfl, ⟨by decide, by decide⟩, _, 256, rfl, rfl, (show (0 : Int) < 256 by decide), Nat.le_of_lt (small1000 (show 2 ≤ 1000 by decide)), fun g ng => ⟨o', g, _, _, rfl, rfl, same_upd ng _ _ (sC _ _ eoB), upd_same, by rw [nbl, sizeLine_eq]; show _ + 2 ≤ _; omega, fun g3 ng3 => ?_⟩⟩
        have ng3 : upd H7 g (.lst [V.int (X % 256), .int (X / 256 % 256)]) g3 = none := ng3
        dsimp only
        rw [hb1, hb2] at ng3 ⊢
        have t3 := sC.trans (same_upd (o := .lst [V.int (b1 : Nat), .int (b2 : Nat)]) ng)
        exact ⟨g3, l ++ [b1, b2], _, _, _, _, _, _, _, rfl, fin _ g3 [b1, b2] t3 (t3.free ng3) (fun x hx => by simp only [List.mem_cons, List.mem_nil_iff, or_false] at hx; omega) (by show 2 ≤ 61; decide)⟩
      · have sC := s4.trans (s5.trans (s6.trans (s7.trans s8)))
        obtain ⟨x, hx, ex⟩ := pickL [V.int 61, .int 37, .int 9, .int 13, .int 127, .int 255, .int 0, .int 126] (X % 8) (by omega) (by show _ < (8 : Int); omega)
        obtain ⟨y, rfl, hy0, hy1⟩ : ∃ y : Int, x = .int y ∧ 0 ≤ y ∧ y < 256 := by
          simp only [List.mem_cons, List.mem_nil_iff, or_false] at hx
          rcases hx with rfl | rfl | rfl | rfl | rfl | rfl | rfl | rfl <;> exact ⟨_, rfl, by decide, by decide⟩
        refine ⟨.ref o', rfl, Nat.le_of_lt (small1000 (show 8 ≤ 1000 by decide)), fun p8 np8 => ⟨.int X, rfl, X, 8, rfl, rfl, (show (0 : Int) < 8 by decide), p8, _, _, .int y, rfl, rfl, .inl (.inl upd_same), ex, n1, fun g ng => ⟨.int X, rfl, X, 8, rfl, rfl, ⟨by decide, by decide⟩, _, 2, rfl, rfl, (show (0 : Int) < 2 by decide), 1, _, rfl, rfl, g, _, _, rfl, rfl, upd_same, by omega, by omega, by show 1 * _ ≤ _; rw [sizeLine_eq]; omega, fun g2 ng2 => ⟨o', g2, _, _, rfl, rfl, same_upd ng2 _ _ (same_upd ng _ _ (same_upd np8 _ _ (sC _ _ eoB))), upd_same, by rw [nbl, rep_len1, sizeLine_eq]; omega, fun g3 ng3 => ?_⟩⟩⟩⟩
        obtain ⟨l', h⟩ := rep _ y (1 + X / 8 % 2) (sC.trans (same_upd np8)) hy0 hy1 (by omega) g ng g2 ng2 g3 ng3
        exact ⟨g3, l', _, _, _, _, _, _, _, rfl, h⟩
      · have sC := s4.trans (s5.trans (s6.trans (s7.trans s8)))
        refine ⟨.ref o', rfl, o', l, rfl, sC _ _ eoB, by omega, fun H9 p ts s9 np ep htl hts => ?_⟩
        rcases List.eq_nil_or_concat ts with h0 | ⟨L, t, h0⟩
        · rw [h0] at htl
          exact absurd htl.symm (by rw [List.length_nil]; exact fun h => splitL_ne 10 l (List.length_eq_zero_iff.mp h))
        rw [List.concat_eq_append] at h0
        have htn : (splitL 10 l).length = L.length + 1 := by rw [← htl, h0, List.length_append]; rfl
        have hlt := hts L.length (by omega)
        rw [h0, getD_app_r' _ _ _ (Nat.le_refl _), Nat.sub_self] at hlt
        have hlt1 : H9 t = some (.lst (nb ((splitL 10 l).getD L.length []))) := hlt.1
        have hpi := parts_ok hb _ (getD_mem (splitL 10 l) [] (show L.length < _ by omega))
        generalize (splitL 10 l).getD L.length [] = pt at *
        rw [h0, List.map_append] at ep
        refine ⟨1, rfl, p, _, -1, .ref t, rfl, rfl, .inl (.inl ep), atI_last _ _, t, pt, rfl, hlt1, hpi.1, by omega, fun H10 g s10 ng eg => ?_⟩
        have htt := tot_units hpi.1
        have hUf := units_fix (units_map hpi.1)
        have hfl : (fixL (pt.map uL)).length ≤ 4000 := by rw [fix_len, List.length_map]; omega
        generalize fixL (pt.map uL) = vs at *
        have hvm : ((strL vs).map V.str).length = vs.length := by rw [List.length_map, strL_len]
        refine ⟨g, rfl, ⟨_, .inl (.inl eg)⟩, fun D hD => lc_pure (fun j => ((strL vs).map V.str).getD j .non) (fun j => .int ((vs.getD j []).length : Nat)) walk_listF (fun H5 s5 => s5.seq (.inl (.inl eg))) hD (by rw [hvm, sizeLine_eq]; omega) (fun j H5 Q5 hj s5 q5 => ?_) (fun H11 s11 e => ?_)⟩
        · rw [hvm] at hj
          have hxj : ((strL vs).map V.str).getD j .non = .str ⟨(vs.getD j []).toArray⟩ := by
            unfold strL
            rw [List.getD_eq_getElem?_getD, List.getElem?_map, List.getElem?_map, List.getElem?_eq_getElem hj, List.getD_eq_getElem?_getD, List.getElem?_eq_getElem hj]
            rfl
          rw [hxj]
          have hvj := hUf _ (getD_mem vs [] hj)
          refine ⟨_, rfl, _, rfl, by rw [mk_len, sizeLine_eq]; omega, ?_⟩
          rw [mk_len]
          exact q5 _ (Same.refl _)
        · have e2 : (List.range ((strL vs).map V.str).length).map (fun j => V.int ((vs.getD j []).length : Nat)) = (vs.map fun u => ((u.length : Nat) : Int)).map V.int := by
            rw [hvm, List.map_map]
            have := congrArg (List.map fun u : List Nat => V.int ((u.length : Nat) : Int)) (LH.range_getD vs [])
            rw [List.map_map] at this
            exact this
          rw [e2] at e
          refine ⟨D, _, rfl, .inl (.inl e), ?_⟩
          rw [sum_ints]
          generalize tot vs = S at htt
          refine ⟨.int X, rfl, X, 3, rfl, rfl, ⟨by decide, by decide⟩, _, 5, rfl, rfl, (show (0 : Int) < 5 by decide), 57, _, rfl, rfl, .int (S : Nat), rfl, _, 59, rfl, rfl, (show (0 : Int) < 59 by decide), _, _, rfl, rfl, 0, _, rfl, ?_⟩
          dsimp only [gName]
          obtain ⟨r, hr, hr61⟩ : ∃ r : Nat, (if 57 + X / 3 % 5 - (S : Nat) % 59 > 0 then 57 + X / 3 % 5 - (S : Nat) % 59 else (0 : Int)) = (r : Int) ∧ r ≤ 61 := ⟨(if 57 + X / 3 % 5 - (S : Nat) % 59 > 0 then 57 + X / 3 % 5 - (S : Nat) % 59 else (0 : Int)).toNat, by split <;> omega, by split <;> omega⟩
          rw [hr]
          have sD := sC.trans (s9.trans (s10.trans s11))
          obtain ⟨x, hx, ex⟩ := pickL [V.int 65, .int 32, .int 61] (X % 3) (by omega) (by show _ < (3 : Int); omega)
          obtain ⟨y, rfl, hy0, hy1⟩ : ∃ y : Int, x = .int y ∧ 0 ≤ y ∧ y < 256 := by
            simp only [List.mem_cons, List.mem_nil_iff, or_false] at hx
            rcases hx with rfl | rfl | rfl <;> exact ⟨_, rfl, by decide, by decide⟩
          obtain ⟨x2, hx2, ex2⟩ := pickL [V.int 1, .int 1, .int 3] (X % 3) (by omega) (by show _ < (3 : Int); omega)
          obtain ⟨d, rfl, hd0, hd1⟩ : ∃ d : Int, x2 = .int d ∧ 0 < d ∧ d ≤ 3 := by
            simp only [List.mem_cons, List.mem_nil_iff, or_false] at hx2
            rcases hx2 with rfl | rfl | rfl <;> exact ⟨_, rfl, by decide, by decide⟩
          have hq0 : (r : Int) / d ≤ r := Int.ediv_le_self _ (by omega)
          have hq1 : 0 ≤ (r : Int) / d := Int.ediv_nonneg (by omega) (by omega)
          refine ⟨.ref o', rfl, Nat.le_of_lt (small1000 (show 3 ≤ 1000 by decide)), fun p3 np3 => ⟨.int X, rfl, X, 3, rfl, rfl, (show (0 : Int) < 3 by decide), p3, _, _, .int y, rfl, rfl, .inl (.inl upd_same), ex, n1, fun g3 ng3 => ⟨.int (r : Nat), rfl, Nat.le_of_lt (small1000 (show 3 ≤ 1000 by decide)), fun p4 np4 => ⟨.int X, rfl, X, 3, rfl, rfl, (show (0 : Int) < 3 by decide), p4, _, _, .int d, rfl, rfl, .inl (.inl upd_same), ex2, _, d, rfl, rfl, ⟨by omega, by omega⟩, g3, _, _, rfl, rfl, same_upd np4 _ _ upd_same, by omega, by omega, by show 1 * _ ≤ _; rw [sizeLine_eq]; omega, fun g4 ng4 => ⟨o', g4, _, _, rfl, rfl, same_upd ng4 _ _ (same_upd np4 _ _ (same_upd ng3 _ _ (same_upd np3 _ _ (sD _ _ eoB)))), upd_same, by rw [nbl, rep_len1, sizeLine_eq]; omega, fun g5 ng5 => ?_⟩⟩⟩⟩⟩
          obtain ⟨y, rfl⟩ : ∃ b' : Nat, y = (b' : Int) := ⟨y.toNat, by omega⟩
          have t3 := sD.trans ((same_upd np3).trans ((same_upd ng3).trans ((same_upd np4).trans (same_upd (o := .lst (List.replicate ((r : Int) / d).toNat [V.int ((y : Nat) : Int)]).flatten) ng4))))
          have h := fin _ g5 (List.replicate ((r : Int) / d).toNat y) t3 (t3.free ng5) (bytes_rep (by omega) _) (by rw [List.length_replicate]; omega)
          rw [← nb_rep] at h
          exact ⟨g5, _, _, _, _, _, _, _, _, rfl, h⟩
    · obtain ⟨o', l, y2, y3, y4, y5, y6, y7, y8, rfl, sm, _, no', eo', hb, hl⟩ := hP
      rw [List.length_map] at hl
      exact ⟨.ref o', rfl, q l hb (by omega) H' o' sm no' eo'⟩
end
end K07

namespace K07
open PySem PySem.Spec PyProof.Rows L2 LH
section
variable {P : Program} {w : World} {K : PySem.W.Frag} {mg : Str → Option Value} {base : Heap} {tk : Nat → Tok} {ca : Nat → Addr}
theorem unit_last {b : Nat} (h : b < 256) : uL b = [32] ∨ (uL b).getLast? ≠ some 32 := by
  have : ∀ d : Fin 256, uL d.val = [32] ∨ (uL d.val).getLast? ≠ some 32 := by decide +kernel
  exact this ⟨b, h⟩
theorem fix_units_last {l : List Nat} (h : BytesN l) : ∀ u ∈ fixL (l.map uL), u = [32] ∨ u.getLast? ≠ some 32 := fun u hu => by
  unfold fixL at hu
  split at hu
  · rcases List.mem_append.mp hu with hu | hu
    · obtain ⟨b, hb, rfl⟩ := List.mem_map.mp (List.dropLast_subset _ hu)
      exact unit_last (h b hb)
    · rw [List.mem_singleton.mp hu]
      exact .inr (by decide +kernel)
  · obtain ⟨b, hb, rfl⟩ := List.mem_map.mp hu
    exact unit_last (h b hb)
theorem rows16_good {l : List Nat} (h : BytesN l) : ∀ x ∈ rows16 l, (x.length ≤ 60 ∧ x.getLast? ≠ some 32) ∧ ∀ c ∈ x, c < 128 := fun x hx => by
  unfold rows16 at hx
  obtain ⟨p, hp, hx⟩ := List.mem_flatten.mp hx
  obtain ⟨q, hq, rfl⟩ := List.mem_map.mp hp
  have hb := (parts_ok h q hq).1
  have hU := units_fix (units_map hb)
  refine ⟨cutR_good _ [] hU (.inl (by decide)) (fun _ => by simp) (fun _ => fix_last _) (fix_units_last hb) x hx, cutR_low _ [] hU (fun _ h => by cases h) x hx⟩
theorem rows16_okS {l : List Nat} (h : BytesN l) : ∀ x ∈ strL (rows16 l), OkS x := fun x hx => by
  obtain ⟨u, hu, rfl⟩ := List.mem_map.mp hx
  intro c hc
  have := (rows16_good h u hu).2 c hc
  omega
/-! ### _law_are_rows -/
abbrev s__law_are_rows : Stmt := topS 26
abbrev N__law_are_rows : List Str := ["_law_found", "_law_due", "_law_row"]
abbrev P__law_are_rows : List Str := ["_law_found", "_law_due"]
theorem sc__law_are_rows : FnScope N__law_are_rows ["_law_found", "_law_due"] (defScope s__law_are_rows) := ⟨rfl, rfl, rfl, by decide +kernel, rfl, by decide +kernel, by decide +kernel⟩
def sp_are : Sp := fun vs H Q _ => ∃ (f d : Addr) (R : List Str), vs = [.ref f, .ref d] ∧ H f = some (.lst (R.map V.str)) ∧ H d = some (.lst (R.map V.str)) ∧ (∀ x ∈ R, OkS x) ∧ R.length ≤ 16200000 ∧ Tell H (.bl true) Q
theorem ok_are {f : Addr} {fd : FuncData} {k : Nat} (F : Fun K "_law_are_rows" "_law_are_rows" s__law_are_rows f fd) (T : Tx mg tk) : FnOk P w K mg base CX0 (k + 1) f fd P__law_are_rows sp_are := by
  refine F.ok sc__law_are_rows (fun vs H Q E h => ?_) (fun cdv A outer s H vs Q E hr h => ?_)
  · obtain ⟨f, d, R, rfl, _⟩ := h
    rfl
  · have nd := sc__law_are_rows.nd
    obtain ⟨f, d, R, rfl, ef, ed, ok, hl, q⟩ := h
    refine ⟨_, (pss_one (ps_ret (pe_and (pe_callB (cIsi K) (by rfl) T.n_isinstance (by decide +kernel) (pa_cons (pv 0) (pa_cons (pe_bltn (v := .ty "list") (by rfl) T.n_list (by decide +kernel) rfl) pa_nil))) (pe_and (pe_cmpR (oEqD K hr.units) (pv 0) (pv 1) (nomark _)) (pe_one (pe_callB (cAll K) (by rfl) T.n_all (by decide +kernel) (pa_cons (pe_lc (own := [("_law_row", 2)]) (g := gName 2) (by rfl) nd (pi_list (pv 0)) (blkOk_by (N := N__law_are_rows) (sc := defScope s__law_are_rows) (by decide +kernel)) (fun _ _ _ _ _ => (pg_name (i := 2) nd rfl (Or.inl rfl))) (fun _ _ _ _ _ => pts_nil) (fun _ _ _ _ _ => (pe_callB (cIsi K) (by rfl) T.n_isinstance (by decide +kernel) (pa_cons (pv 2) (pa_cons (pe_bltn (v := .ty "str") (by rfl) T.n_str (by decide +kernel) rfl) pa_nil))))) pa_nil))))))), ?_⟩
    have hm : (R.map V.str).length = R.length := List.length_map ..
    refine ⟨.ref f, rfl, .ref f, .ty "list", _, _, true, rfl, .ty _, .base (.lst ef), kit_ty (by decide +kernel), true, rfl, iteT ⟨.ref f, rfl, .ref d, rfl, _, _, dp_strs (.inl (.inl ef)), dp_strs (.inl (.inl ed)), shaped_strs R ok, shaped_strs R ok, true, by rw [eqv_strsL, decide_eq_true rfl], iteT ?_⟩⟩
    refine ⟨.ref f, rfl, f, rfl, ⟨_, .inl (.inl ef)⟩, fun D hD => lc_pure (fun i => (R.map V.str).getD i .non) (fun _ => .bl true) walk_listF (fun H1 sm => sm.seq (.inl (.inl ef))) hD (by rw [hm, sizeLine_eq]; omega) (fun i H1 Q1 hi sm1 q1 => ?_) (fun H1 sm1 e => ?_)⟩
    · rw [hm] at hi
      have ei : (R.map V.str).getD i .non = .str (R.getD i Str.empty) := by
        rw [List.getD_eq_getElem?_getD, List.getElem?_map, List.getElem?_eq_getElem hi, List.getD_eq_getElem?_getD, List.getElem?_eq_getElem hi]
        rfl
      rw [ei]
      exact ⟨_, rfl, _, .ty "str", _, _, true, rfl, .ty _, .base (.str _), kit_ty (by decide +kernel), q1 _ (Same.refl _)⟩
    · refine ⟨D, (List.range (R.map V.str).length).map fun _ => true, rfl, .inl (.inl (by rw [e, List.map_map]; rfl)), ?_⟩
      rw [map_true]
      exact q _ sm1
theorem dp_nbs {H : Hp} {a : Addr} {l : List Nat} (h : H a = some (.lst (nb l))) : Dp K H (.ref a) (.list ((l.map fun b => ((b : Nat) : Int)).map PyData.int)) := dp_ints (.inl (.inl (by rw [h]; unfold nb; rw [List.map_map]; rfl)))
/-! ### law -/
abbrev s_law : Stmt := topS 27
abbrev N_law : List Str := ["_law_script", "_law_row", "_law_some", "_law_due", "_law_handed", "_law_turn", "_law_found", "_law_one"]
abbrev P_law : List Str := ["_law_script"]
theorem sc_law : FnScope N_law ["_law_script"] (defScope s_law) := ⟨rfl, rfl, rfl, by decide +kernel, rfl, by decide +kernel, by decide +kernel⟩
def spLaw (K : PySem.W.Frag) : Sp := fun vs H Q _ => ∃ (a : Addr) (ns : List Int), vs = [.ref a] ∧ SqL K H a (ns.map V.int) ∧ ns.length ≤ 63 ∧ ∀ H', Q (.bl true) H'
theorem ok_law {f fB fI fS fA : Addr} {fd fdB fdI fdS fdA : FuncData} (F : Fun K "law" "law" s_law f fd) (T : Tx mg tk) (D__law_bytes : Def P w K mg base "_law_bytes" 3 fB fdB P__law_bytes (sp_lbytes K)) (D__law_in_sixteens : Def P w K mg base "_law_in_sixteens" 3 fI fdI P__law_in_sixteens sp_sixteens)
    (D_sixteens_of : Def P w K mg base "sixteens_of" 4 fS fdS P_sixteens_of sp_sixteens) (D__law_are_rows : Def P w K mg base "_law_are_rows" 1 fA fdA P__law_are_rows sp_are) : FnOk P w K mg base CX0 5 f fd ["_law_script"] (spLaw K) := by
  refine F.ok sc_law (fun vs H Q E h => ?_) (fun cdv A outer s H vs Q E hr h => ?_)
  · obtain ⟨a, ns, rfl, _⟩ := h
    rfl
  · have nd := sc_law.nd
    obtain ⟨a, ns, rfl, hS, hlen, q⟩ := h
    refine ⟨_, (pss_cons (ps_set (i := 1) nd rfl (.inl rfl) (pe_def D__law_bytes (hr.mono (by decide)) (pa_cons (pv 0) pa_nil)))
      (pss_cons (ps_for PassesOwn.never rfl (pi_tup (pe_tup (pa_cons (pv 1) (pa_cons (pe_slice (slL K) (pv 1) po_none (po_some (pe_op op_fdiv (pe_callB (cLen K) (by rfl) T.n_len (by decide +kernel) (pa_cons (pv 1) pa_nil)) pe_int))) (pa_cons (pe_lst pa_nil) pa_nil))))) (pg_name (i := 2) nd rfl (Or.inl rfl))
        (pss_cons (ps_set (i := 3) nd rfl (.inl rfl) (pe_def D__law_in_sixteens (hr.mono (by decide)) (pa_cons (pv 2) pa_nil)))
        (pss_cons (ps_if (pt_cmpR (oNeD K hr.units) (pe_lc (own := [("_law_one", 7)]) (g := gName 7) (by rfl) nd (pi_list (pv 3)) (blkOk_by (N := N_law) (sc := defScope s_law) (by decide +kernel)) (fun _ _ _ _ _ => (pg_name (i := 7) nd rfl (Or.inl rfl))) (fun _ _ _ _ _ => (pts_one (PW.pt (pw_or (pt_cmpR op_gt (pe_callB call_len_str (by rfl) T.n_len (by decide +kernel) (pa_cons (pv 7) pa_nil)) pe_int (nomark _)) (pw_or1 (pt_cmpR op_eq (pe_slice sl_str (pv 7) (po_some (pe_un un_neg pe_int)) po_none) pe_str (nomark _))))))) (fun _ _ _ _ _ => (pv 7))) (pe_lst pa_nil) (nomark _))
          (pss_one (ps_ret pe_bl))
          pss_nil)
        (pss_cons (ps_set (i := 4) nd rfl (.inl rfl) (pe_callTy call_list_of (by rfl) T.n_list (by decide +kernel) (pa_cons (pv 2) pa_nil)))
        (pss_one (ps_for PassesOwn.never rfl (pi_range1 (by rfl) T.n_range (pa_cons pe_int pa_nil)) (pg_name (i := 5) nd rfl (Or.inl rfl))
          (pss_cons (ps_set (i := 6) nd rfl (.inl rfl) (pe_def D_sixteens_of (hr.mono (by decide)) (pa_cons (pv 4) pa_nil)))
          (pss_cons (ps_if (PW.pt (pw_or (pt_not (pt_val (pe_def D__law_are_rows (hr.mono (by decide)) (pa_cons (pv 6) (pa_cons (pv 3) pa_nil))))) (pw_or1 (pt_cmpR (oNeD K hr.units) (pv 4) (pv 2) (nomark _)))))
            (pss_one (ps_ret pe_bl))
            pss_nil)
          (pss_one (ps_expr (pe_bm PySem.F.plainAttrs_list PySem.F.slot_list_append PySem.F.type_list_append mt_append (pv 6) (pa_cons pe_str pa_nil))))))))))))
      (pss_one (ps_ret pe_bl)))), ?_⟩
    refine ⟨.ref a, rfl, a, ns, rfl, hS, hlen, fun l hb hl H1 r0 s1 n0 e0 => ?_⟩
    dsimp only [gName]
    have hnl : (nb l).length = l.length := nb_len l
    refine ⟨.ref r0, rfl, .ref r0, rfl, .ref r0, rfl, r0, _, rfl, .inl (.inl (.inl e0)), _, 2, rfl, rfl, ⟨by decide, by decide⟩, _, rfl, r0, _, rfl, .inl (.inl e0), fun r1 n1 => ⟨Nat.zero_le _, fun r2 n2 => ⟨Nat.le_of_lt (small1000 (show 3 ≤ 1000 by decide)), fun t nt => ?_⟩⟩⟩
    have hhalf : cutV (nb l) none (some (((nb l).length : Nat) / 2 : Int)) = nb (l.take (l.length / 2)) := by
      rw [show (((nb l).length : Nat) / 2 : Int) = ((l.length / 2 : Nat) : Int) by rw [hnl]; omega, cutV_to]
      unfold nb
      rw [List.map_take]
    have t1 := same_upd (o := .lst (cutV (nb l) none (some (((nb l).length : Nat) / 2 : Int)))) n1
    have t2 := same_upd (o := .lst []) n2
    have t3 := same_upd (o := .tup [V.ref r0, .ref r1, .ref r2]) nt
    have e1 := t3 _ _ (t2 r1 _ upd_same)
    have e2 := t3 r2 _ upd_same
    have e3 := upd_same (H := upd (upd H1 r1 (.lst (cutV (nb l) none (some (((nb l).length : Nat) / 2 : Int))))) r2 (.lst [])) (a := t) (o := .tup [V.ref r0, .ref r1, .ref r2])
    have e00 := t3 _ _ (t2 _ _ (t1 _ _ e0))
    generalize hHH : upd (upd (upd H1 r1 (.lst (cutV (nb l) none (some (((nb l).length : Nat) / 2 : Int))))) r2 (.lst [])) t (.tup [V.ref r0, .ref r1, .ref r2]) = HH at *
    rw [hhalf] at e1
    have item : ∀ i, i < 3 → ∃ (r : Addr) (m : List Nat), [V.ref r0, .ref r1, .ref r2].getD i .non = .ref r ∧ HH r = some (.lst (nb m)) ∧ BytesN m ∧ m.length ≤ 4000 := fun i hi => by
      have : i = 0 ∨ i = 1 ∨ i = 2 := by omega
      rcases this with rfl | rfl | rfl
      · exact ⟨r0, l, rfl, e00, hb, hl⟩
      · exact ⟨r1, l.take (l.length / 2), rfl, e1, fun b h => hb b (List.mem_of_mem_take h), by rw [List.length_take]; omega⟩
      · exact ⟨r2, [], rfl, e2, (fun _ h => by cases h), Nat.zero_le _⟩
    refine ⟨t, rfl, ⟨_, .inl (.inl e3)⟩, for_it (walk_tupF (xs := [V.ref r0, .ref r1, .ref r2])) (fun i σ H' => ∃ (y2 y3 y4 y5 y6 : Option V), σ = [some (.ref a), some (.ref r0), y2, y3, y4, y5, y6, none] ∧ Same HH H') ⟨none, none, none, none, none, rfl, Same.refl _⟩
      (fun i σ H' _ h => by obtain ⟨_, _, _, _, _, rfl, sm⟩ := h; exact .inl (.inl (sm _ _ e3))) (fun i x σ H' H'' hi hP hy => ?_) (fun σ H' hP => ?_)⟩
    · obtain ⟨y2, y3, y4, y5, y6, rfl, sm⟩ := hP
      obtain ⟨rfl, rfl⟩ := hy
      obtain ⟨r, m, er, eHr, hbm, hml⟩ := item i hi
      dsimp only [gName]
      rw [er]
      have eHr := sm _ _ eHr
      refine ⟨.ref r, rfl, r, m, rfl, eHr, hbm, hml, fun H3 d s3 nd3 ed => ?_⟩
      have hgood := rows16_good hbm
      have hok := rows16_okS hbm
      have hmany : (strL (rows16 m)).length ≤ 16200000 := by
        rw [strL_len]
        refine Nat.le_trans (rows16_many m) (Nat.le_trans (Nat.mul_le_mul (show m.length + 1 ≤ 4001 by omega) (show m.length + 1 ≤ 4001 by omega)) (by decide))
      have hmm : ((strL (rows16 m)).map V.str).length = (strL (rows16 m)).length := List.length_map ..
      dsimp only [gName]
      refine ifT false (fun k q1 => ⟨.ref d, rfl, d, rfl, ⟨_, .inl (.inl ed)⟩, fun D hD => lc_filt (fun j => ((strL (rows16 m)).map V.str).getD j .non) (fun j => ((strL (rows16 m)).map V.str).getD j .non) (fun _ => false) walk_listF (fun H4 s4 => s4.seq (.inl (.inl ed))) hD (by rw [hmm, sizeLine_eq]; omega) (fun j H4 k2 hj s4 q2 => ?_) (fun j H4 Q4 hj s4 hf q4 => nomatch hf) (fun H4 s4 e => ?_)⟩) (fun h => nomatch h) (fun _ H4 s4 => ?_)
      · rw [hmm] at hj
        have ej : ((strL (rows16 m)).map V.str).getD j .non = .str ((strL (rows16 m)).getD j Str.empty) := by
          rw [List.getD_eq_getElem?_getD, List.getElem?_map, List.getElem?_eq_getElem hj, List.getD_eq_getElem?_getD, List.getElem?_eq_getElem hj]
          rfl
        rw [ej]
        obtain ⟨u, hu, eu⟩ := List.mem_map.mp (getD_mem (strL (rows16 m)) Str.empty hj)
        have hgu := (hgood u hu).1
        rw [← eu]
        refine orT false false (fun k q5 => ⟨_, rfl, _, rfl, by rw [mk_len, sizeLine_eq]; omega, _, 60, rfl, rfl, _, rfl, TellB.eq (by rw [mk_len]; exact decide_eq_false (by omega)) q5 _ (Same.refl _)⟩) (fun _ H5 k s5 q5 => ⟨_, rfl, 1, rfl, _, rfl, _, rfl, by rw [mk_len, sizeLine_eq]; omega, rfl, _, rfl, TellB.eq ?_ q5 _ (Same.refl _)⟩) q2
        rw [vstr_dec]
        refine decide_eq_false fun h => ?_
        have h2 := congrArg TL.tl h
        rw [show (-(1 : Int)) = -1 from rfl, cutS_last, show TL.tl (Str.ofString " ") = [32] by decide +kernel, drop_last_eq] at h2
        exact hgu.2 h2
      · refine ⟨Nat.zero_le _, fun g ng => ⟨_, _, dp_ints (bs := []) (.inl (.inl (by rw [same_upd ng _ _ e]; simp))), dp_ints (bs := []) (.inl (.inl upd_same)), shaped_intsL [], shaped_intsL [], _, rfl, TellB.eq (by rw [eqv_intsL]; rfl) q1 _ (s4.trans (same_upd ng))⟩⟩
      · dsimp only [tNext, tSeq]
        have ed4 := s4 _ _ ed
        have eHr4 := s4 _ _ (s3 _ _ eHr)
        refine ⟨.ref r, rfl, r, _, rfl, .inl (.inl (.inl eHr4)), fun h nh => ?_⟩
        have s5 := same_upd (o := .lst (nb m)) nh
        have eh := upd_same (H := H4) (a := h) (o := .lst (nb m))
        have ed5 := s5 _ _ ed4
        have eHr5 := s5 _ _ eHr4
        have sA := sm.trans (s3.trans (s4.trans s5))
        generalize upd H4 h (.lst (nb m)) = H5 at *
        dsimp only [gName]
        refine ⟨2, rfl, by decide, by decide, for_range (n := 2) (fun j σ H' => ∃ (y5 y6 : Option V), σ = [some (.ref a), some (.ref r0), some (.ref r), some (.ref d), some (.ref h), y5, y6, none] ∧ Same H5 H') ⟨y5, y6, rfl, Same.refl _⟩ (fun j σ H6 hj hP => ?_) (fun σ H6 hP => ?_)⟩
        · obtain ⟨z5, z6, rfl, s6⟩ := hP
          refine ⟨.ref h, rfl, h, m, rfl, s6 _ _ eh, hbm, hml, fun H7 fa s7 nf ef => ?_⟩
          dsimp only [gName]
          have S7 := s6.trans s7
          refine ifT false (fun k q1 => orT false false (fun k q2 => notT true (fun k q3 => ⟨.ref fa, rfl, .ref d, rfl, fa, d, _, rfl, ef, S7 _ _ ed5, hok, hmany, fun H8 s8 => ⟨true, rfl, q3 _ s8⟩⟩) q2) (fun _ H8 k s8 q2 => ⟨.ref h, rfl, .ref r, rfl, _, _, dp_nbs (s8 _ _ (S7 _ _ eh)), dp_nbs (s8 _ _ (S7 _ _ eHr5)), shaped_intsL _, shaped_intsL _, _, rfl, TellB.eq (by rw [eqv_intsL, decide_eq_true rfl]; rfl) q2 _ (Same.refl _)⟩) q1) (fun h => nomatch h) (fun _ H8 s8 => ?_)
          dsimp only [tNext, tSeq]
          have ef8 := s8 _ _ ef
          refine ⟨.ref fa, rfl, .inl ⟨rfl, _, .inl (.inl ef8)⟩, fa, _, _, rfl, rfl, ef8, by rw [hmm, sizeLine_eq]; omega, _, _, rfl, fun b o e => ?_⟩
          rw [upd_ne (ne_of_none e (s6.free nf))]
          exact s8 _ _ (S7 _ _ e)
        · obtain ⟨z5, z6, rfl, s6⟩ := hP
          exact ⟨_, _, _, _, _, rfl, sA.trans s6⟩
    · obtain ⟨y2, y3, y4, y5, y6, rfl, sm⟩ := hP
      exact q H'
end
end K07

namespace K07
open PySem PySem.Spec PyProof.Rows L2 LH
theorem all_mk {l : PySem.W.OpenLaw} {w : World} {K : PySem.W.Frag} {h : Heap} {mg : Str → Option Value} {fa : Addr} {f0 f1 f2 f3 f4 f5 f6 f7 f8 f9 f10 f11 f12 f13 f14 f15 f16 f17 : Addr} {t1 t2 t3 t4 : Tok} (X : K.In h) (G : h.Ns mainGlobals mg) (hfa : mg "law" = some (.ref fa))
    {od0 an0 : Option Addr} {sl0 : Array (Option Value)} {oc0 kV0 dc0 pm0 cd0 ct0 : Value}
    (a0 : PySem.W.nsIn K mainGlobals "_law_mixed" = some (some (.ref f0))) (l0 : K.lookup f0 = some ⟨oc0, od0, .func (PySem.W.fnOf "_law_mixed" "_law_mixed" (defArgs s__law_mixed) (defBody s__law_mixed) (defScope s__law_mixed) .none kV0 dc0 pm0 an0 cd0 ct0), sl0⟩) (c0 : PySem.W.codeIn K cd0 "_law_mixed" = true) (k0 : PySem.W.keepIn K (.ref f0) = true)
    {od1 an1 : Option Addr} {sl1 : Array (Option Value)} {oc1 kV1 dc1 pm1 cd1 ct1 : Value}
    (a1 : PySem.W.nsIn K mainGlobals "_law_parts" = some (some (.ref f1))) (l1 : K.lookup f1 = some ⟨oc1, od1, .func (PySem.W.fnOf "_law_parts" "_law_parts" (defArgs s__law_parts) (defBody s__law_parts) (defScope s__law_parts) .none kV1 dc1 pm1 an1 cd1 ct1), sl1⟩) (c1 : PySem.W.codeIn K cd1 "_law_parts" = true) (k1 : PySem.W.keepIn K (.ref f1) = true)
    {od2 an2 : Option Addr} {sl2 : Array (Option Value)} {oc2 kV2 dc2 pm2 cd2 ct2 : Value}
    (a2 : PySem.W.nsIn K mainGlobals "_law_signs" = some (some (.ref f2))) (l2 : K.lookup f2 = some ⟨oc2, od2, .func (PySem.W.fnOf "_law_signs" "_law_signs" (defArgs s__law_signs) (defBody s__law_signs) (defScope s__law_signs) .none kV2 dc2 pm2 an2 cd2 ct2), sl2⟩) (c2 : PySem.W.codeIn K cd2 "_law_signs" = true) (k2 : PySem.W.keepIn K (.ref f2) = true)
    {od3 an3 : Option Addr} {sl3 : Array (Option Value)} {oc3 kV3 dc3 pm3 cd3 ct3 : Value}
    (a3 : PySem.W.nsIn K mainGlobals "_law_units" = some (some (.ref f3))) (l3 : K.lookup f3 = some ⟨oc3, od3, .func (PySem.W.fnOf "_law_units" "_law_units" (defArgs s__law_units) (defBody s__law_units) (defScope s__law_units) .none kV3 dc3 pm3 an3 cd3 ct3), sl3⟩) (c3 : PySem.W.codeIn K cd3 "_law_units" = true) (k3 : PySem.W.keepIn K (.ref f3) = true)
    {od4 an4 : Option Addr} {sl4 : Array (Option Value)} {oc4 kV4 dc4 pm4 cd4 ct4 : Value}
    (a4 : PySem.W.nsIn K mainGlobals "_law_bytes" = some (some (.ref f4))) (l4 : K.lookup f4 = some ⟨oc4, od4, .func (PySem.W.fnOf "_law_bytes" "_law_bytes" (defArgs s__law_bytes) (defBody s__law_bytes) (defScope s__law_bytes) .none kV4 dc4 pm4 an4 cd4 ct4), sl4⟩) (c4 : PySem.W.codeIn K cd4 "_law_bytes" = true) (k4 : PySem.W.keepIn K (.ref f4) = true)
    {od5 an5 : Option Addr} {sl5 : Array (Option Value)} {oc5 kV5 dc5 pm5 cd5 ct5 : Value}
    (a5 : PySem.W.nsIn K mainGlobals "_law_in_sixteens" = some (some (.ref f5))) (l5 : K.lookup f5 = some ⟨oc5, od5, .func (PySem.W.fnOf "_law_in_sixteens" "_law_in_sixteens" (defArgs s__law_in_sixteens) (defBody s__law_in_sixteens) (defScope s__law_in_sixteens) .none kV5 dc5 pm5 an5 cd5 ct5), sl5⟩) (c5 : PySem.W.codeIn K cd5 "_law_in_sixteens" = true) (k5 : PySem.W.keepIn K (.ref f5) = true)
    {od6 an6 : Option Addr} {sl6 : Array (Option Value)} {oc6 kV6 dc6 pm6 cd6 ct6 : Value}
    (a6 : PySem.W.nsIn K mainGlobals "is_number" = some (some (.ref f6))) (l6 : K.lookup f6 = some ⟨oc6, od6, .func (PySem.W.fnOf "is_number" "is_number" (defArgs s_is_number) (defBody s_is_number) (defScope s_is_number) .none kV6 dc6 pm6 an6 cd6 ct6), sl6⟩) (c6 : PySem.W.codeIn K cd6 "is_number" = true) (k6 : PySem.W.keepIn K (.ref f6) = true)
    {od7 an7 : Option Addr} {sl7 : Array (Option Value)} {oc7 kV7 dc7 pm7 cd7 ct7 : Value}
    (a7 : PySem.W.nsIn K mainGlobals "is_bytes" = some (some (.ref f7))) (l7 : K.lookup f7 = some ⟨oc7, od7, .func (PySem.W.fnOf "is_bytes" "is_bytes" (defArgs s_is_bytes) (defBody s_is_bytes) (defScope s_is_bytes) .none kV7 dc7 pm7 an7 cd7 ct7), sl7⟩) (c7 : PySem.W.codeIn K cd7 "is_bytes" = true) (k7 : PySem.W.keepIn K (.ref f7) = true)
    {od8 an8 : Option Addr} {sl8 : Array (Option Value)} {oc8 kV8 dc8 pm8 cd8 ct8 : Value}
    (a8 : PySem.W.nsIn K mainGlobals "lines_of" = some (some (.ref f8))) (l8 : K.lookup f8 = some ⟨oc8, od8, .func (PySem.W.fnOf "lines_of" "lines_of" (defArgs s_lines_of) (defBody s_lines_of) (defScope s_lines_of) .none kV8 dc8 pm8 an8 cd8 ct8), sl8⟩) (c8 : PySem.W.codeIn K cd8 "lines_of" = true) (k8 : PySem.W.keepIn K (.ref f8) = true)
    {od9 an9 : Option Addr} {sl9 : Array (Option Value)} {oc9 kV9 dc9 pm9 cd9 ct9 : Value}
    (a9 : PySem.W.nsIn K mainGlobals "is_sign_byte" = some (some (.ref f9))) (l9 : K.lookup f9 = some ⟨oc9, od9, .func (PySem.W.fnOf "is_sign_byte" "is_sign_byte" (defArgs s_is_sign_byte) (defBody s_is_sign_byte) (defScope s_is_sign_byte) .none kV9 dc9 pm9 an9 cd9 ct9), sl9⟩) (c9 : PySem.W.codeIn K cd9 "is_sign_byte" = true) (k9 : PySem.W.keepIn K (.ref f9) = true)
    {od10 an10 : Option Addr} {sl10 : Array (Option Value)} {oc10 kV10 dc10 pm10 cd10 ct10 : Value}
    (a10 : PySem.W.nsIn K mainGlobals "sign_of_byte" = some (some (.ref f10))) (l10 : K.lookup f10 = some ⟨oc10, od10, .func (PySem.W.fnOf "sign_of_byte" "sign_of_byte" (defArgs s_sign_of_byte) (defBody s_sign_of_byte) (defScope s_sign_of_byte) .none kV10 dc10 pm10 an10 cd10 ct10), sl10⟩) (c10 : PySem.W.codeIn K cd10 "sign_of_byte" = true) (k10 : PySem.W.keepIn K (.ref f10) = true)
    {od11 an11 : Option Addr} {sl11 : Array (Option Value)} {oc11 kV11 dc11 pm11 cd11 ct11 : Value}
    (a11 : PySem.W.nsIn K mainGlobals "figures_of" = some (some (.ref f11))) (l11 : K.lookup f11 = some ⟨oc11, od11, .func (PySem.W.fnOf "figures_of" "figures_of" (defArgs s_figures_of) (defBody s_figures_of) (defScope s_figures_of) .none kV11 dc11 pm11 an11 cd11 ct11), sl11⟩) (c11 : PySem.W.codeIn K cd11 "figures_of" = true) (k11 : PySem.W.keepIn K (.ref f11) = true)
    {od12 an12 : Option Addr} {sl12 : Array (Option Value)} {oc12 kV12 dc12 pm12 cd12 ct12 : Value}
    (a12 : PySem.W.nsIn K mainGlobals "part_of" = some (some (.ref f12))) (l12 : K.lookup f12 = some ⟨oc12, od12, .func (PySem.W.fnOf "part_of" "part_of" (defArgs s_part_of) (defBody s_part_of) (defScope s_part_of) .none kV12 dc12 pm12 an12 cd12 ct12), sl12⟩) (c12 : PySem.W.codeIn K cd12 "part_of" = true) (k12 : PySem.W.keepIn K (.ref f12) = true)
    {od13 an13 : Option Addr} {sl13 : Array (Option Value)} {oc13 kV13 dc13 pm13 cd13 ct13 : Value}
    (a13 : PySem.W.nsIn K mainGlobals "parts_of" = some (some (.ref f13))) (l13 : K.lookup f13 = some ⟨oc13, od13, .func (PySem.W.fnOf "parts_of" "parts_of" (defArgs s_parts_of) (defBody s_parts_of) (defScope s_parts_of) .none kV13 dc13 pm13 an13 cd13 ct13), sl13⟩) (c13 : PySem.W.codeIn K cd13 "parts_of" = true) (k13 : PySem.W.keepIn K (.ref f13) = true)
    {od14 an14 : Option Addr} {sl14 : Array (Option Value)} {oc14 kV14 dc14 pm14 cd14 ct14 : Value}
    (a14 : PySem.W.nsIn K mainGlobals "cut" = some (some (.ref f14))) (l14 : K.lookup f14 = some ⟨oc14, od14, .func (PySem.W.fnOf "cut" "cut" (defArgs s_cut) (defBody s_cut) (defScope s_cut) .none kV14 dc14 pm14 an14 cd14 ct14), sl14⟩) (c14 : PySem.W.codeIn K cd14 "cut" = true) (k14 : PySem.W.keepIn K (.ref f14) = true)
    {od15 an15 : Option Addr} {sl15 : Array (Option Value)} {oc15 kV15 dc15 pm15 cd15 ct15 : Value}
    (a15 : PySem.W.nsIn K mainGlobals "sixteens_of" = some (some (.ref f15))) (l15 : K.lookup f15 = some ⟨oc15, od15, .func (PySem.W.fnOf "sixteens_of" "sixteens_of" (defArgs s_sixteens_of) (defBody s_sixteens_of) (defScope s_sixteens_of) .none kV15 dc15 pm15 an15 cd15 ct15), sl15⟩) (c15 : PySem.W.codeIn K cd15 "sixteens_of" = true) (k15 : PySem.W.keepIn K (.ref f15) = true)
    {od16 an16 : Option Addr} {sl16 : Array (Option Value)} {oc16 kV16 dc16 pm16 cd16 ct16 : Value}
    (a16 : PySem.W.nsIn K mainGlobals "_law_are_rows" = some (some (.ref f16))) (l16 : K.lookup f16 = some ⟨oc16, od16, .func (PySem.W.fnOf "_law_are_rows" "_law_are_rows" (defArgs s__law_are_rows) (defBody s__law_are_rows) (defScope s__law_are_rows) .none kV16 dc16 pm16 an16 cd16 ct16), sl16⟩) (c16 : PySem.W.codeIn K cd16 "_law_are_rows" = true) (k16 : PySem.W.keepIn K (.ref f16) = true)
    {od17 an17 : Option Addr} {sl17 : Array (Option Value)} {oc17 kV17 dc17 pm17 cd17 ct17 : Value}
    (a17 : PySem.W.nsIn K mainGlobals "law" = some (some (.ref f17))) (l17 : K.lookup f17 = some ⟨oc17, od17, .func (PySem.W.fnOf "law" "law" (defArgs s_law) (defBody s_law) (defScope s_law) .none kV17 dc17 pm17 an17 cd17 ct17), sl17⟩) (c17 : PySem.W.codeIn K cd17 "law" = true) (k17 : PySem.W.keepIn K (.ref f17) = true)
    (z0 : PySem.W.nsIn K mainGlobals "all" = some none)
    (z1 : PySem.W.nsIn K mainGlobals "bool" = some none)
    (z2 : PySem.W.nsIn K mainGlobals "enumerate" = some none)
    (z3 : PySem.W.nsIn K mainGlobals "int" = some none)
    (z4 : PySem.W.nsIn K mainGlobals "isinstance" = some none)
    (z5 : PySem.W.nsIn K mainGlobals "len" = some none)
    (z6 : PySem.W.nsIn K mainGlobals "list" = some none)
    (z7 : PySem.W.nsIn K mainGlobals "max" = some none)
    (z8 : PySem.W.nsIn K mainGlobals "ord" = some none)
    (z9 : PySem.W.nsIn K mainGlobals "range" = some none)
    (z10 : PySem.W.nsIn K mainGlobals "str" = some none)
    (z11 : PySem.W.nsIn K mainGlobals "sum" = some none)
    (v0 : PySem.W.nsIn K mainGlobals "PERCENT" = some (some (.int 37 t1)))
    (v1 : PySem.W.nsIn K mainGlobals "ROW_END" = some (some (.int 10 t2)))
    (v2 : PySem.W.nsIn K mainGlobals "ROW_SIGNS" = some (some (.int 60 t3)))
    (v3 : PySem.W.nsIn K mainGlobals "SIGNS" = some (some (.str MSIGNS t4))) :
    ∃ fd : FuncData, (∀ (s : Shared) (v : Value), BindsTo s fd ⟨[v], []⟩ [("_law_script", v)]) ∧ ∀ base : Heap, K.In base → base.Ns mainGlobals mg → FnOk l.prog w K mg base CX0 5 fa fd ["_law_script"] (spLaw K) := by
  have e := hfa.symm.trans (PySem.W.mg_of X G a17)
  cases e
  have F0 := fun_mk (st := s__law_mixed) l0 c0 k0
  have b0 := F0.binds (ps := ["_law_cell", "_law_k"]) fun _ _ _ _ _ _ us hl => match us, hl with | [_, _], _ => rfl
  have F1 := fun_mk (st := s__law_parts) l1 c1 k1
  have b1 := F1.binds (ps := ["_law_row"]) fun _ _ _ _ _ _ us hl => match us, hl with | [_], _ => rfl
  have F2 := fun_mk (st := s__law_signs) l2 c2 k2
  have b2 := F2.binds (ps := []) fun _ _ _ _ _ _ us hl => match us, hl with | [], _ => rfl
  have F3 := fun_mk (st := s__law_units) l3 c3 k3
  have b3 := F3.binds (ps := ["_law_part"]) fun _ _ _ _ _ _ us hl => match us, hl with | [_], _ => rfl
  have F4 := fun_mk (st := s__law_bytes) l4 c4 k4
  have b4 := F4.binds (ps := ["_law_script"]) fun _ _ _ _ _ _ us hl => match us, hl with | [_], _ => rfl
  have F5 := fun_mk (st := s__law_in_sixteens) l5 c5 k5
  have b5 := F5.binds (ps := ["_law_row"]) fun _ _ _ _ _ _ us hl => match us, hl with | [_], _ => rfl
  have F6 := fun_mk (st := s_is_number) l6 c6 k6
  have b6 := F6.binds (ps := ["thing"]) fun _ _ _ _ _ _ us hl => match us, hl with | [_], _ => rfl
  have F7 := fun_mk (st := s_is_bytes) l7 c7 k7
  have b7 := F7.binds (ps := ["thing"]) fun _ _ _ _ _ _ us hl => match us, hl with | [_], _ => rfl
  have F8 := fun_mk (st := s_lines_of) l8 c8 k8
  have b8 := F8.binds (ps := ["row"]) fun _ _ _ _ _ _ us hl => match us, hl with | [_], _ => rfl
  have F9 := fun_mk (st := s_is_sign_byte) l9 c9 k9
  have b9 := F9.binds (ps := ["byte"]) fun _ _ _ _ _ _ us hl => match us, hl with | [_], _ => rfl
  have F10 := fun_mk (st := s_sign_of_byte) l10 c10 k10
  have b10 := F10.binds (ps := ["byte"]) fun _ _ _ _ _ _ us hl => match us, hl with | [_], _ => rfl
  have F11 := fun_mk (st := s_figures_of) l11 c11 k11
  have b11 := F11.binds (ps := ["byte"]) fun _ _ _ _ _ _ us hl => match us, hl with | [_], _ => rfl
  have F12 := fun_mk (st := s_part_of) l12 c12 k12
  have b12 := F12.binds (ps := ["byte"]) fun _ _ _ _ _ _ us hl => match us, hl with | [_], _ => rfl
  have F13 := fun_mk (st := s_parts_of) l13 c13 k13
  have b13 := F13.binds (ps := ["line"]) fun _ _ _ _ _ _ us hl => match us, hl with | [_], _ => rfl
  have F14 := fun_mk (st := s_cut) l14 c14 k14
  have b14 := F14.binds (ps := ["parts"]) fun _ _ _ _ _ _ us hl => match us, hl with | [_], _ => rfl
  have F15 := fun_mk (st := s_sixteens_of) l15 c15 k15
  have b15 := F15.binds (ps := ["row"]) fun _ _ _ _ _ _ us hl => match us, hl with | [_], _ => rfl
  have F16 := fun_mk (st := s__law_are_rows) l16 c16 k16
  have b16 := F16.binds (ps := ["_law_found", "_law_due"]) fun _ _ _ _ _ _ us hl => match us, hl with | [_, _], _ => rfl
  have F17 := fun_mk (st := s_law) l17 c17 k17
  have T : Tx mg (fun i => [t1, t2, t3, t4].getD i t1) := ⟨PySem.W.mg_none_of X G z0, PySem.W.mg_none_of X G z1, PySem.W.mg_none_of X G z2, PySem.W.mg_none_of X G z3, PySem.W.mg_none_of X G z4, PySem.W.mg_none_of X G z5, PySem.W.mg_none_of X G z6, PySem.W.mg_none_of X G z7, PySem.W.mg_none_of X G z8, PySem.W.mg_none_of X G z9, PySem.W.mg_none_of X G z10, PySem.W.mg_none_of X G z11, PySem.W.mg_of X G v0, PySem.W.mg_of X G v1, PySem.W.mg_of X G v2, PySem.W.mg_of X G v3⟩
  refine ⟨PySem.W.fnOf "law" "law" (defArgs s_law) (defBody s_law) (defScope s_law) .none kV17 dc17 pm17 an17 cd17 ct17, fun s v => .of_eq rfl, fun base _ _ => ?_⟩
  have D0 : Def l.prog w K mg base "_law_mixed" 1 f0 _ ["_law_cell", "_law_k"] sp_mixed := ⟨ok_mixed F0, PySem.W.mg_of X G a0, F0.kp, b0⟩
  have D1 : Def l.prog w K mg base "_law_parts" 1 f1 _ ["_law_row"] sp_lines := ⟨ok_lparts F1 T, PySem.W.mg_of X G a1, F1.kp, b1⟩
  have D2 : Def l.prog w K mg base "_law_signs" 1 f2 _ [] sp_signs := ⟨ok_signs F2, PySem.W.mg_of X G a2, F2.kp, b2⟩
  have D3 : Def l.prog w K mg base "_law_units" 2 f3 _ ["_law_part"] sp_parts_of := ⟨ok_lunits F3 T D2, PySem.W.mg_of X G a3, F3.kp, b3⟩
  have D4 : Def l.prog w K mg base "_law_bytes" 3 f4 _ ["_law_script"] (sp_lbytes K) := ⟨ok_lbytes F4 T D0 D1 D3, PySem.W.mg_of X G a4, F4.kp, b4⟩
  have D5 : Def l.prog w K mg base "_law_in_sixteens" 3 f5 _ ["_law_row"] sp_sixteens := ⟨ok_lin F5 T D1 D3, PySem.W.mg_of X G a5, F5.kp, b5⟩
  have D6 : Def l.prog w K mg base "is_number" 1 f6 _ ["thing"] sp_is_number := ⟨ok_is_number F6 T, PySem.W.mg_of X G a6, F6.kp, b6⟩
  have D7 : Def l.prog w K mg base "is_bytes" 2 f7 _ ["thing"] sp_is_bytes := ⟨ok_is_bytes F7 T D6, PySem.W.mg_of X G a7, F7.kp, b7⟩
  have D8 : Def l.prog w K mg base "lines_of" 1 f8 _ ["row"] sp_lines := ⟨ok_lines F8 T, PySem.W.mg_of X G a8, F8.kp, b8⟩
  have D9 : Def l.prog w K mg base "is_sign_byte" 1 f9 _ ["byte"] sp_sign_byte := ⟨ok_sign_byte F9 T, PySem.W.mg_of X G a9, F9.kp, b9⟩
  have D10 : Def l.prog w K mg base "sign_of_byte" 1 f10 _ ["byte"] sp_sign_of := ⟨ok_sign_of F10 T, PySem.W.mg_of X G a10, F10.kp, b10⟩
  have D11 : Def l.prog w K mg base "figures_of" 1 f11 _ ["byte"] sp_figures := ⟨ok_figures F11, PySem.W.mg_of X G a11, F11.kp, b11⟩
  have D12 : Def l.prog w K mg base "part_of" 2 f12 _ ["byte"] sp_part_of := ⟨ok_part_of F12 T D9 D10 D11, PySem.W.mg_of X G a12, F12.kp, b12⟩
  have D13 : Def l.prog w K mg base "parts_of" 3 f13 _ ["line"] sp_parts_of := ⟨ok_parts_of F13 T D12 D11, PySem.W.mg_of X G a13, F13.kp, b13⟩
  have D14 : Def l.prog w K mg base "cut" 1 f14 _ ["parts"] sp_cut := ⟨ok_cut F14 T, PySem.W.mg_of X G a14, F14.kp, b14⟩
  have D15 : Def l.prog w K mg base "sixteens_of" 4 f15 _ ["row"] sp_sixteens := ⟨ok_sixteens F15 T D7 D8 D13 D14, PySem.W.mg_of X G a15, F15.kp, b15⟩
  have D16 : Def l.prog w K mg base "_law_are_rows" 1 f16 _ ["_law_found", "_law_due"] sp_are := ⟨ok_are F16 T, PySem.W.mg_of X G a16, F16.kp, b16⟩
  exact ok_law F17 T D4 D5 D15 D16
end K07
open PySem PySem.W PyProof.Rows
set_option maxHeartbeats 0 in
theorem PySem.Challenge.cw_letterhouse_k07_sixteens_told_holds : PySem.Challenge.rw_letterhouse_k07_sixteens_told.Holds := by
  w_on; o_law; k_head; (case hw => w_witness2)
  k_fill
  refine L2.walk_of (l := PySem.Challenge.rw_letterhouse_k07_sixteens_told) (n := 63) (k := 5) (x := "_law_script") (CX := fun _ => L2.CX0) (sp := fun w => K07.spLaw _) rfl (by decide) rfl ⟨rfl, by decide, by decide⟩ (fun w h Y => PySem.W.kIn_of Y) ?F (fun _ _ a ns hl _ hS => ⟨a, ns, rfl, hS, hl, fun _ => rfl⟩) (fun _ _ _ _ _ h => h)
  case F =>
    intro w mg fa h KX G hmg
    refine' K07.all_mk KX G hmg ?a0 ?l0 ?c0 ?k0 ?a1 ?l1 ?c1 ?k1 ?a2 ?l2 ?c2 ?k2 ?a3 ?l3 ?c3 ?k3 ?a4 ?l4 ?c4 ?k4 ?a5 ?l5 ?c5 ?k5 ?a6 ?l6 ?c6 ?k6 ?a7 ?l7 ?c7 ?k7 ?a8 ?l8 ?c8 ?k8 ?a9 ?l9 ?c9 ?k9 ?a10 ?l10 ?c10 ?k10 ?a11 ?l11 ?c11 ?k11 ?a12 ?l12 ?c12 ?k12 ?a13 ?l13 ?c13 ?k13 ?a14 ?l14 ?c14 ?k14 ?a15 ?l15 ?c15 ?k15 ?a16 ?l16 ?c16 ?k16 ?a17 ?l17 ?c17 ?k17 ?z0 ?z1 ?z2 ?z3 ?z4 ?z5 ?z6 ?z7 ?z8 ?z9 ?z10 ?z11 ?v0 ?v1 ?v2 ?v3
    (case a0 => k_is); (case l0 => k_is); (case c0 => k_is); (case k0 => k_is); (case a1 => k_is); (case l1 => k_is); (case c1 => k_is); (case k1 => k_is); (case a2 => k_is); (case l2 => k_is); (case c2 => k_is); (case k2 => k_is); (case a3 => k_is); (case l3 => k_is); (case c3 => k_is); (case k3 => k_is); (case a4 => k_is); (case l4 => k_is); (case c4 => k_is); (case k4 => k_is); (case a5 => k_is); (case l5 => k_is); (case c5 => k_is); (case k5 => k_is); (case a6 => k_is); (case l6 => k_is); (case c6 => k_is); (case k6 => k_is); (case a7 => k_is); (case l7 => k_is); (case c7 => k_is); (case k7 => k_is); (case a8 => k_is); (case l8 => k_is); (case c8 => k_is); (case k8 => k_is); (case a9 => k_is); (case l9 => k_is); (case c9 => k_is); (case k9 => k_is); (case a10 => k_is); (case l10 => k_is); (case c10 => k_is); (case k10 => k_is); (case a11 => k_is); (case l11 => k_is); (case c11 => k_is); (case k11 => k_is); (case a12 => k_is); (case l12 => k_is); (case c12 => k_is); (case k12 => k_is); (case a13 => k_is); (case l13 => k_is); (case c13 => k_is); (case k13 => k_is); (case a14 => k_is); (case l14 => k_is); (case c14 => k_is); (case k14 => k_is); (case a15 => k_is); (case l15 => k_is); (case c15 => k_is); (case k15 => k_is); (case a16 => k_is); (case l16 => k_is); (case c16 => k_is); (case k16 => k_is); (case a17 => k_is); (case l17 => k_is); (case c17 => k_is); (case k17 => k_is); (case z0 => k_is); (case z1 => k_is); (case z2 => k_is); (case z3 => k_is); (case z4 => k_is); (case z5 => k_is); (case z6 => k_is); (case z7 => k_is); (case z8 => k_is); (case z9 => k_is); (case z10 => k_is); (case z11 => k_is); (case v0 => k_is); (case v1 => k_is); (case v2 => k_is); (case v3 => k_is)

