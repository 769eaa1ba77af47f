import PyProof.Rows.All
import Wide.All
import OpenK.AllK
import Wide.FinOn
import HandS.ForMost
import HandS.Walk
import HandS.IsInst
import HandS.MapJoin
import HandS.Style
import HandS.ForExc
import HandS.ExcIs
import HandS.Ends
import HandS.JoinGen
import HandS.StrMore
import HandS.Deep
import HandS.Replace
import KE.KExcLine
import KE.KExcIs
import KE.KTypeName
import KE.GoesMore
import PySem.Challenge.RW_letterhouse_k06_sixty_read_or_refused
set_option Elab.async false
set_option linter.all false
set_option maxRecDepth 100000
namespace LH
open PySem PySem.Spec PyProof.Rows L2
/-! ### heaps -/
theorem same_upd {H : Hp} {p : Addr} {o : HO} (h : H p = none) : Same H (upd H p o) := fun b x e => by
  rw [upd_ne (ne_of_none e h)]
  exact e
theorem seqT {K : PySem.W.Frag} {H H' : Hp} {a : Addr} {xs : List V} (e : Same H H') (h : SqT K H a xs) : SqT K H' a xs := by
  rcases h with (h | ⟨o, h⟩) | h
  · exact .inl (.inl (e _ _ h))
  · exact .inl (.inr ⟨o, e _ _ h⟩)
  · exact .inr h
/-- a list that is told new, in a heap that keeps all that stood -/
def New (H : Hp) (xs : List V) (Q : VK) : Prop := ∀ H' p, Same H H' → H p = none → H' p = some (.lst xs) → Q (.ref p) H'
/-- a value that is told in a heap that keeps all that stood -/
def Tell (H : Hp) (v : V) (Q : VK) : Prop := ∀ H', Same H H' → Q v H'
/-! ### a comprehension over anything that yields xs 0 .. xs (n - 1), its element f i -/
theorem lc_pure {J : It} {n : Nat} {G : Hp → Prop} {te : TE} {c : Nat} {σ : L2.St} {H1 : Hp} {D : Addr} {Qd : Hp → Prop} (xs f : Nat → V) (w : Walk J n G (YFn xs)) (hG : ∀ H, Same H1 H → G H) (hD : H1 D = none) (hn : n ≤ sizeLine)
    (he : ∀ i H Q, i < n → Same H1 H → Tell H (f i) Q → te ((σ.set c none).set c (some (xs i))) H Q)
    (hd : ∀ H, Same H1 H → H D = some (.lst ((List.range n).map f)) → Qd H) :
    ∃ W : Nat → Nat → Hp → Prop, (∃ m, W 0 m (upd H1 D (.lst []))) ∧ ∀ i m H, W i m H →
      (J.stop i H ∧ Qd H) ∨ (J.go i H ∧ ∃ Nx : Hp → Prop, (∀ H', Nx H' → ∃ m', m' < m ∧ W (i + 1) m' H') ∧ ∀ x H', J.yld i H x H' → gName c x (wipe σ [c]) H' fun σ2 H2 => wipe σ2 [c] = wipe σ [c] ∧ tYes σ2 H2 fun b H3 =>
        if b = true then te σ2 H3 fun y H4 => ∃ acc, H4 D = some (.lst acc) ∧ acc.length < sizeLine ∧ Nx (upd H4 D (.lst (acc ++ [y]))) else Nx H3) := by
  refine lc_it w (fun i H => Same H1 H ∧ H D = some (.lst ((List.range i).map f))) ⟨same_upd hD, upd_same⟩ (fun i H _ h => hG H h.1) (fun i x H H' hi hP hy => ?_) (fun H h => hd H h.1 h.2)
  obtain ⟨sm, eD⟩ := hP
  obtain ⟨rfl, rfl⟩ := hy
  refine ⟨?_, ?_⟩
  rotate_left
  · show (if true = true then te ((σ.set c none).set c (some (xs i))) H' fun y H4 => ∃ acc, H4 D = some (.lst acc) ∧ acc.length < sizeLine ∧ Same H1 (upd H4 D (.lst (acc ++ [y]))) ∧ upd H4 D (.lst (acc ++ [y])) D = some (.lst ((List.range (i + 1)).map f)) else (Same H1 H' ∧ H' D = some (.lst ((List.range (i + 1)).map f))))
    rw [if_pos rfl]
    refine he i H' _ hi sm fun H2 s2 => ⟨_, s2 _ _ eD, ?_, ?_, ?_⟩
    · rw [List.length_map, List.length_range]
      omega
    · intro b o hb
      rw [upd_ne (ne_of_none hb hD)]
      exact s2 _ _ (sm _ _ hb)
    · rw [upd_same, List.range_succ, List.map_append]
      rfl
  · show (((σ.set c none).set c (some (xs i))).set c none) = σ.set c none
    rw [List.set_set, List.set_set]
/-! ### a def as its callers see it -/
structure Def (P : Program) (w : World) (K : PySem.W.Frag) (mg : Str → Option Value) (base : Heap) (x : Str) (k : Nat) (f : Addr) (fd : FuncData) (ps : List Str) (sp : Sp) : Prop where
  ok : FnOk P w K mg base CX0 k f fd ps sp
  mg : mg x = some (.ref f)
  kp : PySem.W.keepIn K (.ref f) = true
  bd : Binds K fd ps []
section
variable {X : Cx} {x : Str} {k j : Nat} {f : Addr} {fd : FuncData} {ps : List Str} {sp : Sp} {e : Expr} {es : List Expr} {t : TA} {p pos : Pos}
theorem pe_def (D : Def X.prog X.w X.K X.mg X.base x k f fd ps sp) (hr : Room k X.A) (ha : PA X (e :: es) t) (hg : Gl X x := by rfl) (hdb : (x == ("__debug__" : Str)) = false := by decide)
    (he : starEach (e :: es) X.env = (false, eval e X.env) :: starEach es X.env := by rfl) (hpl : (backTo pos (starEach es X.env)).any (·.1) = false := by rfl) : PE X (.Call (.Name x p) (e :: es) [] pos) (tCall sp [] E0 t) :=
  pe_call D.ok hr hg D.mg D.kp D.bd .nil pass0 ha hdb he hpl
theorem pe_def0 (D : Def X.prog X.w X.K X.mg X.base x k f fd ps sp) (hr : Room k X.A) (hg : Gl X x := by rfl) (hdb : (x == ("__debug__" : Str)) = false := by decide) : PE X (.Call (.Name x p) [] [] pos) (tCall sp [] E0 tNil) :=
  pe_call0 D.ok hr hg D.mg D.kp D.bd .nil pass0 hdb
end
/-! ### a text times a number -/
section
variable {X : Cx}
def repS (x : Str) (n : Int) : Str := ⟨(List.replicate n.toNat x.cps.toList).flatten.toArray⟩
theorem foldl_app (l : List (Array Nat)) : ∀ a : Array Nat, (l.foldl (· ++ ·) a).toList = a.toList ++ (l.map (·.toList)).flatten := by
  induction l with
  | nil => intro a; simp
  | cons x r ih => intro a; simp [ih]
theorem mul_rep (x : Str) (n : Int) : Txt.mul x n = repS x n := by
  unfold Txt.mul repS
  by_cases h : n < 1
  · rw [if_pos h, show n.toNat = 0 by omega]
    rfl
  · rw [if_neg h]
    by_cases h2 : (n == 1 || x.length == 0) = true
    · rw [if_pos h2]
      refine TL.ext_tl ?_
      show x.cps.toList = (List.replicate n.toNat x.cps.toList).flatten
      rcases (Bool.or_eq_true _ _).mp h2 with e | e
      · have : n = 1 := eq_of_beq e
        subst this
        simp
      · have : x.cps.toList = [] := by
          have e' : x.length = 0 := eq_of_beq e
          have e3 : x.cps.toList.length = 0 := by simpa [Str.length] using e'
          exact List.length_eq_zero_iff.mp e3
        rw [this]
        simp
    · rw [if_neg h2]
      refine TL.ext_tl ?_
      show ((List.replicate n.toNat x.cps).foldl (· ++ ·) #[]).toList = (List.replicate n.toNat x.cps.toList).flatten
      rw [foldl_app]
      simp
theorem op_mul_str : OpR X (binaryOp .Mult) (fun x y H Q => ∃ z n, x = .str z ∧ y = .int n ∧ -(2 ^ 63) ≤ n ∧ n ≤ 4096 ∧ z.length ≤ 4096 ∧ Q (.str (repS z n)) H) := by
  intro pins s σ H x y v u Q I rx ry h
  obtain ⟨z, n, rfl, rfl, h0, h1, h2, q⟩ := h
  obtain ⟨t, rfl⟩ := rx
  obtain ⟨t', rfl⟩ := ry
  refine SB.mul (mulOk_of 4096 4096 h2 (by exact_mod_cast h1) h0 (by decide) (by decide)) fun t2 k => ?_
  rw [mul_rep]
  exact ⟨.str (repS z n), H, I.tok _, ⟨_, rfl⟩, q⟩
end
/-! ### chunks -/
def chunks {α : Type} (k : Nat) (t : List α) : List (List α) := (List.range ((t.length + (k - 1)) / k)).map fun i => (t.drop (i * k)).take k
theorem chunks_nil {α : Type} {k : Nat} (hk : 0 < k) : chunks k ([] : List α) = [] := by
  unfold chunks
  rw [show (([] : List α).length + (k - 1)) / k = 0 from Nat.div_eq_of_lt (by simp; omega)]
  rfl
theorem chunks_cons {α : Type} {k : Nat} (hk : 0 < k) {t : List α} (ht : t ≠ []) : chunks k t = t.take k :: chunks k (t.drop k) := by
  unfold chunks
  have hl : 0 < t.length := List.length_pos_iff.mpr ht
  have e : (t.length + (k - 1)) / k = ((t.drop k).length + (k - 1)) / k + 1 := by
    rw [List.length_drop]
    by_cases h : t.length ≤ k
    · rw [show t.length - k = 0 by omega, show (0 + (k - 1)) / k = 0 from Nat.div_eq_of_lt (by omega)]
      exact Nat.div_eq_of_lt_le (by omega) (by omega)
    · rw [show t.length + (k - 1) = (t.length - k + (k - 1)) + k by omega, Nat.add_div_right _ hk]
  rw [e, List.range_succ_eq_map, List.map_cons, List.map_map]
  congr 1
  · simp
  · refine List.map_congr_left fun i _ => ?_
    show (t.drop ((i + 1) * k)).take k = ((t.drop k).drop (i * k)).take k
    rw [List.drop_drop, Nat.succ_mul, Nat.add_comm]
/-! ### slices and ranges -/
theorem cutS_at (z : Str) (a b : Nat) : cutS z (some (a : Int)) (some (b : Int)) = ⟨((TL.tl z).drop a |>.take (b - a)).toArray⟩ := by
  unfold cutS
  rw [HT.sIx_nat, HT.sIx_nat]
  refine TL.ext_tl ?_
  show ((TL.tl z).drop (min a z.length)).take (min b z.length - min a z.length) = ((TL.tl z).drop a).take (b - a)
  have hz : z.length = (TL.tl z).length := TL.len_tl z
  rw [hz]
  generalize TL.tl z = l
  by_cases h : a ≤ l.length
  · rw [Nat.min_eq_left h]
    by_cases h2 : b ≤ l.length
    · rw [Nat.min_eq_left h2]
    · rw [Nat.min_eq_right (by omega), List.take_of_length_le (by rw [List.length_drop]; omega), List.take_of_length_le (by rw [List.length_drop]; omega)]
  · have h' : l.length ≤ a := by omega
    rw [Nat.min_eq_right h', List.drop_of_length_le (Nat.le_refl _), List.drop_of_length_le h']
    simp
theorem cutV_at (z : List V) (a b : Nat) : cutV z (some (a : Int)) (some (b : Int)) = (z.drop a).take (b - a) := by
  unfold cutV
  rw [HT.sIx_nat, HT.sIx_nat]
  by_cases h : a ≤ z.length
  · rw [Nat.min_eq_left h]
    by_cases h2 : b ≤ z.length
    · rw [Nat.min_eq_left h2]
    · rw [Nat.min_eq_right (by omega), List.take_of_length_le (by rw [List.length_drop]; omega), List.take_of_length_le (by rw [List.length_drop]; omega)]
  · have h' : z.length ≤ a := by omega
    rw [Nat.min_eq_right h', List.drop_of_length_le (Nat.le_refl _), List.drop_of_length_le h']
    simp
theorem cutV_to (z : List V) (b : Nat) : cutV z none (some (b : Int)) = z.take b := by
  unfold cutV
  rw [HT.sIx_nat, HT.sIx_none]
  by_cases h2 : b ≤ z.length
  · rw [Nat.min_eq_left h2]; simp
  · rw [Nat.min_eq_right (by omega), List.take_of_length_le (by simp), List.take_of_length_le (by omega)]; simp
theorem cutS_to (z : Str) (b : Nat) : cutS z none (some (b : Int)) = ⟨((TL.tl z).take b).toArray⟩ := by
  have := cutS_at z 0 b
  have e : cutS z none (some (b : Int)) = cutS z (some ((0 : Nat) : Int)) (some (b : Int)) := by
    unfold cutS
    rw [HT.sIx_none, HT.sIx_nat, HT.sIx_nat, Nat.zero_min]
  rw [e, this]
  simp
theorem cutS_from (z : Str) (a : Nat) : cutS z (some (a : Int)) none = ⟨((TL.tl z).drop a).toArray⟩ := by
  have e : cutS z (some (a : Int)) none = cutS z (some (a : Int)) (some ((z.length : Nat) : Int)) := by
    unfold cutS
    rw [HT.sIx_none, HT.sIx_nat, HT.sIx_nat]
    simp
  rw [e, cutS_at, TL.len_tl, List.take_of_length_le (by simp)]
theorem rgC (n k : Nat) (hk : 0 < k) (hk2 : k < 1000) (hn : n < 2 ^ 40) : RgC 0 (n : Int) (k : Int) ((n + (k - 1)) / k) := by
  refine ⟨by omega, by omega, ?_, ?_⟩
  · have e := rangeSize_pos (len := (n : Int)) (c := (k : Int)) (by omega) (by omega)
    have q : ((n : Int) + (k : Int) - 1) / (k : Int) ≤ (n : Int) + (k : Int) - 1 := Int.ediv_le_self _ (by omega)
    have q0 : 0 ≤ ((n : Int) + (k : Int) - 1) / (k : Int) := Int.ediv_nonneg (by omega) (by omega)
    unfold Builtin.Range.small
    rw [e]
    simp only [Builtin.Range.rangeFitsLong, Bool.and_eq_true, Bool.or_eq_true, decide_eq_true_eq, beq_iff_eq, show ((k : Int) > 0) by omega, if_true]
    have p1 : (0:Int) < 2 ^ 63 := by decide
    omega
  · rw [rangeSize_pos (by omega) (by omega)]
    rw [show (n : Int) + (k : Int) - 1 = ((n + (k - 1) : Nat) : Int) by omega]
    exact (Int.natCast_ediv _ _).symm
end LH
namespace LH
open PySem PySem.Spec PyProof.Rows L2
theorem walk_listF {K : PySem.W.Frag} {a : Addr} {xs : List V} : Walk (Itl K a) xs.length (fun H => SqL K H a xs) (YFn fun i => xs.getD i .non) :=
  walk_list.mono (fun _ h => h) fun i H x H' hi _ y => ⟨y.1, by show x = xs.getD i .non; rw [List.getD_eq_getElem?_getD, y.2]; rfl⟩
theorem walk_tupF {K : PySem.W.Frag} {a : Addr} {xs : List V} : Walk (Itt K a) xs.length (fun H => SqT K H a xs) (YFn fun i => xs.getD i .non) :=
  walk_tup.mono (fun _ h => h) fun i H x H' hi _ y => ⟨y.1, by show x = xs.getD i .non; rw [List.getD_eq_getElem?_getD, y.2]; rfl⟩
theorem getD_map_int (bs : List Int) (i : Nat) (h : i < bs.length) : (bs.map V.int).getD i .non = .int (bs.getD i 0) := by
  rw [List.getD_eq_getElem?_getD, List.getElem?_map, List.getElem?_eq_getElem h, List.getD_eq_getElem?_getD, List.getElem?_eq_getElem h]
  rfl
theorem range_getD {α : Type} (xs : List α) (d : α) : (List.range xs.length).map (fun i => xs.getD i d) = xs := by
  apply List.ext_getElem?
  intro i
  rw [List.getElem?_map]
  by_cases h : i < xs.length
  · rw [List.getElem?_range h]
    show some (xs.getD i d) = _
    rw [List.getD_eq_getElem?_getD, List.getElem?_eq_getElem h]
    rfl
  · rw [List.getElem?_eq_none (by rw [List.length_range]; omega), List.getElem?_eq_none (by omega)]
    rfl
section
variable {X : Cx}
theorem ixL (K : PySem.W.Frag) (h : X.K = K := by rfl) : IxR X (rIxL K) := h ▸ ix_list
theorem ixT (K : PySem.W.Frag) (h : X.K = K := by rfl) : IxR X (rIxT K) := h ▸ ix_tup
theorem slL (K : PySem.W.Frag) (h : X.K = K := by rfl) : SlR X (rSlL K) := h ▸ sl_list
theorem slT (K : PySem.W.Frag) (h : X.K = K := by rfl) : SlR X (rSlT K) := h ▸ sl_tup
theorem cIsi (K : PySem.W.Frag) (h : X.K = K := by rfl) : CallR X (.builtin "isinstance") (rIsi K) := h ▸ call_isi
def rLenS (K : PySem.W.Frag) : List V → Hp → VK → Prop := fun xs H Q => ∃ p ys, xs = [.ref p] ∧ (SqL K H p ys ∨ SqT K H p ys) ∧ Q (.int ys.length) H
theorem cLen (K : PySem.W.Frag) (h : X.K = K := by rfl) : CallR X (.builtin "len") (rLenS K) := h ▸ call_len_seq
theorem cAll (K : PySem.W.Frag) (h : X.K = K := by rfl) (hc : X.calm = true := by rfl) : CallR X (.builtin "all") (rAll K) := h ▸ cr_all hc
theorem cAny (K : PySem.W.Frag) (h : X.K = K := by rfl) (hc : X.calm = true := by rfl) : CallR X (.builtin "any") (rAny K) := h ▸ cr_any hc
theorem oIn (K : PySem.W.Frag) (h : X.K = K := by rfl) : OpR X (compareOp .In) (rIn K false) := h ▸ op_in_seq
theorem oNotIn (K : PySem.W.Frag) (h : X.K = K := by rfl) : OpR X (compareOp .NotIn) (rIn K true) := h ▸ op_notIn_seq
theorem oEqD (K : PySem.W.Frag) (hu : X.A.units + 64 < cLine) (h : X.K = K := by rfl) : OpR X (compareOp .Eq) (rEqD K) := h ▸ op_eqD hu
theorem oNeD (K : PySem.W.Frag) (hu : X.A.units + 64 < cLine) (h : X.K = K := by rfl) : OpR X (compareOp .NotEq) (rNeD K) := h ▸ op_neD hu
end
end LH
namespace LH
open PySem PySem.Spec PyProof.Rows L2
/-! ### data: flat lists compared -/
def OkS (x : Str) : Prop := ∀ c ∈ TL.tl x, c < 1114112
theorem strOk_of (x : Str) (h : OkS x) : PyData.strOk x = true := by
  unfold PyData.strOk
  rw [Array.all_eq_true']
  intro c hc
  exact decide_eq_true (h c (Array.mem_toList_iff.mpr hc))
theorem dpAll_ints {K : PySem.W.Frag} {H : Hp} : ∀ bs : List Int, DpAll K H (bs.map V.int) (bs.map PyData.int)
  | [] => .nil
  | b :: r => .cons (.int b) (dpAll_ints r)
theorem dpAll_strs {K : PySem.W.Frag} {H : Hp} : ∀ bs : List Str, DpAll K H (bs.map V.str) (bs.map PyData.str)
  | [] => .nil
  | b :: r => .cons (.str b) (dpAll_strs r)
theorem dp_ints {K : PySem.W.Frag} {H : Hp} {a : Addr} {bs : List Int} (h : SqL K H a (bs.map V.int)) : Dp K H (.ref a) (.list (bs.map PyData.int)) := .lst h (dpAll_ints bs)
theorem dp_strs {K : PySem.W.Frag} {H : Hp} {a : Addr} {bs : List Str} (h : SqL K H a (bs.map V.str)) : Dp K H (.ref a) (.list (bs.map PyData.str)) := .lst h (dpAll_strs bs)
theorem lay_strs : ∀ bs : List Str, (∀ x ∈ bs, OkS x) → PyData.canLayAll0 (bs.map PyData.str) = true
  | [], _ => by simp [PyData.canLayAll0]
  | b :: r, h => by simp [PyData.canLayAll0, PyData.canLay0, strOk_of b (h b (by simp)), lay_strs r fun x hx => h x (by simp [hx])]
theorem depth_strs : ∀ bs : List Str, PyData.depthAll (bs.map PyData.str) = 0
  | [] => rfl
  | _ :: r => by simp [PyData.depthAll, PyData.depth, depth_strs r]
theorem shaped_strs (bs : List Str) (h : ∀ x ∈ bs, OkS x) : SeqAt.shaped (.list (bs.map PyData.str)) = true := by
  simp [SeqAt.shaped, PyData.canLay0, PyData.depth, lay_strs bs h, depth_strs]
theorem shaped_intsL (bs : List Int) : SeqAt.shaped (.list (bs.map PyData.int)) = true := PySem.W.ke_shaped_ints bs
theorem eqv_ints : ∀ bs cs : List Int, PyData.eqvAll (bs.map PyData.int) (cs.map PyData.int) = decide (bs = cs)
  | [], [] => by simp [PyData.eqvAll]
  | [], _ :: _ => by simp [PyData.eqvAll]
  | _ :: _, [] => by simp [PyData.eqvAll]
  | b :: r, c :: q => by
    rw [List.map_cons, List.map_cons, PyData.eqvAll, PyData.eqv, eqv_ints r q]
    by_cases h : b = c <;> simp [h]
theorem eqv_strs : ∀ bs cs : List Str, PyData.eqvAll (bs.map PyData.str) (cs.map PyData.str) = decide (bs = cs)
  | [], [] => by simp [PyData.eqvAll]
  | [], _ :: _ => by simp [PyData.eqvAll]
  | _ :: _, [] => by simp [PyData.eqvAll]
  | b :: r, c :: q => by
    rw [List.map_cons, List.map_cons, PyData.eqvAll, PyData.eqv, eqv_strs r q]
    by_cases h : b = c <;> simp [h]
theorem eqv_intsL (bs cs : List Int) : PyData.eqv (.list (bs.map PyData.int)) (.list (cs.map PyData.int)) = decide (bs = cs) := by rw [PyData.eqv, eqv_ints]
theorem eqv_strsL (bs cs : List Str) : PyData.eqv (.list (bs.map PyData.str)) (.list (cs.map PyData.str)) = decide (bs = cs) := by rw [PyData.eqv, eqv_strs]
theorem map_true {α : Type} (l : List α) : (l.map fun _ => true).all id = true := by
  induction l with
  | nil => rfl
  | cons x r ih => simpa using ih
end LH

namespace LH
open PySem PySem.Spec PyProof.Rows L2
/-! ### a comprehension with a test -/
theorem lc_filt {J : It} {n : Nat} {G : Hp → Prop} {tt : TT} {te : TE} {c : Nat} {σ : L2.St} {H1 : Hp} {D : Addr} {Qd : Hp → Prop} (xs f : Nat → V) (b : Nat → Bool) (w : Walk J n G (YFn xs)) (hG : ∀ H, Same H1 H → G H) (hD : H1 D = none) (hn : n ≤ sizeLine)
    (ht : ∀ (i : Nat) (H : Hp) (Q : Bool → Hp → Prop), i < n → Same H1 H → (∀ H', Same H H' → Q (b i) H') → tt ((σ.set c none).set c (some (xs i))) H Q)
    (he : ∀ i H Q, i < n → Same H1 H → b i = true → Tell H (f i) Q → te ((σ.set c none).set c (some (xs i))) H Q)
    (hd : ∀ H, Same H1 H → H D = some (.lst (((List.range n).filter b).map f)) → Qd H) :
    ∃ W : Nat → Nat → Hp → Prop, (∃ m, W 0 m (upd H1 D (.lst []))) ∧ ∀ i m H, W i m H →
      (J.stop i H ∧ Qd H) ∨ (J.go i H ∧ ∃ Nx : Hp → Prop, (∀ H', Nx H' → ∃ m', m' < m ∧ W (i + 1) m' H') ∧ ∀ x H', J.yld i H x H' → gName c x (wipe σ [c]) H' fun σ2 H2 => wipe σ2 [c] = wipe σ [c] ∧ tt σ2 H2 fun b H3 =>
        if b = true then te σ2 H3 fun y H4 => ∃ acc, H4 D = some (.lst acc) ∧ acc.length < sizeLine ∧ Nx (upd H4 D (.lst (acc ++ [y]))) else Nx H3) := by
  refine lc_it w (fun i H => Same H1 H ∧ H D = some (.lst (((List.range i).filter b).map f))) ⟨same_upd hD, upd_same⟩ (fun i H _ h => hG H h.1) (fun i x H H' hi hP hy => ?_) (fun H h => hd H h.1 h.2)
  obtain ⟨sm, eD⟩ := hP
  obtain ⟨rfl, rfl⟩ := hy
  refine ⟨?_, ?_⟩
  rotate_left
  · refine ht i H' _ hi sm fun H2 s2 => ?_
    cases hb : b i with
    | true =>
      rw [if_pos rfl]
      refine he i H2 _ hi (sm.trans s2) hb fun H3 s3 => ⟨_, s3 _ _ (s2 _ _ eD), ?_, ?_, ?_⟩
      · rw [List.length_map]
        have := List.length_filter_le b (List.range i)
        rw [List.length_range] at this
        omega
      · intro b' o hb'
        rw [upd_ne (ne_of_none hb' hD)]
        exact s3 _ _ (s2 _ _ (sm _ _ hb'))
      · rw [upd_same, List.range_succ, List.filter_append, List.map_append]
        simp [hb]
    | false =>
      rw [if_neg Bool.false_ne_true]
      refine ⟨sm.trans s2, ?_⟩
      rw [s2 _ _ eD, List.range_succ, List.filter_append, List.map_append]
      simp [hb]
  · show (((σ.set c none).set c (some (xs i))).set c none) = σ.set c none
    rw [List.set_set, List.set_set]
/-! ### the signs of a text -/
theorem walk_strF {z : Str} : Walk (Its z) (TL.tl z).length (fun _ => True) (YFn fun i => .str ⟨#[(TL.tl z).getD i 0]⟩) := by
  have e : (TL.tl z).length = z.cps.size := Array.length_toList
  rw [e]
  refine walk_str.mono (fun _ h => h) fun i H x H' hi _ y => ⟨y.1, ?_⟩
  obtain ⟨_, c, hc, rfl⟩ := y
  show V.str ⟨#[c]⟩ = .str ⟨#[(TL.tl z).getD i 0]⟩
  have : (TL.tl z)[i]? = some c := by rw [← hc]; exact Array.getElem?_toList
  rw [List.getD_eq_getElem?_getD, this]
  rfl
theorem lall_range {α : Type} (l : List α) (d : α) (p : α → Bool) : ((List.range l.length).map fun i => p (l.getD i d)).all id = l.all p := by
  have e : ((List.range l.length).map fun i => p (l.getD i d)) = ((List.range l.length).map fun i => l.getD i d).map p := by rw [List.map_map]; rfl
  rw [e, range_getD, List.all_map]
  rfl
/-! ### one sign's split -/
def splitL (s : Nat) : List Nat → List (List Nat)
  | [] => [[]]
  | c :: r => if c = s then [] :: splitL s r else (c :: (splitL s r).headD []) :: (splitL s r).tail
theorem splitL_ne (s : Nat) (l : List Nat) : splitL s l ≠ [] := by
  cases l with
  | nil => simp [splitL]
  | cons c r => unfold splitL; split <;> simp
theorem splitL_eta (s : Nat) (l : List Nat) : splitL s l = (splitL s l).headD [] :: (splitL s l).tail := by
  cases h : splitL s l with
  | nil => exact absurd h (splitL_ne s l)
  | cons x r => rfl
theorem spl_one (s : Nat) : ∀ (l acc : List Nat), TL.spl [s] 0 acc l = (acc ++ (splitL s l).headD []) :: (splitL s l).tail
  | [], acc => by rw [TL.spl_nil]; simp [splitL]
  | c :: r, acc => by
    by_cases h : c = s
    · subst h
      rw [TL.spl_hit (show TL.pre [c] (c :: r) = true by simp [TL.pre])]
      show acc :: TL.spl [c] 0 [] r = _
      rw [spl_one c r []]
      have e : splitL c (c :: r) = [] :: splitL c r := by
        conv => lhs; unfold splitL
        rw [if_pos rfl]
      rw [e]
      simp only [List.headD_cons, List.tail_cons, List.append_nil, List.nil_append]
      rw [← splitL_eta]
    · rw [TL.spl_miss (show TL.pre [s] (c :: r) = false by simp [TL.pre]; exact h), spl_one s r]
      conv => rhs; unfold splitL
      rw [if_neg h]
      simp
theorem split_tl {x y : Str} {s : Nat} (hy : TL.tl y = [s]) (hs : s < 256) : (Txt.split x y).map TL.tl = splitL s (TL.tl x) := by
  rw [TL.split_spl x y (by rw [hy]; simp) (TL.kind_ok ?_), hy, spl_one, List.nil_append, ← splitL_eta]
  rw [Array.all_eq_true']
  intro c hc
  have : c ∈ TL.tl y := Array.mem_toList_iff.mpr hc
  rw [hy] at this
  exact decide_eq_true (by rw [List.mem_singleton.mp this]; exact hs)
theorem splitL_len (s : Nat) : ∀ l : List Nat, (splitL s l).length ≤ l.length + 1
  | [] => Nat.le_refl _
  | c :: r => by
    have ih := splitL_len s r
    unfold splitL
    split
    · simp only [List.length_cons]; omega
    · have := splitL_eta s r
      have h2 := congrArg List.length this
      simp only [List.length_cons] at h2 ⊢
      omega
theorem splitL_mem (s : Nat) : ∀ (l : List Nat) (w : List Nat), w ∈ splitL s l → ∀ c ∈ w, c ∈ l
  | [], w, h, c, hc => by
    simp [splitL] at h
    rw [h] at hc
    cases hc
  | d :: r, w, h, c, hc => by
    unfold splitL at h
    have e := splitL_eta s r
    split at h
    · rcases List.mem_cons.mp h with rfl | h
      · cases hc
      · exact List.mem_cons_of_mem _ (splitL_mem s r w h c hc)
    · rcases List.mem_cons.mp h with rfl | h
      · rcases List.mem_cons.mp hc with rfl | hc
        · exact List.mem_cons_self
        · exact List.mem_cons_of_mem _ (splitL_mem s r _ (by rw [e]; exact List.mem_cons_self) c hc)
      · exact List.mem_cons_of_mem _ (splitL_mem s r w (by rw [e]; exact List.mem_cons_of_mem _ h) c hc)
theorem splitL_le (s : Nat) : ∀ (l : List Nat) (w : List Nat), w ∈ splitL s l → w.length ≤ l.length
  | [], w, h => by
    simp [splitL] at h
    rw [h]
    exact Nat.le_refl _
  | d :: r, w, h => by
    unfold splitL at h
    have e := splitL_eta s r
    have mem1 : (splitL s r).headD [] ∈ splitL s r := by rw [e]; exact List.mem_cons_self
    have mem2 : ∀ x ∈ (splitL s r).tail, x ∈ splitL s r := fun x hx => by rw [e]; exact List.mem_cons_of_mem _ hx
    split at h
    · rcases List.mem_cons.mp h with rfl | h
      · exact Nat.zero_le _
      · exact Nat.le_succ_of_le (splitL_le s r w h)
    · rcases List.mem_cons.mp h with rfl | h
      · exact Nat.succ_le_succ (splitL_le s r _ mem1)
      · exact Nat.le_succ_of_le (splitL_le s r w (mem2 w h))
theorem mk_len (l : List Nat) : (⟨l.toArray⟩ : Str).length = l.length := by rw [TL.len_tl]
theorem str_eq_iff (x y : Str) : x = y ↔ TL.tl x = TL.tl y := ⟨fun h => by rw [h], TL.ext_tl⟩
end LH
namespace LH
open PySem PySem.Spec PyProof.Rows L2
/-! ### an empty part in a split: a sign at an end, or two side by side -/
def Gap (s : Nat) (l : List Nat) : Prop := ∃ i, l[i]? = some s ∧ (l[i + 1]? = none ∨ l[i + 1]? = some s)
theorem gap_nil (s : Nat) : ¬ Gap s [] := fun ⟨i, h, _⟩ => by simp at h
theorem gap_cons (s c : Nat) (r : List Nat) : Gap s (c :: r) ↔ (c = s ∧ (r = [] ∨ r[0]? = some s)) ∨ Gap s r := by
  constructor
  · rintro ⟨i, h1, h2⟩
    cases i with
    | zero =>
      left
      have : c = s := by simpa using h1
      refine ⟨this, ?_⟩
      rcases h2 with h2 | h2
      · left
        have : r[0]? = none := by simpa using h2
        cases r with
        | nil => rfl
        | cons x r => simp at this
      · right; simpa using h2
    | succ i => exact .inr ⟨i, by simpa using h1, by simpa using h2⟩
  · rintro (⟨rfl, h⟩ | ⟨i, h1, h2⟩)
    · refine ⟨0, by simp, ?_⟩
      rcases h with rfl | h
      · left; rfl
      · right; simpa using h
    · exact ⟨i + 1, by simpa using h1, by simpa using h2⟩
theorem split_head (s : Nat) (l : List Nat) : (splitL s l).headD [] = [] ↔ l = [] ∨ l[0]? = some s := by
  cases l with
  | nil => simp [splitL]
  | cons c r =>
    unfold splitL
    by_cases h : c = s
    · rw [if_pos h]; simp [h]
    · rw [if_neg h]; simp [h]
theorem split_tail (s : Nat) : ∀ l : List Nat, [] ∈ (splitL s l).tail ↔ Gap s l
  | [] => by simp [splitL, gap_nil]
  | c :: r => by
    rw [gap_cons, ← split_tail s r]
    by_cases h : c = s
    · have e : splitL s (c :: r) = [] :: splitL s r := by
        conv => lhs; unfold splitL
        rw [if_pos h]
      rw [e, List.tail_cons, splitL_eta s r, List.mem_cons, eq_comm, split_head]
      simp [h]
    · have e : splitL s (c :: r) = (c :: (splitL s r).headD []) :: (splitL s r).tail := by
        conv => lhs; unfold splitL
        rw [if_neg h]
      rw [e, List.tail_cons]
      simp [h]
theorem split_gap (s : Nat) (l : List Nat) : [] ∈ splitL s l ↔ l = [] ∨ l[0]? = some s ∨ Gap s l := by
  rw [splitL_eta s l, List.mem_cons, eq_comm, split_head, split_tail, or_assoc]
theorem joinL_nil (l : List (List Nat)) : TL.joinL [] l = l.flatten := by
  induction l with
  | nil => rfl
  | cons x r ih =>
    cases r with
    | nil => simp [TL.joinL]
    | cons y r => rw [TL.joinL, ih]; simp
theorem tl_empty : TL.tl (Str.ofString "") = [] := by decide +kernel
theorem tl_join0 (ys : List Str) : TL.tl (Txt.join (Str.ofString "") ys) = (ys.map TL.tl).flatten := by
  rw [TL.join_eq, TL.tl_join, tl_empty, joinL_nil]
theorem flatten_le {α : Type} {k : Nat} : ∀ l : List (List α), (∀ x ∈ l, x.length ≤ k) → l.flatten.length ≤ k * l.length
  | [], _ => Nat.le_refl _
  | x :: r, h => by
    have ih := flatten_le r fun y hy => h y (List.mem_cons_of_mem _ hy)
    have hx := h x (by simp)
    rw [List.flatten_cons, List.length_append, List.length_cons, Nat.mul_succ]
    omega
theorem chunks_len {α : Type} (k : Nat) (t : List α) : (chunks k t).length = (t.length + (k - 1)) / k := by
  unfold chunks
  rw [List.length_map, List.length_range]
theorem sum_len (ys : List Str) : (ys.map (·.length)).sum = ((ys.map TL.tl).flatten).length := by
  rw [List.length_flatten, List.map_map]
  rfl
/-! ### texts and their signs -/
theorem okS_app {x y : Str} (hx : OkS x) (hy : OkS y) : OkS (x ++ y) := fun c hc => by
  rw [TL.tl_append] at hc
  rcases List.mem_append.mp hc with h | h
  · exact hx c h
  · exact hy c h
theorem len_app (x y : Str) : (x ++ y).length = x.length + y.length := by
  rw [TL.len_tl, TL.tl_append, List.length_append, ← TL.len_tl, ← TL.len_tl]
theorem okS_cut {x : Str} (hx : OkS x) (lo hi : Option Int) : OkS (cutS x lo hi) := fun c hc => hx c (List.mem_of_mem_drop (List.mem_of_mem_take hc))
theorem okS_one {c : Nat} (h : c < 1114112) : OkS ⟨#[c]⟩ := fun d hd => by
  have : d = c := by simpa [TL.tl] using hd
  rw [this]; exact h
theorem joinL_mem (S : List Nat) : ∀ (ps : List (List Nat)) (c : Nat), c ∈ TL.joinL S ps → c ∈ S ∨ ∃ p ∈ ps, c ∈ p
  | [], c, h => by cases h
  | [p], c, h => .inr ⟨p, by simp, h⟩
  | p :: q :: r, c, h => by
    rw [TL.joinL] at h
    rcases List.mem_append.mp h with h | h
    · exact .inr ⟨p, by simp, h⟩
    · rcases List.mem_append.mp h with h | h
      · exact .inl h
      · rcases joinL_mem S (q :: r) c h with h | ⟨x, hx, hc⟩
        · exact .inl h
        · exact .inr ⟨x, List.mem_cons_of_mem _ hx, hc⟩
theorem joinL_len (S : List Nat) : ∀ (ps : List (List Nat)), (TL.joinL S ps).length ≤ (ps.map List.length).sum + ps.length * S.length
  | [] => by simp [TL.joinL]
  | [p] => by simp [TL.joinL]
  | p :: q :: r => by
    have ih := joinL_len S (q :: r)
    rw [TL.joinL, List.length_append, List.length_append, List.map_cons, List.sum_cons, List.length_cons, Nat.succ_mul]
    omega
theorem sum_le (k : Nat) : ∀ l : List Nat, (∀ x ∈ l, x ≤ k) → l.sum ≤ l.length * k
  | [], _ => by simp
  | x :: r, h => by
    have ih := sum_le k r fun y hy => h y (List.mem_cons_of_mem _ hy)
    have hx := h x (by simp)
    rw [List.sum_cons, List.length_cons, Nat.succ_mul]
    omega
theorem join_len_le {sep : Str} {ws : List Str} {k n : Nat} (hw : ∀ x ∈ ws, x.length ≤ k) (hn : ws.length ≤ n) : (ws.map (·.length)).sum + ws.length * sep.length ≤ n * (k + sep.length) := by
  have h1 := sum_le k (ws.map (·.length)) fun x hx => by
    obtain ⟨y, hy, rfl⟩ := List.mem_map.mp hx
    exact hw y hy
  rw [List.length_map] at h1
  calc (ws.map (·.length)).sum + ws.length * sep.length ≤ ws.length * k + ws.length * sep.length := Nat.add_le_add_right h1 _
    _ = ws.length * (k + sep.length) := (Nat.mul_add _ _ _).symm
    _ ≤ n * (k + sep.length) := Nat.mul_le_mul_right _ hn
theorem joined_len (sep : Str) (ws : List Str) : (Txt.join sep ws).length ≤ (ws.map (·.length)).sum + ws.length * sep.length := by
  rw [TL.len_tl, TL.join_eq, TL.tl_join]
  refine Nat.le_trans (joinL_len _ _) ?_
  rw [List.map_map, List.length_map, ← TL.len_tl]
  have : (ws.map (List.length ∘ TL.tl)) = ws.map (·.length) := List.map_congr_left fun x _ => (TL.len_tl x).symm
  rw [this]
  exact Nat.le_refl _
theorem okS_join {sep : Str} {ws : List Str} (hs : OkS sep) (hw : ∀ x ∈ ws, OkS x) : OkS (Txt.join sep ws) := fun c hc => by
  rw [TL.join_eq, TL.tl_join] at hc
  rcases joinL_mem _ _ c hc with h | ⟨p, hp, hc⟩
  · exact hs c h
  · obtain ⟨x, hx, rfl⟩ := List.mem_map.mp hp
    exact hw x hx c hc
/-- lists of truth values compared -/
theorem dpAll_bls {K : PySem.W.Frag} {H : Hp} : ∀ bs : List Bool, DpAll K H (bs.map V.bl) (bs.map PyData.bool)
  | [] => .nil
  | b :: r => .cons (.bl b) (dpAll_bls r)
theorem dp_bls {K : PySem.W.Frag} {H : Hp} {a : Addr} {bs : List Bool} (h : SqL K H a (bs.map V.bl)) : Dp K H (.ref a) (.list (bs.map PyData.bool)) := .lst h (dpAll_bls bs)
theorem lay_bls : ∀ bs : List Bool, PyData.canLayAll0 (bs.map PyData.bool) = true
  | [] => by simp [PyData.canLayAll0]
  | b :: r => by simp [PyData.canLayAll0, PyData.canLay0, lay_bls r]
theorem depth_bls : ∀ bs : List Bool, PyData.depthAll (bs.map PyData.bool) = 0
  | [] => rfl
  | _ :: r => by simp [PyData.depthAll, PyData.depth, depth_bls r]
theorem shaped_bls (bs : List Bool) : SeqAt.shaped (.list (bs.map PyData.bool)) = true := by
  simp [SeqAt.shaped, PyData.canLay0, PyData.depth, lay_bls bs, depth_bls]
theorem eqv_bls : ∀ bs cs : List Bool, PyData.eqvAll (bs.map PyData.bool) (cs.map PyData.bool) = decide (bs = cs)
  | [], [] => by simp [PyData.eqvAll]
  | [], _ :: _ => by simp [PyData.eqvAll]
  | _ :: _, [] => by simp [PyData.eqvAll]
  | b :: r, c :: q => by
    rw [List.map_cons, List.map_cons, PyData.eqvAll, PyData.eqv, eqv_bls r q]
    by_cases h : b = c <;> simp [h]
theorem eqv_blsL (bs cs : List Bool) : PyData.eqv (.list (bs.map PyData.bool)) (.list (cs.map PyData.bool)) = decide (bs = cs) := by rw [PyData.eqv, eqv_bls]
theorem lat_of {α : Type} {xs : List α} {z : Int} {j : Nat} {v : α} (e : z = (j : Int)) (h : xs[j]? = some v) : atI xs z = some v := by
  rw [e]
  exact atI_nat h
theorem getD_str (ws : List Str) (i : Nat) (hi : i < ws.length) : (ws.map V.str).getD i .non = .str (ws.getD i Str.empty) := by
  rw [List.getD_eq_getElem?_getD, List.getElem?_map, List.getElem?_eq_getElem hi, List.getD_eq_getElem?_getD, List.getElem?_eq_getElem hi]
  rfl
end LH
namespace LH
open PySem PySem.Spec PyProof.Rows L2
/-! ### and, or of values, each part told by its truth -/
theorem andV {ta tb : TE} {σ : L2.St} {H : Hp} {Q : VK} (c d : Bool) (ha : ∀ Q' : VK, Tell H (.bl c) Q' → ta σ H Q') (hb : c = true → ∀ (H1 : Hp) (Q' : VK), Same H H1 → Tell H1 (.bl d) Q' → tb σ H1 Q') (q : Tell H (.bl (c && d)) Q) : tAndV ta tb σ H Q := by
  refine ha _ fun H1 s1 => ⟨c, rfl, ?_⟩
  cases c with
  | true => exact iteT (hb rfl H1 Q s1 fun H2 s2 => q H2 (s1.trans s2))
  | false => exact iteF (q H1 s1)
theorem orV {ta tb : TE} {σ : L2.St} {H : Hp} {Q : VK} (c d : Bool) (ha : ∀ Q' : VK, Tell H (.bl c) Q' → ta σ H Q') (hb : c = false → ∀ (H1 : Hp) (Q' : VK), Same H H1 → Tell H1 (.bl d) Q' → tb σ H1 Q') (q : Tell H (.bl (c || d)) Q) : tOrV ta tb σ H Q := by
  refine ha _ fun H1 s1 => ⟨c, rfl, ?_⟩
  cases c with
  | true => exact iteT (q H1 s1)
  | false => exact iteF (hb rfl H1 Q s1 fun H2 s2 => q H2 (s1.trans s2))
/-- two blanks side by side -/
def dbl (s : Nat) (l : List Nat) : Bool := (List.range l.length).any fun i => decide (l[i]? = some s) && decide (l[i + 1]? = some s)
theorem dbl_iff (s : Nat) (l : List Nat) : dbl s l = true ↔ ∃ i, l[i]? = some s ∧ l[i + 1]? = some s := by
  unfold dbl
  rw [List.any_eq_true]
  constructor
  · rintro ⟨i, _, h⟩
    rw [Bool.and_eq_true, decide_eq_true_eq, decide_eq_true_eq] at h
    exact ⟨i, h⟩
  · rintro ⟨i, h1, h2⟩
    refine ⟨i, List.mem_range.mpr (List.getElem?_eq_some_iff.mp h1).1, ?_⟩
    rw [Bool.and_eq_true, decide_eq_true_eq, decide_eq_true_eq]
    exact ⟨h1, h2⟩
theorem take2 (s : Nat) : ∀ (l : List Nat) (i : Nat), (l.drop i).take 2 = [s, s] ↔ l[i]? = some s ∧ l[i + 1]? = some s
  | [], i => by simp
  | c :: r, 0 => by cases r <;> simp
  | c :: r, i + 1 => by simpa using take2 s r i
theorem in_two {x y : Str} {s : Nat} (hy : TL.tl y = [s, s]) : (!(Builtin.Str.occurrences x y 0 x.length 1).isEmpty) = dbl s (TL.tl x) := by
  rw [Bool.eq_iff_iff, PySem.StrLaws.found_iff, dbl_iff]
  have hyl : y.length = 2 := by rw [TL.len_tl, hy]; rfl
  constructor
  · rintro ⟨i, h1, h2⟩
    rw [PySem.StrLaws.subAt_eq, hyl] at h2
    exact ⟨i, (take2 s _ i).mp ((eq_of_beq h2).trans hy)⟩
  · rintro ⟨i, h⟩
    have hl := (List.getElem?_eq_some_iff.mp h.2).1
    refine ⟨i, by rw [hyl, TL.len_tl]; omega, ?_⟩
    rw [PySem.StrLaws.subAt_eq, hyl]
    refine beq_iff_eq.mpr ?_
    rw [show x.cps.toList = TL.tl x from rfl, (take2 s _ i).mpr h]
    exact hy.symm
theorem take1 (s : Nat) (l : List Nat) : l.take 1 = [s] ↔ l[0]? = some s := by cases l <;> simp
theorem dropL (s : Nat) (l : List Nat) : l.drop (l.length - 1) = [s] ↔ ∃ i, l[i]? = some s ∧ l[i + 1]? = none := by
  constructor
  · intro h
    refine ⟨l.length - 1, ?_, ?_⟩
    · have := congrArg (fun m : List Nat => m[0]?) h
      simpa using this
    · rw [List.getElem?_eq_none_iff]; omega
  · rintro ⟨i, h1, h2⟩
    obtain ⟨hl, e⟩ := List.getElem?_eq_some_iff.mp h1
    have hl2 := List.getElem?_eq_none_iff.mp h2
    have : i = l.length - 1 := by omega
    subst this
    rw [List.drop_eq_getElem_cons hl, e, List.drop_of_length_le (by omega)]
theorem blanks_iff (s : Nat) (l : List Nat) (h0 : l ≠ []) : (decide (l.take 1 = [s]) || (decide (l.drop (l.length - 1) = [s]) || dbl s l)) = decide ([] ∈ splitL s l) := by
  rw [Bool.eq_iff_iff, Bool.or_eq_true, Bool.or_eq_true, decide_eq_true_eq, decide_eq_true_eq, dbl_iff, decide_eq_true_eq, split_gap, take1, dropL]
  constructor
  · rintro (h | ⟨i, h1, h2⟩ | ⟨i, h1, h2⟩)
    · exact .inr (.inl h)
    · exact .inr (.inr ⟨i, h1, .inl h2⟩)
    · exact .inr (.inr ⟨i, h1, .inr h2⟩)
  · rintro (h | h | ⟨i, h1, h2 | h2⟩)
    · exact absurd h h0
    · exact .inl h
    · exact .inr (.inl ⟨i, h1, h2⟩)
    · exact .inr (.inr ⟨i, h1, h2⟩)
theorem cutS_last (z : Str) : TL.tl (cutS z (some (-1)) none) = (TL.tl z).drop ((TL.tl z).length - 1) := by
  unfold cutS
  rw [HT.sIx_none]
  have e : HT.sIx z.length 0 (some (-1)) = z.length - 1 := by
    show (if (-1 : Int) < 0 then (-1 + ((z.length : Nat) : Int)).toNat else min (-1 : Int).toNat z.length) = _
    rw [if_pos (by decide)]
    omega
  rw [e]
  show ((TL.tl z).drop (z.length - 1)).take (z.length - (z.length - 1)) = _
  rw [TL.len_tl]
  exact List.take_of_length_le (by rw [List.length_drop]; exact Nat.le_refl _)
end LH
namespace LH
open PySem PySem.Spec PyProof.Rows L2
theorem pickL {α : Type} (xs : List α) (m : Int) (h0 : 0 ≤ m) (h1 : m < xs.length) : ∃ x, x ∈ xs ∧ atI xs m = some x := by
  obtain ⟨j, rfl⟩ : ∃ j : Nat, m = (j : Int) := ⟨m.toNat, by omega⟩
  have hj : j < xs.length := by omega
  exact ⟨xs[j], List.getElem_mem hj, atI_nat (List.getElem?_eq_getElem hj)⟩
/-- a thing that is no text -/
def Odd (H : Hp) (x : V) : Prop := x = .non ∨ (∃ i, x = .int i) ∨ (∃ b, x = .bl b) ∨ ∃ a, x = .ref a ∧ ((∃ xs, H a = some (.lst xs)) ∨ (∃ xs, H a = some (.tup xs)) ∨ ∃ kvs, H a = some (.dK kvs))
theorem Odd.same {H H' : Hp} {x : V} (s : Same H H') (h : Odd H x) : Odd H' x := by
  rcases h with h | h | h | ⟨a, e, h⟩
  · exact .inl h
  · exact .inr (.inl h)
  · exact .inr (.inr (.inl h))
  · refine .inr (.inr (.inr ⟨a, e, ?_⟩))
    rcases h with ⟨xs, h⟩ | ⟨xs, h⟩ | ⟨xs, h⟩
    · exact .inl ⟨xs, s _ _ h⟩
    · exact .inr (.inl ⟨xs, s _ _ h⟩)
    · exact .inr (.inr ⟨xs, s _ _ h⟩)
theorem Odd.ty {K : PySem.W.Frag} {H : Hp} {x : V} (h : Odd H x) : ∃ t, TyX K H x t ∧ PySem.W.kitOne K t (.type "str") = some false := by
  rcases h with rfl | ⟨i, rfl⟩ | ⟨b, rfl⟩ | ⟨a, rfl, ⟨xs, h⟩ | ⟨xs, h⟩ | ⟨xs, h⟩⟩
  · exact ⟨_, .base .non, kit_ty (by decide +kernel)⟩
  · exact ⟨_, .base (.int i), kit_ty (by decide +kernel)⟩
  · exact ⟨_, .base (.bl b), kit_ty (by decide +kernel)⟩
  · exact ⟨_, .base (.lst h), kit_ty (by decide +kernel)⟩
  · exact ⟨_, .base (.tup h), kit_ty (by decide +kernel)⟩
  · exact ⟨_, .base (.dK h), kit_ty (by decide +kernel)⟩
end LH

namespace LH
open PySem PySem.Spec PySem.Calls PyProof.Rows L2
/-! ### enumerate(text) -/
/-- the signs of x, each in a new pair with its number -/
def ItES (x : Str) : It :=
  ⟨fun i _ => i < x.cps.size, fun i H v H' => ∃ T c, v = .ref T ∧ H T = none ∧ H' = upd H T (.tup [.int (i : Nat), .str ⟨#[c]⟩]) ∧ x.cps[i]? = some c, fun i _ => x.cps.size = i⟩
theorem turn_enumS {P : Program} {w : World} {K : PySem.W.Frag} {elts : List Expr} {kk : Nat} {tpos : Pos} (x : Str) (t : Tok) (e it : Addr) :
    Turn P w K (.Tuple elts kk tpos) (ItES x) [e, it] e (fun i h => (∃ old, IsEnum h e it ((i : Nat) : Int) old) ∧ h.IsStrIter it (strIterType x) x t i ∧ e ≠ it) where
  mem := by simp
  obj := fun i h st b hb => by
    obtain ⟨⟨old, he⟩, ⟨o, ho, hc, hd⟩, _⟩ := st
    have e' : b = e ∨ b = it := by simpa using hb
    rcases e' with z | z
    · rw [z]; exact ⟨_, he, fun v q => nomatch q⟩
    · rw [z]; exact ⟨o, ho, fun v q => by rw [hd] at q; cases q⟩
  keep := fun i h h' st k => let ⟨⟨old, he⟩, ⟨o, ho, r⟩, hne⟩ := st; ⟨⟨old, k e (by simp) _ he⟩, ⟨o, k it (by simp) o ho, r⟩, hne⟩
  item := by
    intro X hP hw hK hc i pins s σ H E I hf st hg
    subst hP hw hK
    obtain ⟨⟨old, he⟩, hit, hne⟩ := st
    have hel : e < s.heap.objs.size := Heap.lt_size he
    have hil : it < s.heap.objs.size := by obtain ⟨_, q, _⟩ := hit; exact Heap.lt_size q
    refine wpAny_pyNext_enum_itemD (Draws.text (A := X.A.in1) (I.ok.hd hc) it x t) he hit hg hne (by simpa using hne) fun v h' tk hv ho hit' hT hsz hk => ?_
    obtain ⟨c, u, hcx, rfl⟩ := hv
    refine ⟨_, rfl, wpAny_letOwnedTupleGo_enum (s := { s with heap := h', toks := tk + 1 }) ho fun h'' he' sb => ?_⟩
    have hT2 : h''.get? s.heap.objs.size = some { cls := .type "tuple", data := .seq #[.int i tk, .str ⟨#[c]⟩ u] } := (sb.2 _ (Nat.ne_of_gt hel)).trans hT
    have new : ObjOk X.prog X.w (upd H s.heap.objs.size (.tup [.int (i : Nat), .str ⟨#[c]⟩])) h'' s.heap.objs.size (.tup [.int (i : Nat), .str ⟨#[c]⟩]) :=
      ⟨by show 2 ≤ sizeLine; decide, [.int i tk, .str ⟨#[c]⟩ u], .cons ⟨_, rfl⟩ (.cons ⟨_, rfl⟩ .nil), ⟨_, hT2, rfl, _, rfl⟩⟩
    have I1 : Inv X pins σ (upd H s.heap.objs.size (.tup [.int (i : Nat), .str ⟨#[c]⟩])) { s with heap := h'', toks := tk + 1 } :=
      I.turnedNew (ch := [e, it]) (fun b ob hb q => (sb.2 b (fun z => hb (by simp [z]))).trans (hk b ob (fun z => hb (by simp [z])) (fun z => hb (by simp [z])) q)) hf (Nat.le_refl _) new
    refine ⟨.ref s.heap.objs.size, _, I1, rfl, ⟨_, c, rfl, I.hok.fresh (Nat.le_refl _), rfl, hcx⟩, ⟨⟨.str ⟨#[c]⟩ u, ?_⟩, ?_, hne⟩, fun b hb => ?_⟩
    · have e1 : ((i + 1 : Nat) : Int) = (i : Int) + 1 := by omega
      rw [e1]; exact he'
    · obtain ⟨o, ho', r⟩ := hit'
      exact ⟨o, (sb.2 it (Ne.symm hne)).trans ho', r⟩
    · have hb' : b < s.heap.objs.size := by
        have e' : b = e ∨ b = it := by simpa using hb
        rcases e' with z | z
        · rw [z]; exact hel
        · rw [z]; exact hil
      rw [upd_ne (Nat.ne_of_lt hb')]
      exact (hf b hb).1
  done := by
    intro X hP hw hK hc i pins s σ H E I hf st hg
    subst hP hw hK
    obtain ⟨⟨old, he⟩, hit, hne⟩ := st
    obtain ⟨f0, f1, f2, f3, f4, f5⟩ := hf it (by simp)
    have heq : x.cps.size = i := hg
    subst heq
    exact wpAny_pyNext_enum_endD (Draws.text (A := X.A.in1) (I.ok.hd hc) it x t) he hit fun h' eb => ⟨rfl, I.turned (t' := s.toks) (fun b o hb q => eb b o hb q) f0 f1 f3 f4 f5⟩
  self := fun A i s Q E st h => let ⟨⟨_, he⟩, _⟩ := st; wpAny_pyIter_enum he h
def iEnumS (ta : TA) : TI := fun σ H R => ta σ H fun vs H1 => ∃ x, vs = [.str x] ∧ R (ItES x) H1
theorem pi_enumS {X : Cx} {e : Expr} {ta : TA} {p pos tpos : Pos} {elts : List Expr} {kk : Nat} (hg : Gl X "enumerate") (hm : X.mg "enumerate" = none) (ha : PA X [e] ta) (hs : starEach [e] X.env = [(false, eval e X.env)] := by rfl) :
    PI X (.Tuple elts kk tpos) (.Call (.Name "enumerate" p) [e] [] pos) (iEnumS ta) := by
  refine ⟨fun pins s σ H R I h => ?_⟩
  refine Call_ (ld_blt I hg hm boot_enumerate (PyProof.Rows.callWith_type1 (thn (ha.run pos pins s σ H _ I h) fun us s1 ⟨vs, H1, I1, r1, q1⟩ => ?_) hs rfl))
  obtain ⟨x, ex, q⟩ := q1
  subst ex
  cases r1 with
  | cons r rr =>
    cases rr
    obtain ⟨t, rfl⟩ := r
    refine call_enumerate_str fun h' he hit hsz hk => wpAny_pyIter_enum he ?_
    have I2 : Inv X pins σ H1 { s1 with heap := h' } := I1.kept (t' := s1.toks) hk
    refine ⟨s1.heap.objs.size + 1, [s1.heap.objs.size + 1, s1.heap.objs.size], _, _, H1, rfl, I2, turn_enumS x t (s1.heap.objs.size + 1) s1.heap.objs.size, ⟨⟨.none, he⟩, hit, Nat.succ_ne_self _⟩, fun b hb => ?_, q⟩
    have e' : b = s1.heap.objs.size + 1 ∨ b = s1.heap.objs.size := by simpa using hb
    have hle : s1.heap.objs.size ≤ b := by
      rcases e' with z | z
      · rw [z]; exact Nat.le_add_right _ _
      · rw [z]; exact Nat.le_refl _
    exact I1.fpOk hle (I1.hok.fresh hle)
theorem walk_enumS {x : Str} : Walk (ItES x) (TL.tl x).length (fun _ => True) (YPair (fun i => some (.int (i : Nat))) (fun i => some (.str ⟨#[(TL.tl x).getD i 0]⟩))) := by
  have e : (TL.tl x).length = x.cps.size := Array.length_toList
  rw [e]
  refine ⟨fun i _ hi q => hi, fun _ q => rfl, fun i H v H' _ q y => ?_⟩
  obtain ⟨T, c, h1, h2, h3, h4⟩ := y
  have : (TL.tl x)[i]? = some c := by rw [← h4]; exact Array.getElem?_toList
  exact ⟨T, .int (i : Nat), .str ⟨#[c]⟩, h1, h2, h3, rfl, by show some (V.str ⟨#[(TL.tl x).getD i 0]⟩) = _; rw [List.getD_eq_getElem?_getD, this]; rfl⟩
end LH

namespace LH
open PySem PySem.Spec PyProof.Rows L2
/-! ### tests told by their truth; an if by its two branches -/
def TellB (H : Hp) (c : Bool) (k : Bool → Hp → Prop) : Prop := ∀ H1, Same H H1 → k c H1
section
variable {t u : TT} {σ : L2.St} {H : Hp} {k : Bool → Hp → Prop}
theorem orT (c d : Bool) (ha : ∀ k', TellB H c k' → t σ H k') (hb : c = false → ∀ H1 k', Same H H1 → TellB H1 d k' → u σ H1 k') (q : TellB H (c || d) k) : tOr t u σ H k := by
  refine ha _ fun H1 s1 => ?_
  cases c with
  | true => exact iteT (q H1 s1)
  | false => exact iteF (hb rfl H1 k s1 fun H2 s2 => q H2 (s1.trans s2))
theorem andT (c d : Bool) (ha : ∀ k', TellB H c k' → t σ H k') (hb : c = true → ∀ H1 k', Same H H1 → TellB H1 d k' → u σ H1 k') (q : TellB H (c && d) k) : tAnd t u σ H k := by
  refine ha _ fun H1 s1 => ?_
  cases c with
  | true => exact iteT (hb rfl H1 k s1 fun H2 s2 => q H2 (s1.trans s2))
  | false => exact iteF (q H1 s1)
theorem notT (c : Bool) (ha : ∀ k', TellB H c k' → t σ H k') (q : TellB H (!c) k) : tNot t σ H k := ha _ fun H1 s1 => q H1 s1
theorem ifT {tc : TT} {t u : TS} {D : Ends} (c : Bool) (hc : ∀ k', TellB H c k' → tc σ H k') (ht : c = true → ∀ H1, Same H H1 → t D σ H1) (hf : c = false → ∀ H1, Same H H1 → u D σ H1) : tIfS tc t u D σ H := by
  refine hc _ fun H1 s1 => ?_
  cases c with
  | true => exact iteT (ht rfl H1 s1)
  | false => exact iteF (hf rfl H1 s1)
theorem ifK {tc : TT} {t u : TS} {D : Ends} (G : ∀ D' : Ends, D' = D → tIfS tc t u D' σ H) : tIfS tc t u D σ H := G D rfl
theorem TellB.eq {c d : Bool} (h : c = d) (q : TellB H d k) : TellB H c k := h ▸ q
end
/-! ### lengths and signs of slices -/
theorem cutTo_len (z : Str) (p : Nat) : (cutS z none (some (p : Int))).length = min p z.length := by rw [cutS_to, mk_len, List.length_take, ← TL.len_tl]
theorem cutFrom_len (z : Str) (p : Nat) : (cutS z (some (p : Int)) none).length = z.length - p := by rw [cutS_from, mk_len, List.length_drop, ← TL.len_tl]
theorem mem_cut {z : Str} {lo hi : Option Int} {c : Nat} (h : c ∈ TL.tl (cutS z lo hi)) : c ∈ TL.tl z := List.mem_of_mem_drop (List.mem_of_mem_take h)
theorem cutV_from (z : List V) (a : Nat) : cutV z (some (a : Int)) none = z.drop a := by
  have e : cutV z (some (a : Int)) none = cutV z (some (a : Int)) (some ((z.length : Nat) : Int)) := by
    unfold cutV
    rw [HT.sIx_none, HT.sIx_nat, HT.sIx_nat]
    simp
  rw [e, cutV_at, List.take_of_length_le (by simp)]
theorem vint_dec (a b : Int) : decide (V.int a = V.int b) = decide (a = b) := decide_eq_decide.mpr ⟨V.int.inj, congrArg _⟩
theorem vstr_dec (a b : Str) : decide (V.str a = V.str b) = decide (a = b) := decide_eq_decide.mpr ⟨V.str.inj, congrArg _⟩
theorem or_false' {a b : Bool} (h : (a || b) = false) : a = false ∧ b = false := by cases a <;> cases b <;> simp_all
end LH
namespace LH
open PySem PySem.Spec PyProof.Rows L2
/-! ### while, its test told by its truth -/
theorem whileT {c : TT} {tb : TS} {D : Ends} {σ : L2.St} {H : Hp} (Pv : L2.St → Hp → Prop) (μ : L2.St → Hp → Nat) (h0 : Pv σ H)
    (hs : ∀ σ H, Pv σ H → ∃ b : Bool, (∀ k, TellB H b k → c σ H k) ∧ (b = true → ∀ H1, Same H H1 → tb { D with nx := fun σ' H' => Pv σ' H' ∧ μ σ' H' < μ σ H, ct := fun σ' H' => Pv σ' H' ∧ μ σ' H' < μ σ H, bk := D.nx } σ H1) ∧ (b = false → ∀ H1, Same H H1 → D.nx σ H1)) : tWhile c tb D σ H := by
  refine ⟨fun m σ H => m = μ σ H ∧ Pv σ H, ⟨_, rfl, h0⟩, ?_⟩
  rintro m σ H ⟨rfl, p⟩
  obtain ⟨b, ht, h1, h2⟩ := hs σ H p
  refine ht _ fun H1 s1 => ?_
  cases b with
  | true => exact ⟨_, fun σ' H' ⟨p', l⟩ => ⟨_, l, rfl, p'⟩, h1 rfl H1 s1⟩
  | false => exact h2 rfl H1 s1
end LH

namespace LH
open PySem PySem.Spec PyProof.Rows L2
/-! ### a comprehension over two clauses, the second one over a new list that the first one's item leads to -/
theorem lc_two {K : PySem.W.Frag} {J : It} {n : Nat} {G : Hp → Prop} {wi1 : TI} {te : TE} {c c1 : Nat} {σ : L2.St} {H1 : Hp} {D : Addr} {Qd : Hp → Prop} (xs : Nat → V) (ys : Nat → List V) (f : Nat → Nat → V) (hne : c ≠ c1) (w : Walk J n G (YFn xs)) (hG : ∀ H, Same H1 H → G H) (hD : H1 D = none)
    (hn : ∀ i, i ≤ n → (((List.range i).map fun i => (List.range (ys i).length).map (f i)).flatten).length ≤ sizeLine)
    (hi : ∀ i H (R : It → Hp → Prop), i < n → Same H1 H → (∀ H' p, Same H H' → H p = none → H' p = some (.lst (ys i)) → R (Itl K p) H') → wi1 (((σ.set c1 none).set c none).set c (some (xs i))) H R)
    (he : ∀ i j H Q, i < n → j < (ys i).length → Same H1 H → Tell H (f i j) Q → te (((((σ.set c1 none).set c none).set c (some (xs i))).set c1 none).set c1 (some ((ys i).getD j .non))) H Q)
    (hd : ∀ H, Same H1 H → H D = some (.lst (((List.range n).map fun i => (List.range (ys i).length).map (f i)).flatten)) → Qd H) :
    ∃ W : Nat → Nat → Hp → Prop, (∃ m, W 0 m (upd H1 D (.lst []))) ∧ ∀ i m H, W i m H →
      (J.stop i H ∧ Qd H) ∨ (J.go i H ∧ ∃ Nx : Hp → Prop, (∀ H', Nx H' → ∃ m', m' < m ∧ W (i + 1) m' H') ∧ ∀ x H', J.yld i H x H' → gName c x (wipe σ [c, c1]) H' fun σ2 H2 => wipe σ2 [c, c1] = wipe σ [c, c1] ∧ tYes σ2 H2 fun b H3 =>
        if b = true then wi1 σ2 H3 fun J1 H4 => ∃ W1 : Nat → Nat → Hp → Prop, (∃ m, W1 0 m H4) ∧ ∀ j k H, W1 j k H →
          (J1.stop j H ∧ Nx H) ∨ (J1.go j H ∧ ∃ Nx1 : Hp → Prop, (∀ H', Nx1 H' → ∃ k', k' < k ∧ W1 (j + 1) k' H') ∧ ∀ x H', J1.yld j H x H' → gName c1 x (wipe σ2 [c1]) H' fun σ3 H5 => wipe σ3 [c1] = wipe σ2 [c1] ∧ tYes σ3 H5 fun b H6 =>
            if b = true then te σ3 H6 fun y H7 => ∃ acc, H7 D = some (.lst acc) ∧ acc.length < sizeLine ∧ Nx1 (upd H7 D (.lst (acc ++ [y]))) else Nx1 H6)
        else Nx H3) := by
  let A : Nat → List V := fun i => ((List.range i).map fun i => (List.range (ys i).length).map (f i)).flatten
  have hA : ∀ i, A (i + 1) = A i ++ (List.range (ys i).length).map (f i) := fun i => by
    show ((List.range (i + 1)).map _).flatten = _
    rw [List.range_succ, List.map_append, List.flatten_append]
    simp [A]
  refine ⟨fun i m H => m = n - i ∧ i ≤ n ∧ Same H1 H ∧ H D = some (.lst (A i)), ⟨n, by simp, Nat.zero_le _, same_upd hD, upd_same⟩, ?_⟩
  rintro i m H ⟨rfl, hin, sm, eD⟩
  have q := hG H sm
  by_cases hlt : i < n
  · refine .inr ⟨w.goes i H hlt q, fun H' => Same H1 H' ∧ H' D = some (.lst (A (i + 1))), fun H' p' => ⟨n - (i + 1), by omega, rfl, hlt, p'⟩, fun x H' y => ?_⟩
    obtain ⟨rfl, rfl⟩ := w.yields i H x H' hlt q y
    refine ⟨?_, ?_⟩
    · show (((((σ.set c1 none).set c none).set c (some (xs i))).set c1 none).set c none) = (σ.set c1 none).set c none
      rw [List.set_set, List.set_comm _ _ hne]
      simp only [List.set_set]
    · unfold tYes
      dsimp only
      rw [if_pos rfl]
      refine hi i H' _ hlt sm fun H4 p s4 np ep => ?_
      have hpD : p ≠ D := fun e => by rw [e, eD] at np; exact nomatch np
      have hl := hn (i + 1) hlt
      refine ⟨fun j k H => k = (ys i).length - j ∧ j ≤ (ys i).length ∧ Same H1 H ∧ H p = some (.lst (ys i)) ∧ H D = some (.lst (A i ++ ((List.range j).map (f i)))), ⟨(ys i).length, by simp, Nat.zero_le _, sm.trans s4, ep, by simpa using s4 _ _ eD⟩, ?_⟩
      rintro j k H5 ⟨rfl, hj, s5, e5, eD5⟩
      by_cases hjl : j < (ys i).length
      · refine .inr ⟨⟨ys i, (ys i)[j], .inl (.inl e5), by simp [hjl]⟩, fun H' => Same H1 H' ∧ H' p = some (.lst (ys i)) ∧ H' D = some (.lst (A i ++ ((List.range (j + 1)).map (f i)))), fun H' p' => ⟨(ys i).length - (j + 1), by omega, rfl, hjl, p'⟩, fun x H6 y => ?_⟩
        obtain ⟨rfl, hx⟩ := y
        have hx := hx (ys i) (.inl (.inl e5))
        have ex : x = (ys i).getD j .non := by rw [List.getD_eq_getElem?_getD, hx]; rfl
        subst ex
        refine ⟨?_, ?_⟩
        · show (((((((σ.set c1 none).set c none).set c (some (xs i))).set c1 none).set c1 (some ((ys i).getD j .non)))).set c1 none) = (((σ.set c1 none).set c none).set c (some (xs i))).set c1 none
          rw [List.set_set, List.set_set]
        · rw [if_pos rfl]
          refine he i j H6 _ hlt hjl s5 fun H7 s7 => ⟨_, s7 _ _ eD5, ?_, ?_, ?_, ?_⟩
          · have e1 : (A (i + 1)).length ≤ sizeLine := hl
            rw [hA, List.length_append, List.length_map, List.length_range] at e1
            rw [List.length_append, List.length_map, List.length_range]
            omega
          · intro b o hb
            rw [upd_ne (ne_of_none hb hD)]
            exact s7 _ _ (s5 _ _ hb)
          · rw [upd_ne hpD]
            exact s7 _ _ e5
          · rw [upd_same, List.range_succ, List.map_append, List.append_assoc]
            rfl
      · have hj2 : j = (ys i).length := by omega
        subst hj2
        refine .inl ⟨⟨ys i, .inl (.inl e5), Nat.le_refl _⟩, s5, ?_⟩
        rw [hA]
        exact eD5
  · have e : i = n := by omega
    subst e
    exact .inl ⟨w.stops H q, hd H sm eD⟩
end LH
namespace LH
open PySem PySem.Spec PyProof.Rows L2
theorem cutV_last (z : List V) : cutV z (some (-1)) none = z.drop (z.length - 1) := by
  unfold cutV
  rw [HT.sIx_none]
  have e : HT.sIx z.length 0 (some (-1)) = z.length - 1 := by
    show (if (-1 : Int) < 0 then (-1 + (z.length : Int)).toNat else min (-1 : Int).toNat z.length) = _
    rw [if_pos (by decide)]
    omega
  rw [e, List.take_of_length_le]
  rw [List.length_drop]
  exact Nat.le_refl _
theorem drop_last_eq {α : Type} (l : List α) (x : α) : l.drop (l.length - 1) = [x] ↔ l.getLast? = some x := by
  rcases List.eq_nil_or_concat l with h | ⟨L, y, h⟩
  · subst h; simp
  · rw [List.concat_eq_append] at h
    subst h
    rw [List.length_append, List.length_singleton, Nat.add_sub_cancel, List.drop_left, List.getLast?_concat]
    simp
end LH
namespace LH
open PySem PySem.Spec PyProof.Rows L2
theorem pi_listK {X : Cx} {tg e : Expr} {te : TE} (K : PySem.W.Frag) (he : PE X e te) (h : X.K = K := by rfl) : PI X tg e (iList K te) := h ▸ pi_list he
end LH

namespace LH
open PySem PySem.Spec PyProof.Rows L2
/-! ### o[i] op= e of a list -/
def rGetL (K : PySem.W.Frag) : V → V → Hp → VK → Prop := fun o i H Q => ∃ p xs k v, o = .ref p ∧ i = .int k ∧ SqL K H p xs ∧ atI xs k = some v ∧ Q v H
theorem get_list {X : Cx} : PGet X (rGetL X.K) := by
  intro pins s σ H x y v u Q I rx ry h
  obtain ⟨p, xs, i, z, rfl, rfl, hq, he, q⟩ := h
  cases rx
  obtain ⟨t, rfl⟩ := ry
  obtain ⟨its, r, pl, hz⟩ := I.list hq
  obtain ⟨j, h1, h2, h3, h4, h5⟩ := atI_get he
  obtain ⟨w, ew, rw'⟩ := r.get h2
  have hl := r.length
  have hn := line63
  have fin : EP X pins σ Q w s := ⟨z, H, I, rw', q⟩
  by_cases h0 : 0 ≤ i
  · have hj : i.toNat = j := by
      rw [seqIndex_of h0 h5] at h1
      exact Option.some.inj h1
    exact wpAny_getItem_list pl.isList h0 (by omega) (by rw [hj]; simpa using ew) fin
  · have hj : (i + (its.toArray.size : Int)).toNat = j := by
      rw [seqIndex_neg (by omega) h4] at h1
      rw [List.size_toArray, ← hl]
      exact Option.some.inj h1
    exact wpAny_getItem_list_neg pl.isList (by omega) (by rw [List.size_toArray] <;> omega) (by omega) (by rw [hj]; simpa using ew) fin
theorem get_listK {X : Cx} (K : PySem.W.Frag) (h : X.K = K := by rfl) : PGet X (rGetL K) := h ▸ get_list
theorem ixN_last {α : Type} (xs : List α) (v : α) : ixN (xs ++ [v]).length (-1) = some xs.length := by
  have hl : (xs ++ [v]).length = xs.length + 1 := by simp
  unfold ixN
  rw [hl, if_neg (by decide), if_pos (by omega)]
  congr 1
  omega
theorem set_last {α : Type} (xs : List α) (v u : α) : (xs ++ [v]).set xs.length u = xs ++ [u] := by
  rw [List.set_append_right _ _ (Nat.le_refl _), Nat.sub_self]
  rfl
/-! ### small letters made great -/
def Sm (l : List Nat) : Prop := ∀ c ∈ l, 97 ≤ c ∧ c ≤ 122
def cap : List Nat → List Nat
  | [] => []
  | c :: r => (c - 32) :: r
theorem title_small {c : Nat} (h : 97 ≤ c ∧ c ≤ 122) : Unicode.titleOf c = [c - 32] := by
  have : ∀ d : Fin 26, Unicode.titleOf (97 + d.val) = [97 + d.val - 32] := by decide +kernel
  have e := this ⟨c - 97, by omega⟩
  rwa [show 97 + (c - 97) = c by omega] at e
theorem upper_small {c : Nat} (h : 97 ≤ c ∧ c ≤ 122) : Unicode.upperOf c = [c - 32] := by
  have : ∀ d : Fin 26, Unicode.upperOf (97 + d.val) = [97 + d.val - 32] := by decide +kernel
  have e := this ⟨c - 97, by omega⟩
  rwa [show 97 + (c - 97) = c by omega] at e
theorem lower_small {c : Nat} (h : 97 ≤ c ∧ c ≤ 122) : Unicode.lowerOf c = [c] := by
  have : ∀ d : Fin 26, Unicode.lowerOf (97 + d.val) = [97 + d.val] := by decide +kernel
  have e := this ⟨c - 97, by omega⟩
  rwa [show 97 + (c - 97) = c by omega] at e
theorem tl_placed (x : Str) (f : Nat → Nat → List Nat) : TL.tl ⟨placed x f⟩ = ((TL.tl x).mapIdx f).flatten := by
  unfold placed TL.tl
  simp only [Array.toList_flatten, Array.toList_mapIdx]
  congr 1
  apply List.ext_getElem?
  intro i
  rw [List.getElem?_map, List.getElem?_mapIdx, List.getElem?_mapIdx]
  cases x.cps.toList[i]? <;> rfl
theorem mapIdx_same {f g : Nat → Nat → List Nat} : ∀ l : List Nat, (∀ i c, l[i]? = some c → f i c = g i c) → l.mapIdx f = l.mapIdx g := fun l h => by
  apply List.ext_getElem?
  intro i
  rw [List.getElem?_mapIdx, List.getElem?_mapIdx]
  cases e : l[i]? with
  | none => rfl
  | some c => exact congrArg some (h i c e)
theorem flat_one : ∀ l : List Nat, (l.mapIdx fun _ c => [c]).flatten = l := by
  intro l
  rw [List.mapIdx_eq_zipIdx_map]
  induction l with
  | nil => rfl
  | cons c r ih =>
    have : ∀ (l : List Nat) (n : Nat), ((l.zipIdx n).map fun (p : Nat × Nat) => [p.1]).flatten = l := by
      intro l
      induction l with
      | nil => intro n; rfl
      | cons c r ih => intro n; rw [List.zipIdx_cons, List.map_cons, List.flatten_cons, ih]; rfl
    exact this _ 0
theorem cap_eq (x : Str) (h : Sm (TL.tl x)) : TL.tl (Txt.capitalize x) = cap (TL.tl x) := by
  unfold Txt.capitalize
  by_cases h0 : (x.length == 0) = true
  · rw [if_pos h0]
    have : TL.tl x = [] := by
      have e := eq_of_beq h0
      rw [TL.len_tl] at e
      exact List.length_eq_zero_iff.mp e
    rw [this]
    rfl
  · rw [if_neg h0]
    unfold Txt.capitalized
    rw [tl_placed, mapIdx_same (g := fun i c => if i = 0 then [c - 32] else [c]) _ fun i c hc => ?_]
    · cases e : TL.tl x with
      | nil => rfl
      | cons c r =>
        rw [List.mapIdx_cons, List.flatten_cons]
        show [c - 32] ++ _ = (c - 32) :: r
        have : (r.mapIdx fun i c => if i + 1 = 0 then [c - 32] else [c]) = r.mapIdx fun _ c => [c] := mapIdx_same r fun i c _ => if_neg (by omega)
        rw [this, flat_one]
        rfl
    · have hm := h c (List.mem_of_getElem? hc)
      by_cases hi : i = 0
      · subst hi
        exact title_small hm
      · have hb : (i == 0) = false := by simpa using hi
        rw [if_neg hi]
        show (if (i == 0) = true then Unicode.titleOf c else Unicode.lowerAt x.cps i) = [c]
        rw [hb, if_neg Bool.false_ne_true]
        unfold Unicode.lowerAt
        have ec : x.cps[i]? = some c := by rw [← hc]; exact Array.getElem?_toList.symm
        rw [ec]
        show (if (c == 0x3A3 && Unicode.endsWord x.cps i) = true then [0x3C2] else Unicode.lowerOf c) = [c]
        have hb2 : (c == 0x3A3) = false := by simp; omega
        rw [hb2, Bool.false_and, if_neg Bool.false_ne_true]
        exact lower_small hm
theorem upper_eq (x : Str) (h : Sm (TL.tl x)) : TL.tl (Txt.upper x) = (TL.tl x).map fun c => c - 32 := by
  unfold Txt.upper
  rw [tl_placed, mapIdx_same (g := fun _ c => [c - 32]) _ fun i c hc => upper_small (h c (List.mem_of_getElem? hc))]
  generalize TL.tl x = l
  have : (l.mapIdx fun _ c => [c - 32]) = (l.map fun c => c - 32).mapIdx fun _ c => [c] := by
    apply List.ext_getElem?
    intro i
    rw [List.getElem?_mapIdx, List.getElem?_mapIdx, List.getElem?_map]
    cases l[i]? <;> rfl
  rw [this, flat_one]
theorem upper_cap (x : Str) (h : Sm (TL.tl x)) : TL.tl (Txt.upper (cutS x none (some 1)) ++ cutS x (some 1) none) = cap (TL.tl x) := by
  have e1 : TL.tl (cutS x none (some 1)) = (TL.tl x).take 1 := by rw [show (1 : Int) = ((1 : Nat) : Int) from rfl, cutS_to]
  have e2 : TL.tl (cutS x (some 1) none) = (TL.tl x).drop 1 := by rw [show (1 : Int) = ((1 : Nat) : Int) from rfl, cutS_from]
  rw [TL.tl_append, upper_eq _ (by rw [e1]; exact fun c hc => h c (List.mem_of_mem_take hc)), e1, e2]
  cases TL.tl x with
  | nil => rfl
  | cons c r => simp [cap]
theorem cap_len (l : List Nat) : (cap l).length = l.length := by cases l <;> rfl
/-! ### words of a text -/
/-- a word's signs: none of them a blank -/
def WordL (l : List Nat) : Prop := l ≠ [] ∧ ∀ c ∈ l, 33 ≤ c ∧ c ≤ 126 ∧ c ≠ 37
theorem space_no {c : Nat} (h : 33 ≤ c ∧ c ≤ 126) : Unicode.isSpace c = false := by
  have : ∀ d : Fin 94, Unicode.isSpace (33 + d.val) = false := by decide +kernel
  have e := this ⟨c - 33, by omega⟩
  rwa [show 33 + (c - 33) = c by omega] at e
theorem words_join (ws : List Str) (h : ∀ x ∈ ws, WordL (TL.tl x)) (sp : Str) (hs : TL.tl sp = [32]) : Txt.words (Txt.join sp ws) = ws := by
  refine TL.map_tl_inj ?_
  rw [TL.words_tl, TL.join_eq, TL.tl_join, hs]
  cases ws with
  | nil => rfl
  | cons x r =>
    rw [TL.wfold_join _ _ (by simp) fun p hp => ?_, List.nil_append]
    obtain ⟨y, hy, rfl⟩ := List.mem_map.mp hp
    exact ⟨(h y hy).1, fun c hc => space_no ⟨((h y hy).2 c hc).1, ((h y hy).2 c hc).2.1⟩⟩
/-! ### joined by a sign and split there again -/
theorem splitL_app (s : Nat) (w r : List Nat) (hw : s ∉ w) : splitL s (w ++ s :: r) = w :: splitL s r := by
  induction w with
  | nil => simp [splitL]
  | cons c w ih =>
    have hc : c ≠ s := fun h => hw (by rw [h]; exact List.mem_cons_self)
    have ih' := ih fun h => hw (List.mem_cons_of_mem _ h)
    show splitL s (c :: (w ++ s :: r)) = _
    rw [splitL, if_neg hc, ih']
    rfl
theorem splitL_self (s : Nat) (w : List Nat) (hw : s ∉ w) : splitL s w = [w] := by
  induction w with
  | nil => rfl
  | cons c w ih =>
    have hc : c ≠ s := fun h => hw (by rw [h]; exact List.mem_cons_self)
    rw [splitL, if_neg hc, ih fun h => hw (List.mem_cons_of_mem _ h)]
    rfl
theorem splitL_join (s : Nat) : ∀ ps : List (List Nat), ps ≠ [] → (∀ p ∈ ps, s ∉ p) → splitL s (TL.joinL [s] ps) = ps
  | [], h, _ => absurd rfl h
  | [p], _, h => splitL_self s p (h p (by simp))
  | p :: q :: r, _, h => by
    rw [TL.joinL]
    show splitL s (p ++ s :: TL.joinL [s] (q :: r)) = _
    rw [splitL_app s p _ (h p (by simp)), splitL_join s (q :: r) (by simp) fun x hx => h x (List.mem_cons_of_mem _ hx)]
/-! ### a header's rows -/
def hstep (st : List (List Nat) × List Nat) (w : List Nat) : List (List Nat) × List Nat :=
  if 60 < st.2.length + 1 + w.length then (st.1 ++ [st.2], 32 :: w) else (st.1, st.2 ++ 32 :: w)
def great (l : List Nat) : List Nat := TL.joinL [45] ((splitL 45 l).map cap)
def hfold (l : List Nat) (ws : List (List Nat)) : List (List Nat) × List Nat := ws.foldl hstep ([], great l ++ [58])
def hrows (l : List Nat) (ws : List (List Nat)) : List (List Nat) := (hfold l ws).1 ++ [(hfold l ws).2]
def strL (ls : List (List Nat)) : List Str := ls.map fun l => ⟨l.toArray⟩
theorem strL_app (a b : List (List Nat)) : strL (a ++ b) = strL a ++ strL b := by unfold strL; rw [List.map_append]
theorem hfold_snoc (l : List Nat) (ws : List (List Nat)) (w : List Nat) : hfold l (ws ++ [w]) = hstep (hfold l ws) w := by
  unfold hfold
  rw [List.foldl_append]
  rfl
theorem foldl_rev_ind {P : List (List Nat) → Prop} (h0 : P []) (hs : ∀ ws w, P ws → P (ws ++ [w])) : ∀ ws, P ws := by
  intro ws
  have key : ∀ r : List (List Nat), P r.reverse := by
    intro r
    induction r with
    | nil => exact h0
    | cons w r ih => rw [List.reverse_cons]; exact hs _ _ ih
  have := key ws.reverse
  rwa [List.reverse_reverse] at this
theorem hfold_len (l : List Nat) (hl : (great l).length ≤ 59) : ∀ ws : List (List Nat), (∀ w ∈ ws, w.length ≤ 59) → (hfold l ws).2.length ≤ 60 ∧ (∀ r ∈ (hfold l ws).1, r.length ≤ 60) ∧ (hfold l ws).1.length ≤ ws.length := by
  refine foldl_rev_ind (P := fun ws => (∀ w ∈ ws, w.length ≤ 59) → (hfold l ws).2.length ≤ 60 ∧ (∀ r ∈ (hfold l ws).1, r.length ≤ 60) ∧ (hfold l ws).1.length ≤ ws.length) ?_ ?_
  · intro _
    refine ⟨?_, (fun r hr => by cases hr), Nat.le_refl _⟩
    show (great l ++ [58]).length ≤ 60
    rw [List.length_append, List.length_singleton]
    omega
  · intro ws w ih h
    obtain ⟨h1, h2, h3⟩ := ih fun x hx => h x (by simp [hx])
    have hw := h w (by simp)
    rw [hfold_snoc]
    unfold hstep
    split
    · refine ⟨by simp only [List.length_cons]; omega, fun r hr => ?_, by simp only [List.length_append, List.length_singleton]; omega⟩
      rcases List.mem_append.mp hr with hr | hr
      · exact h2 r hr
      · rw [List.mem_singleton.mp hr]; exact h1
    · refine ⟨by simp only [List.length_append, List.length_cons]; omega, h2, by simp only [List.length_append, List.length_singleton]; omega⟩
theorem hfold_ok (l : List Nat) (hl : ∀ c ∈ great l, c < 1114112) : ∀ ws : List (List Nat), (∀ w ∈ ws, ∀ c ∈ w, c < 1114112) → (∀ c ∈ (hfold l ws).2, c < 1114112) ∧ ∀ r ∈ (hfold l ws).1, ∀ c ∈ r, c < 1114112 := by
  refine foldl_rev_ind (P := fun ws => (∀ w ∈ ws, ∀ c ∈ w, c < 1114112) → (∀ c ∈ (hfold l ws).2, c < 1114112) ∧ ∀ r ∈ (hfold l ws).1, ∀ c ∈ r, c < 1114112) ?_ ?_
  · intro _
    refine ⟨fun c hc => ?_, fun r hr => by cases hr⟩
    rcases List.mem_append.mp (show c ∈ great l ++ [58] from hc) with h | h
    · exact hl c h
    · rw [List.mem_singleton.mp h]; decide
  · intro ws w ih h
    obtain ⟨h1, h2⟩ := ih fun x hx => h x (by simp [hx])
    have hw := h w (by simp)
    have hw' : ∀ c ∈ 32 :: w, c < 1114112 := fun c hc => by
      rcases List.mem_cons.mp hc with rfl | hc
      · decide
      · exact hw c hc
    rw [hfold_snoc]
    unfold hstep
    split
    · refine ⟨hw', fun r hr => ?_⟩
      rcases List.mem_append.mp hr with hr | hr
      · exact h2 r hr
      · rw [List.mem_singleton.mp hr]; exact h1
    · refine ⟨fun c hc => ?_, h2⟩
      rcases List.mem_append.mp hc with h | h
      · exact h1 c h
      · exact hw' c h
end LH

set_option maxHeartbeats 2000000
namespace LH
open PySem PySem.Spec PyProof.Rows L2
/-! ### an exception that is caught and held as a value -/
/-- the exception object at a: its class, its own dict -/
def ExH (cls : Value) (d : Option Addr) (a : Addr) : HO := .ext fun h => ∃ (oe : Obj) (fv : Array Value), h.get? a = some oe ∧ (oe.cls = cls ∧ oe.dict = d) ∧ oe.data = .fields fv
section
variable {X : Cx} {pins : List (Addr × Obj)} {σ : L2.St} {H : Hp} {s : Shared}
theorem hold_inv {a : Addr} {oe : Obj} {fv : Array Value} {cls : Value} {d : Option Addr} (I : Inv X pins σ H s) (ha : s.heap.get? a = some oe) (hz : Zc cls d oe) (hd : oe.data = .fields fv) (na : H a = none) (nL : a ≠ X.env.locals)
    (n0 : X.s_0.heap.get? a = none) (np : ∀ p ∈ X.pn ++ pins, p.1 ≠ a) : Inv X pins σ (upd H a (ExH cls d a)) s := by
  have far : ∀ {b : Addr} {u : HO}, H b = some u → b ≠ a := fun e => ne_of_none e na
  have old : ∀ {b : Addr} {o : Obj}, X.s_0.heap.get? b = some o → b ≠ a := fun {b o} e z => by
    subst z
    rw [n0] at e
    exact nomatch e
  have noCell : ∀ {y : Str} {c : Addr}, X.env.cells.lookup y = some c → c ≠ a := fun {y c} e z => by
    obtain ⟨v, o, ho, hv⟩ := I.cell y c e
    subst z
    rw [ha] at ho
    cases ho
    rw [hd] at hv
    exact nomatch hv
  have keepU : ∀ {b : Addr} {u : HO}, H b = some u → upd H a (ExH cls d a) b = some u := fun e => (upd_ne (far e)).trans e
  have base' : Un X.fs X.ex X.H_0 (upd H a (ExH cls d a)) X.s_0.heap s.heap :=
    { keep := I.base.keep, slot := I.base.slot, there := I.base.there, free := fun b o e n hx => (upd_ne (old e)).trans (I.base.free b o e n hx), tups := fun b xs e => keepU (I.base.tups b xs e), frzs := fun b o u e => keepU (I.base.frzs b o u e),
      tbls := fun b ps e => (I.base.tbls b ps e).imp fun _ q => keepU q }
  have hok' : HOk X.prog X.w (upd H a (ExH cls d a)) s.heap := fun b ob e => by
    by_cases hb : b = a
    · subst hb
      rw [upd_same] at e
      cases e
      exact ⟨⟨oe, fv, ha, hz, hd⟩, ⟨oe, ha⟩, fun _ _ ⟨o, v, q, r⟩ k => ⟨o, v, k o q, r⟩⟩
    · rw [upd_ne hb] at e
      exact (I.hok b ob e).stay (fun _ _ _ q => q) (fun _ q => keepU q) fun _ _ q => keepU q
  exact { ok := I.ok, os := I.os, bare := I.bare, base := base', loc := I.loc, cell := I.cell, free := (upd_ne (Ne.symm nL)).trans I.free, freeC := fun y c e => (upd_ne (noCell e)).trans (I.freeC y c e),
          pin := fun p hp => ⟨(I.pin p hp).1, (upd_ne (np p hp)).trans (I.pin p hp).2.1, (I.pin p hp).2.2⟩, hok := hok', len := I.len }
/-- what such a clause wishes of the body's exception: it is of the class, and the suite's end stands with the object held -/
def wHold (K : PySem.W.Frag) (c : Value) (i : Nat) (ts : TS) (D : Ends) : WX := fun cls d σ H =>
  PySem.W.exmOne K cls c = some true ∧ ∀ a, H a = none → ts { nx := fun σ' H' => H' a = none → D.nx (σ'.set i none) (upd H' a (ExH cls d a)), rt := fun _ _ => False, bk := fun _ _ => False, ct := fun _ _ => False } (σ.set i (some (.ref a))) H
theorem ps_try_hold {x n : Str} {c : Value} {i : Nat} {body rest : List Stmt} {b0 : Stmt} {np pos pos' : Pos} {tb : WX → TS} {ts : TS} (hs : X.stack = X.env :: X.outer) (hf : X.env.frame = some X.env.locals) (hx : X.ex = []) (hN : X.N.Nodup) (hi : X.N[i]? = some n)
    (hln : X.env.kindOf n = some .local) (hc : Names X x c) (hb : ∀ (W : WX) (pn : List (Addr × Obj)) (xe : Value → Shared → Prop), Takes (X.tr pn xe) W → PassesOwn (model X.prog X.w) X.A X.env xe → PSs (X.tr pn xe) body (tb W))
    (hsu : ∀ (a : Addr) (oe : Obj) (pn : List (Addr × Obj)), PSs (X.suite a ((a, oe) :: pn)) (b0 :: rest) ts) :
    PS X (.Try body [.ExceptHandler (some (.Name x np)) (some n) (b0 :: rest) pos'] [] [] pos) (fun D σ H => tb (wHold X.K c i ts D) D σ H) := by
  constructor
  intro pins s σ H D I h
  have hok := I.ok
  have hframes : X.A.frames = some (X.env :: X.outer) := hok.frames.trans (by rw [hs])
  apply wpAny_Try_except
  refine wpAny_mono (PSs.run (hb (wHold X.K c i ts D) (X.pn ++ pins) _ (fun u s' air => ?_) PassesOwn.looking) [] s σ H D (I.toTry _) h) (fun f s1 done => ?_) (fun _ _ z => z)
  · -- an exception is in the air
    obtain ⟨a, B, sI, pins', σ1, H1, cls, d, rfl, J1, nb, up, sky, na, os, ag, fits, wish⟩ := air
    have J : Inv X pins σ1 H1 sI := Inv.ofTry J1 hok
    refine Sky.land (Z := Zc cls d) Zc.steady hframes hf (by rw [hs] at sky; exact sky) fun g fly upg => ?_
    have Jg : Inv X pins σ1 H1 { s' with heap := g } := Inv.landed J nb fly.1 (Heap.UpToSlots.trans up upg) os ag
    obtain ⟨og, fg, hog, zg, dg⟩ := HandSPX.FlyingZ.there fly
    have offFrames : a ∉ frs (X.env :: X.outer) := fun hm => by
      obtain ⟨_, o', e', hno⟩ := fly.2.2.1.mem hm
      rw [hog] at e'
      cases e'
      exact hno _ dg
    have offLocals : a ≠ X.env.locals := fun z => offFrames (List.mem_filterMap.mpr ⟨X.env, by simp, by rw [hf, z]⟩)
    have offFs : a ∉ X.fs := fun hm => by
      obtain ⟨ev, hev, q⟩ := List.mem_filterMap.mp hm
      exact offFrames (List.mem_filterMap.mpr ⟨ev, List.mem_cons_of_mem _ hev, q⟩)
    have gone : sI.heap.get? a = none := by
      cases e : sI.heap.get? a with
      | none => rfl
      | some o => exact absurd ((nb a o e (by rw [hs]; exact offFrames)).symm.trans fly.2.1) (fun z => nomatch z)
    have new0 : X.s_0.heap.get? a = none := by
      cases e : X.s_0.heap.get? a with
      | none => rfl
      | some o =>
        obtain ⟨o', e'⟩ := J.base.there a o e (by rw [hx]; exact List.not_mem_nil)
        rw [gone] at e'
        exact nomatch e'
    have offPins : ∀ p ∈ X.pn ++ pins, p.1 ≠ a := fun p hp z => by
      have e' := (J.pin p hp).1
      rw [z, gone] at e'
      exact nomatch e'
    have Sg := Inv.suite Jg hog dg na offLocals offFs
    refine wpAny_handleBy_cons (codeAny_handlers_test ?_) (fun q => nomatch q)
    have seen := PySem.W.exm_one (M := model X.prog X.w) Jg.kIn (fun A' Q' E' t k q => wpAny_typeOf_ref (k _ _ hog) (by rw [zg.1]; exact q)) fits
    have named : ∀ {Q : Value → Shared → Prop} {E : Value → Shared → Prop}, Q c { s' with heap := g } → wpAny (model X.prog X.w) (X.A.mark (some (.ref a))) (eval (.Name x np) X.env) Q E { s' with heap := g } := fun {Q E} q => by
      rcases hc with ⟨hg, hdbg, hm | ⟨hm, hv, hnn⟩⟩
      · exact ld_glob (X := X.suite a ((a, og) :: (X.pn ++ pins))) Sg hg hm q hdbg
      · exact ld_blt (X := X.suite a ((a, og) :: (X.pn ++ pins))) Sg hg hm hv q hnn hdbg
    refine named (seen.here (codeAny_handlers_suite_as (HandSPX.lands_againZ fly fun k flk upk => ?_)))
    have Jk : Inv X pins σ1 H1 { s' with heap := k } := Inv.landed J nb flk.1 (Heap.UpToSlots.trans (Heap.UpToSlots.trans up upg) upk) os ag
    obtain ⟨ok', fk, hok4, zk, dk⟩ := HandSPX.FlyingZ.there flk
    have Sk := Inv.suite Jk hok4 dk na offLocals offFs
    refine store_ok (X := X.suite a ((a, ok') :: (X.pn ++ pins))) (v := .ref a) Sk hN hi (.inl hln) rfl (fun t St' => ?_) (.inr hln)
    refine wpAny_mono ((hsu a ok' (X.pn ++ pins)).run [] t _ H1 _ St' (wish a na)) (fun fl t1 end1 => ?_) (fun _ _ z => z.elim)
    cases fl with
    | next =>
      obtain ⟨σ2, H2, S2, q2⟩ := end1
      refine gone_ok (X := X.suite a ((a, ok') :: (X.pn ++ pins))) S2 hN hi hln fun t2 S3 => ?_
      obtain ⟨e3, n3, _⟩ := S3.pin (a, ok') (by simp)
      exact ⟨_, _, hold_inv (Inv.unsuite S3 hok) e3 zk dk n3 offLocals new0 offPins, q2 n3⟩
    | brk => obtain ⟨_, _, _, q2⟩ := end1; exact q2.elim
    | cont => obtain ⟨_, _, _, q2⟩ := end1; exact q2.elim
    | ret u => obtain ⟨_, _, _, _, _, q2⟩ := end1; exact q2.elim
  · -- nothing was raised
    cases f with
    | next => obtain ⟨σ1, H1, J1, q⟩ := done; exact wpAny_execs_nil ⟨σ1, H1, Inv.ofTry J1 hok, q⟩
    | brk => obtain ⟨σ1, H1, J1, q⟩ := done; exact ⟨σ1, H1, Inv.ofTry J1 hok, q⟩
    | cont => obtain ⟨σ1, H1, J1, q⟩ := done; exact ⟨σ1, H1, Inv.ofTry J1 hok, q⟩
    | ret u => obtain ⟨v, σ1, H1, J1, r, q⟩ := done; exact ⟨v, σ1, H1, Inv.ofTry J1 hok, r, q⟩
end
end LH
namespace LH
open PySem PySem.Spec PyProof.Rows L2
/-! ### isinstance of a held exception; a walk over pairs -/
theorem getD_app_l {α : Type} (xs ys : List α) (d : α) {i : Nat} (h : i < xs.length) : (xs ++ ys).getD i d = xs.getD i d := by
  rw [List.getD_eq_getElem?_getD, List.getD_eq_getElem?_getD, List.getElem?_append_left h]
theorem getD_app_r {α : Type} (xs ys : List α) (d : α) {i : Nat} (h : xs.length ≤ i) : (xs ++ ys).getD i d = ys.getD (i - xs.length) d := by
  rw [List.getD_eq_getElem?_getD, List.getD_eq_getElem?_getD, List.getElem?_append_right h]
/-- isinstance(e, c), e a held exception of the class at D without an own dict -/
def rIsH (K : PySem.W.Frag) : List V → Hp → VK → Prop := fun xs H Q => ∃ (a D : Addr) (c : V) (cv : Value) (b : Bool), xs = [.ref a, c] ∧ H a = some (ExH (.ref D) none a) ∧ ExcC K D ∧ (∀ u, RelV c u → u = cv) ∧ PySem.W.kitOne K (.ref D) cv = some b ∧ Q (.bl b) H
theorem call_isH {X : Cx} : CallR X (.builtin "isinstance") (rIsH X.K) := by
  intro pins s σ H xs us Q I r h
  obtain ⟨a, D, c, cv, b, rfl, ha, C, hcv, e, q⟩ := h
  obtain ⟨u1, u2, rfl, r1, r2⟩ := vals2 r
  cases (show u1 = Value.ref a from r1)
  obtain rfl := hcv _ r2
  obtain ⟨⟨oe, fv, hget, ⟨h1, h2⟩, h3⟩, _, _⟩ := (show ObjOk X.prog X.w H s.heap a (ExH (.ref D) none a) from I.hok a _ ha)
  have J : PySem.W.InstAt s.heap a oe D none := by
    obtain ⟨oc, od, oda, osl⟩ := oe
    dsimp only at h1 h2 h3
    subst h1 h2 h3
    exact ⟨hget, rfl, rfl, trivial⟩
  exact PySem.W.kia_one (PySem.W.handS_kitx_exc C.hg C.hk C.hs C.hd C.ha C.hn C.ht C.hm) I.kIn J e (fun z => nomatch z) fun tk => ⟨.bl b, H, I.kept (t' := tk) fun _ _ z => z, rfl, q⟩
theorem cIsH {X : Cx} (K : PySem.W.Frag) (h : X.K = K := by rfl) : CallR X (.builtin "isinstance") (rIsH K) := h ▸ call_isH
/-- a comprehension with a test over a list of pairs (tuples that stand), its element f i -/
theorem lc_pairs {K : PySem.W.Frag} {a : Addr} {ts : List Addr} {ps : Nat → V × V} {tt : TT} {te : TE} {c1 c2 : Nat} {σ : L2.St} {H1 : Hp} {D : Addr} {Qd : Hp → Prop} (f : Nat → V) (b : Nat → Bool) (hne : c1 ≠ c2) (hL : SqL K H1 a (ts.map V.ref)) (hT : ∀ i, i < ts.length → SqT K H1 (ts.getD i 0) [(ps i).1, (ps i).2])
    (hD : H1 D = none) (hn : ts.length ≤ sizeLine)
    (ht : ∀ (i : Nat) (H : Hp) (Q : Bool → Hp → Prop), i < ts.length → Same H1 H → (∀ H', Same H H' → Q (b i) H') → tt ((((σ.set c2 none).set c1 none).set c1 (some (ps i).1)).set c2 (some (ps i).2)) H Q)
    (he : ∀ i H Q, i < ts.length → Same H1 H → b i = true → Tell H (f i) Q → te ((((σ.set c2 none).set c1 none).set c1 (some (ps i).1)).set c2 (some (ps i).2)) H Q)
    (hd : ∀ H, Same H1 H → H D = some (.lst (((List.range ts.length).filter b).map f)) → Qd H) :
    ∃ W : Nat → Nat → Hp → Prop, (∃ m, W 0 m (upd H1 D (.lst []))) ∧ ∀ i m H, W i m H →
      ((Itl K a).stop i H ∧ Qd H) ∨ ((Itl K a).go i H ∧ ∃ Nx : Hp → Prop, (∀ H', Nx H' → ∃ m', m' < m ∧ W (i + 1) m' H') ∧ ∀ x H', (Itl K a).yld i H x H' → gTup K 2 (gCons (gName c1) (gCons (gName c2) gNil)) x (wipe σ [c1, c2]) H' fun σ2 H2 => wipe σ2 [c1, c2] = wipe σ [c1, c2] ∧ tt σ2 H2 fun b H3 =>
        if b = true then te σ2 H3 fun y H4 => ∃ acc, H4 D = some (.lst acc) ∧ acc.length < sizeLine ∧ Nx (upd H4 D (.lst (acc ++ [y]))) else Nx H3) := by
  have hm : (ts.map V.ref).length = ts.length := List.length_map ..
  refine lc_it walk_list (fun i H => Same H1 H ∧ H D = some (.lst (((List.range i).filter b).map f))) ⟨same_upd hD, upd_same⟩ (fun i H _ h => h.1.seq hL) (fun i x H H' hi hP hy => ?_) (fun H h => hd H h.1 (by rw [← hm]; exact h.2))
  obtain ⟨sm, eD⟩ := hP
  obtain ⟨rfl, hx⟩ := hy
  rw [hm] at hi
  rw [List.getElem?_map, List.getElem?_eq_getElem hi] at hx
  obtain rfl := Option.some.inj hx
  have hTi := hT i hi
  rw [List.getD_eq_getElem?_getD, List.getElem?_eq_getElem hi] at hTi
  refine ⟨ts[i], _, rfl, seqT sm hTi, rfl, _, _, rfl, _, _, rfl, rfl, ?_, ?_⟩
  · show (((((σ.set c2 none).set c1 none).set c1 (some (ps i).1)).set c2 (some (ps i).2)).set c2 none).set c1 none = (σ.set c2 none).set c1 none
    rw [List.set_set, List.set_set, List.set_comm _ _ hne, List.set_set, List.set_comm _ _ hne.symm, List.set_comm _ _ hne, List.set_set]
  · refine ht i H' _ hi sm fun H2 s2 => ?_
    cases hb : b i with
    | true =>
      rw [if_pos rfl]
      refine he i H2 _ hi (sm.trans s2) hb fun H3 s3 => ⟨_, s3 _ _ (s2 _ _ eD), ?_, ?_, ?_⟩
      · rw [List.length_map]
        have := List.length_filter_le b (List.range i)
        rw [List.length_range] at this
        omega
      · intro b' o hb'
        rw [upd_ne (ne_of_none hb' hD)]
        exact s3 _ _ (s2 _ _ (sm _ _ hb'))
      · rw [upd_same, List.range_succ, List.filter_append, List.map_append]
        simp [hb]
    | false =>
      rw [if_neg Bool.false_ne_true]
      refine ⟨sm.trans s2, ?_⟩
      rw [s2 _ _ eD, List.range_succ, List.filter_append, List.map_append]
      simp [hb]
end LH
namespace LH
open PySem PySem.Spec PyProof.Rows L2
section
variable {P : Program} {w : World} {K : PySem.W.Frag} {mg : Str → Option Value} {base : Heap} {k : Nat} {f : Addr} {fd : FuncData} {ps : List Str} {sp sp' : Sp} {CX : CXT}
/-- what lets nothing out may stand where something may be let out -/
theorem fn_toX (F : FnOk P w K mg base CX0 k f fd ps sp) : FnOk P w K mg base CX k f fd ps sp :=
  ⟨F.len, fun A outer s H args us vs Q E hr he hb hv hs => codeAny_mono (F.run A outer s H args us vs Q E hr he hb hv hs) fun r s' h => by
    cases r with
    | ok r => cases r <;> exact h
    | error e => exact h.elim⟩
/-- two promises of one def -/
theorem fn_or (F : FnOk P w K mg base CX k f fd ps sp) (G : FnOk P w K mg base CX k f fd ps sp') : FnOk P w K mg base CX k f fd ps (fun vs H Q E => sp vs H Q E ∨ sp' vs H Q E) :=
  ⟨fun vs H Q E h => h.elim (F.len vs H Q E) (G.len vs H Q E), fun A outer s H args us vs Q E hr he hb hv hs => hs.elim (F.run A outer s H args us vs Q E hr he hb hv) (G.run A outer s H args us vs Q E hr he hb hv)⟩
end
end LH

namespace LH
open PySem PySem.Spec PyProof.Rows L2
/-! ### small letters of great ones -/
def lowC (c : Nat) : Nat := if 65 ≤ c ∧ c ≤ 90 then c + 32 else c
theorem lower_C {c : Nat} (h : c < 128) : Unicode.lowerOf c = [lowC c] := by
  have : ∀ d : Fin 128, Unicode.lowerOf d.val = [lowC d.val] := by decide +kernel
  exact this ⟨c, h⟩
theorem lower_eq (x : Str) (h : ∀ c ∈ TL.tl x, c < 128) : TL.tl (Txt.lower x) = (TL.tl x).map lowC := by
  unfold Txt.lower
  rw [tl_placed, mapIdx_same (g := fun _ c => [lowC c]) _ fun i c hc => ?_]
  · generalize TL.tl x = l
    have : (l.mapIdx fun _ c => [lowC c]) = (l.map lowC).mapIdx fun _ c => [c] := by
      apply List.ext_getElem?
      intro i
      rw [List.getElem?_mapIdx, List.getElem?_mapIdx, List.getElem?_map]
      cases l[i]? <;> rfl
    rw [this, flat_one]
  · have hm := h c (List.mem_of_getElem? hc)
    unfold Unicode.lowerAt
    have ec : x.cps[i]? = some c := by rw [← hc]; exact Array.getElem?_toList.symm
    rw [ec]
    show (if (c == 0x3A3 && Unicode.endsWord x.cps i) = true then [0x3C2] else Unicode.lowerOf c) = [lowC c]
    have hb2 : (c == 0x3A3) = false := by simp; omega
    rw [hb2, Bool.false_and, if_neg Bool.false_ne_true]
    exact lower_C hm
theorem low_small {c : Nat} (h : 97 ≤ c ∧ c ≤ 122) : lowC c = c := by
  unfold lowC
  rw [if_neg (by omega)]
theorem low_cap : ∀ l : List Nat, Sm l → (cap l).map lowC = l
  | [], _ => rfl
  | c :: r, h => by
    have hc := h c (by simp)
    show lowC (c - 32) :: r.map lowC = c :: r
    have e : lowC (c - 32) = c := by unfold lowC; rw [if_pos (by omega)]; omega
    have er : r.map lowC = r := by
      have : ∀ l : List Nat, Sm l → l.map lowC = l := by
        intro l
        induction l with
        | nil => intro _; rfl
        | cons d r ih => intro h; rw [List.map_cons, low_small (h d (by simp)), ih fun x hx => h x (by simp [hx])]
      exact this r fun x hx => h x (by simp [hx])
    rw [e, er]
theorem joinL_map (f : Nat → Nat) (S : List Nat) : ∀ ps : List (List Nat), (TL.joinL S ps).map f = TL.joinL (S.map f) (ps.map fun p => p.map f)
  | [] => rfl
  | [p] => rfl
  | p :: q :: r => by
    have ih := joinL_map f S (q :: r)
    rw [TL.joinL, List.map_append, List.map_append, ih]
    rfl
theorem joinL_split (s : Nat) : ∀ l : List Nat, TL.joinL [s] (splitL s l) = l
  | [] => rfl
  | c :: r => by
    have ih := joinL_split s r
    have e := splitL_eta s r
    unfold splitL
    by_cases h : c = s
    · rw [if_pos h]
      generalize splitL s r = w at *
      cases w with
      | nil => exact nomatch e
      | cons x t =>
        rw [TL.joinL, ih, h]
        rfl
    · rw [if_neg h]
      generalize splitL s r = w at *
      cases w with
      | nil => exact nomatch e
      | cons x t =>
        show TL.joinL [s] ((c :: x) :: t) = c :: r
        rw [← ih]
        cases t with
        | nil => rfl
        | cons y t => rw [TL.joinL, TL.joinL]; rfl
theorem low_great {l : List Nat} (h : ∀ x ∈ splitL 45 l, Sm x) : (great l).map lowC = l := by
  unfold great
  rw [joinL_map, List.map_map]
  have e : (splitL 45 l).map ((fun p => p.map lowC) ∘ cap) = splitL 45 l := by
    have : ∀ ws : List (List Nat), (∀ x ∈ ws, Sm x) → ws.map ((fun p => p.map lowC) ∘ cap) = ws := by
      intro ws
      induction ws with
      | nil => intro _; rfl
      | cons x r ih => intro h; rw [List.map_cons, ih fun y hy => h y (by simp [hy])]; exact congrArg (· :: r) (low_cap x (h x (by simp)))
    exact this _ h
  rw [e]
  exact joinL_split 45 l
theorem great_length {l : List Nat} (h : ∀ x ∈ splitL 45 l, Sm x) : (great l).length = l.length := by
  have := congrArg List.length (low_great h)
  rwa [List.length_map] at this
/-! ### the beginning of a row that may be a name -/
def isLet (c : Nat) : Bool := (decide (97 ≤ c) && decide (c ≤ 122)) || (decide (65 ≤ c) && decide (c ≤ 90))
def nsig : Nat → Nat → List Nat → Nat
  | _, _, [] => 0
  | w, k, c :: r => if c = 45 ∧ 0 < k ∧ w < 3 then 1 + nsig (w + 1) 0 r else if isLet c = true ∧ k < 8 then 1 + nsig w (k + 1) r else 0
theorem let_no_dash {c : Nat} (h : isLet c = true) : c ≠ 45 ∧ c ≠ 58 ∧ c < 128 := by
  unfold isLet at h
  simp only [Bool.or_eq_true, Bool.and_eq_true, decide_eq_true_eq] at h
  omega
theorem nsig_word : ∀ (p r : List Nat) (w k : Nat), (∀ c ∈ p, isLet c = true) → k + p.length ≤ 8 → nsig w k (p ++ r) = p.length + nsig w (k + p.length) r
  | [], r, w, k, _, _ => by simp
  | c :: p, r, w, k, h, hl => by
    have hc := h c (by simp)
    have hd := let_no_dash hc
    rw [List.length_cons] at hl
    rw [List.cons_append, nsig, if_neg (fun z => hd.1 z.1), if_pos ⟨hc, by omega⟩, nsig_word p r w (k + 1) (fun x hx => h x (by simp [hx])) (by omega), List.length_cons, show k + 1 + p.length = k + (p.length + 1) by omega]
    omega
theorem nsig_join (r : List Nat) : ∀ (ps : List (List Nat)) (w : Nat), ps ≠ [] → w + ps.length ≤ 4 → (∀ p ∈ ps, (∀ c ∈ p, isLet c = true) ∧ 1 ≤ p.length ∧ p.length ≤ 8) → nsig w 0 (TL.joinL [45] ps ++ 58 :: r) = (TL.joinL [45] ps).length
  | [], _, h, _, _ => absurd rfl h
  | [p], w, _, _, h => by
    have hp := h p (by simp)
    show nsig w 0 (p ++ 58 :: r) = p.length
    rw [nsig_word p _ w 0 hp.1 (by omega), nsig, if_neg (fun z => absurd z.1 (by decide)), if_neg (fun z => absurd z.1 (by decide))]
    rfl
  | p :: q :: t, w, _, hl, h => by
    have hp := h p (by simp)
    rw [List.length_cons, List.length_cons] at hl
    have ih := nsig_join r (q :: t) (w + 1) (by simp) (by rw [List.length_cons]; omega) fun x hx => h x (List.mem_cons_of_mem _ hx)
    rw [TL.joinL, List.append_assoc, nsig_word p _ w 0 hp.1 (by omega)]
    show p.length + nsig w (0 + p.length) (45 :: (TL.joinL [45] (q :: t) ++ 58 :: r)) = (p ++ 45 :: TL.joinL [45] (q :: t)).length
    rw [nsig, if_pos ⟨rfl, by omega, by omega⟩, ih, List.length_append, List.length_cons]
    omega
/-! ### words each behind a blank -/
def spw (us : List (List Nat)) : List Nat := (us.map fun u => 32 :: u).flatten
theorem spw_app (a b : List (List Nat)) : spw (a ++ b) = spw a ++ spw b := by unfold spw; rw [List.map_append, List.flatten_append]
theorem spw_join (u : List Nat) : ∀ us : List (List Nat), spw (u :: us) = 32 :: TL.joinL [32] (u :: us)
  | [] => by simp [spw, TL.joinL]
  | v :: us => by
    have ih := spw_join v us
    have e : spw (u :: v :: us) = (32 :: u) ++ spw (v :: us) := by unfold spw; rw [List.map_cons, List.flatten_cons]
    rw [e, ih, TL.joinL]
    rfl
theorem words_spw (x : Str) (us : List (List Nat)) (hx : TL.tl x = spw us) (h : ∀ u ∈ us, WordL u) : (Txt.words x).map TL.tl = us := by
  rw [TL.words_tl, hx]
  cases us with
  | nil => rfl
  | cons u us =>
    rw [spw_join, List.foldl_cons]
    have e : TL.wstep ([], []) 32 = ([], []) := by
      unfold TL.wstep
      rw [if_pos (by decide +kernel), if_pos rfl]
    rw [e, TL.wfold_join _ _ (by simp) fun p hp => ⟨(h p hp).1, fun c hc => space_no ⟨((h p hp).2 c hc).1, ((h p hp).2 c hc).2.1⟩⟩, List.nil_append]
/-! ### a header's rows by their words -/
/-- the rows of a header: its first words behind the name, then rows of at least one word -/
def rowsBy (l : List Nat) (us0 : List (List Nat)) (uss : List (List (List Nat))) : List (List Nat) := (great l ++ 58 :: spw us0) :: uss.map spw
theorem hrows_by (l : List Nat) : ∀ ws : List (List Nat), ∃ us0 uss, hrows l ws = rowsBy l us0 uss ∧ us0 ++ uss.flatten = ws ∧ ∀ us ∈ uss, us ≠ [] := by
  refine foldl_rev_ind (P := fun ws => ∃ us0 uss, hrows l ws = rowsBy l us0 uss ∧ us0 ++ uss.flatten = ws ∧ ∀ us ∈ uss, us ≠ []) ⟨[], [], rfl, rfl, fun _ h => by cases h⟩ ?_
  rintro ws w ⟨us0, uss, e, ew, hne⟩
  unfold hrows at e ⊢
  rw [hfold_snoc]
  generalize hfold l ws = st at *
  obtain ⟨d, c⟩ := st
  unfold hstep
  by_cases h : 60 < c.length + 1 + w.length
  · rw [if_pos h]
    refine ⟨us0, uss ++ [[w]], ?_, ?_, ?_⟩
    · show (d ++ [c]) ++ [32 :: w] = _
      have e' : d ++ [c] = rowsBy l us0 uss := e
      rw [e']
      unfold rowsBy
      rw [List.map_append]
      simp [spw]
    · rw [List.flatten_append, ← List.append_assoc, ew]; simp
    · intro us hus
      rcases List.mem_append.mp hus with h | h
      · exact hne us h
      · rw [List.mem_singleton.mp h]; simp
  · rw [if_neg h]
    have e' : d ++ [c] = rowsBy l us0 uss := e
    rcases List.eq_nil_or_concat uss with rfl | ⟨t, u, rfl⟩
    · refine ⟨us0 ++ [w], [], ?_, ?_, fun _ h => by cases h⟩
      · show d ++ [c ++ 32 :: w] = _
        unfold rowsBy at e' ⊢
        have hd : d = [] := by
          cases d with
          | nil => rfl
          | cons x r => have := congrArg List.length e'; simp at this
        subst hd
        have hc : c = great l ++ 58 :: spw us0 := by simpa using e'
        rw [hc, spw_app]
        simp [spw]
      · rw [← ew]; simp
    · refine ⟨us0, t ++ [u ++ [w]], ?_, ?_, ?_⟩
      · show d ++ [c ++ 32 :: w] = _
        unfold rowsBy at e' ⊢
        rw [List.concat_eq_append, List.map_append, List.map_singleton, ← List.cons_append] at e'
        have h1 := List.append_inj' e' rfl
        have hc : c = spw u := by simpa using h1.2
        rw [List.map_append, List.map_singleton, ← List.cons_append, ← h1.1, hc, spw_app]
        simp [spw]
      · rw [← ew]; simp
      · intro us hus
        rcases List.mem_append.mp hus with h | h
        · exact hne us (by simp [h])
        · rw [List.mem_singleton.mp h]; simp
/-! ### one sign at a text's head -/
theorem starts_one (x y : Str) (s : Nat) (hy : TL.tl y = [s]) : Txt.startswith x y = decide ((TL.tl x)[0]? = some s) := by
  unfold Txt.startswith
  have hyl : y.length = 1 := by rw [TL.len_tl, hy]; rfl
  rw [PySem.StrLaws.subAt_eq, hyl, Bool.eq_iff_iff, Bool.and_eq_true, decide_eq_true_eq, decide_eq_true_eq]
  rw [show x.cps.toList = TL.tl x from rfl, show y.cps.toList = TL.tl y from rfl, hy, List.drop_zero, TL.len_tl]
  cases TL.tl x with
  | nil => simp
  | cons c r => simp
end LH

namespace LH
open PySem PySem.Spec PyProof.Rows L2
/-! ### a text parted at a sign -/
theorem part_at (x y : Str) (c : Nat) (p r : List Nat) (hy : TL.tl y = [c]) (hx : TL.tl x = p ++ c :: r) (hp : c ∉ p) : TL.tl (Txt.partition x y).1 = p ∧ TL.tl (Txt.partition x y).2.2 = r := by
  obtain rfl : y = ⟨#[c]⟩ := TL.ext_tl hy
  have hm0 : x.cps.toList[p.length]? = some c := by
    show (TL.tl x)[p.length]? = some c
    rw [hx]; simp
  have hn0 : ∀ k, k < p.length → x.cps.toList[k]? ≠ some c := fun k hk e => by
    have e' : (TL.tl x)[k]? = some c := e
    rw [hx, List.getElem?_append_left hk] at e'
    exact hp (List.mem_of_getElem? e')
  have hlen : x.length = p.length + (r.length + 1) := by rw [TL.len_tl, hx, List.length_append, List.length_cons]
  unfold Txt.partition
  rcases StrLaws.occ_head x ⟨#[c]⟩ 1 (Nat.le_refl 1) with ⟨h0, hn⟩ | ⟨i, q, h0, hi, hn⟩
  · exact absurd ((StrLaws.subAt_one x c p.length).mpr hm0) (hn _)
  · rw [h0]
    have hm := (StrLaws.subAt_one x c i).mp hi
    have e : i = p.length := by
      rcases Nat.lt_trichotomy i p.length with h | h | h
      · exact absurd hm (hn0 i h)
      · exact h
      · exact absurd ((StrLaws.subAt_one x c p.length).mpr hm0) (hn _ h)
    subst e
    constructor
    · show (Builtin.Str.strSub x 0 p.length).cps.toList = p
      rw [StrLaws.strSub_toList]
      show ((TL.tl x).drop 0).take (p.length - 0) = p
      rw [hx]; simp
    · show (Builtin.Str.strSub x (p.length + 1) x.length).cps.toList = r
      rw [StrLaws.strSub_toList]
      show ((TL.tl x).drop (p.length + 1)).take (x.length - (p.length + 1)) = r
      rw [hx, hlen, show p.length + 1 = p.length + 1 from rfl, List.drop_append, List.drop_of_length_le (by omega)]
      simp
      rw [List.take_of_length_le (by omega)]
theorem part_lens (x y : Str) : (Txt.partition x y).1.length ≤ x.length ∧ (Txt.partition x y).2.2.length ≤ x.length := ⟨(fact_partition x y).1, (fact_partition x y).2.2⟩
/-- str.join inside a comprehension's block -/
theorem pe_joinK {X : Cx} {o e : Expr} {to te : TE} (K : PySem.W.Frag) {apos pos : Pos} (ho : PE X o to) (he : PE X e te) (h : X.K = K := by rfl) (hs : starEach [e] X.env = [(false, eval e X.env)] := by rfl) (hbase : attributeBase o "join" X.env (eval o X.env) = eval o X.env := by rfl) (hline : (apos.endLine == pos.line) = true := by rfl) :
    PE X (.Call (.Attribute o "join" apos) [e] [] pos) (tM1 (fun x xs H Q => ∃ a p, ∃ ys : List Str, x = .str a ∧ xs = [.ref p] ∧ (SqL K H p (ys.map V.str) ∨ SqT K H p (ys.map V.str)) ∧
      (ys.map (·.length)).sum + ys.length * a.length ≤ 16777216 ∧ Q (.str (Txt.join a ys)) H) to te) := by
  subst h
  exact pe_join ho he hs hbase hline
/-! ### a comprehension over a list of pairs that tells a new tuple of each -/
theorem lc_tups {K : PySem.W.Frag} {a : Addr} {ts : List Addr} {ps : Nat → V × V} {te : TE} {c1 c2 : Nat} {σ : L2.St} {H1 : Hp} {D : Addr} {Qd : Hp → Prop} (g : Nat → List V) (hne : c1 ≠ c2) (hL : SqL K H1 a (ts.map V.ref)) (hT : ∀ i, i < ts.length → SqT K H1 (ts.getD i 0) [(ps i).1, (ps i).2])
    (hD : H1 D = none) (hn : ts.length ≤ sizeLine)
    (he : ∀ i H Q, i < ts.length → Same H1 H → (∀ p H', Same H H' → H p = none → H' p = some (.tup (g i)) → Q (.ref p) H') → te ((((σ.set c2 none).set c1 none).set c1 (some (ps i).1)).set c2 (some (ps i).2)) H Q)
    (hd : ∀ H (us : List Addr), Same H1 H → us.length = ts.length → (∀ i, i < ts.length → H (us.getD i 0) = some (.tup (g i))) → H D = some (.lst (us.map V.ref)) → Qd H) :
    ∃ W : Nat → Nat → Hp → Prop, (∃ m, W 0 m (upd H1 D (.lst []))) ∧ ∀ i m H, W i m H →
      ((Itl K a).stop i H ∧ Qd H) ∨ ((Itl K a).go i H ∧ ∃ Nx : Hp → Prop, (∀ H', Nx H' → ∃ m', m' < m ∧ W (i + 1) m' H') ∧ ∀ x H', (Itl K a).yld i H x H' → gTup K 2 (gCons (gName c1) (gCons (gName c2) gNil)) x (wipe σ [c1, c2]) H' fun σ2 H2 => wipe σ2 [c1, c2] = wipe σ [c1, c2] ∧ tYes σ2 H2 fun b H3 =>
        if b = true then te σ2 H3 fun y H4 => ∃ acc, H4 D = some (.lst acc) ∧ acc.length < sizeLine ∧ Nx (upd H4 D (.lst (acc ++ [y]))) else Nx H3) := by
  have hm : (ts.map V.ref).length = ts.length := List.length_map ..
  refine lc_it walk_list (fun i H => Same H1 H ∧ ∃ us : List Addr, us.length = i ∧ (∀ j, j < i → H (us.getD j 0) = some (.tup (g j))) ∧ H D = some (.lst (us.map V.ref))) ⟨same_upd hD, [], rfl, fun j hj => absurd hj (Nat.not_lt_zero j), upd_same⟩ (fun i H _ h => h.1.seq hL) (fun i x H H' hi hP hy => ?_) (fun H h => by
    obtain ⟨sm, us, hl, hu, e⟩ := h
    rw [hm] at hl hu
    exact hd H us sm hl hu e)
  obtain ⟨sm, us, hl, hu, eD⟩ := hP
  obtain ⟨rfl, hx⟩ := hy
  rw [hm] at hi
  rw [List.getElem?_map, List.getElem?_eq_getElem hi] at hx
  obtain rfl := Option.some.inj hx
  have hTi := hT i hi
  rw [List.getD_eq_getElem?_getD, List.getElem?_eq_getElem hi] at hTi
  refine ⟨ts[i], _, rfl, seqT sm hTi, rfl, _, _, rfl, _, _, rfl, rfl, ?_, ?_⟩
  · show (((((σ.set c2 none).set c1 none).set c1 (some (ps i).1)).set c2 (some (ps i).2)).set c2 none).set c1 none = (σ.set c2 none).set c1 none
    rw [List.set_set, List.set_set, List.set_comm _ _ hne, List.set_set, List.set_comm _ _ hne.symm, List.set_comm _ _ hne, List.set_set]
  · refine he i H' _ hi sm fun p H3 s3 np e3 => ⟨_, s3 _ _ eD, ?_, ?_, us ++ [p], ?_, ?_, ?_⟩
    · rw [List.length_map]; omega
    · intro b' o hb'
      rw [upd_ne (ne_of_none hb' hD)]
      exact s3 _ _ (sm _ _ hb')
    · rw [List.length_append, hl]; rfl
    · intro j hj
      have hDt : ∀ q xs, H3 q = some (.tup xs) → q ≠ D := fun q xs e z => by
        rw [z, s3 _ _ eD] at e
        exact nomatch e
      by_cases hj2 : j < i
      · rw [getD_app_l _ _ _ (by omega)]
        have e4 := s3 _ _ (hu j hj2)
        rw [upd_ne (hDt _ _ e4)]
        exact e4
      · have : j = i := by omega
        subst this
        rw [getD_app_r _ _ _ (by omega), hl, Nat.sub_self]
        show upd H3 D _ p = _
        rw [upd_ne (hDt _ _ e3)]
        exact e3
    · rw [upd_same, List.map_append]
      rfl
end LH

namespace LH
open PySem PySem.Spec PyProof.Rows L2
/-! ### what isinstance and except say of the program's own classes -/
section
variable {K : PySem.W.Frag} {C D : Addr} {b : Bool}
theorem kit_cls' (ic : PySem.W.isClsIn K D = true) (tp : PySem.W.typeIn K (.ref D) = some (.type "type")) (sub : PySem.W.subIn K (.ref C) (.ref D) = some b) : PySem.W.kitCls K (.ref C) (.ref D) = some b := by
  have h : ((PySem.W.clsIn K D).isSome && PySem.W.typeIn K (.ref D) == some (.type "type")) = true := by
    rw [tp]
    exact Bool.and_eq_true_iff.mpr ⟨ic, beq_iff_eq.mpr rfl⟩
  show (if ((PySem.W.clsIn K D).isSome && PySem.W.typeIn K (.ref D) == some (.type "type")) = true then PySem.W.subIn K (.ref C) (.ref D) else none) = some b
  rw [if_pos h]
  exact sub
theorem exm_ref (hb : PySem.W.subIn K (.ref D) (.type "BaseException") = some true) (ic : PySem.W.isClsIn K D = true) (tp : PySem.W.typeIn K (.ref D) = some (.type "type")) (sub : PySem.W.subIn K (.ref C) (.ref D) = some b) : PySem.W.exmOne K (.ref C) (.ref D) = some b := by
  unfold PySem.W.exmOne
  rw [hb, if_pos (beq_iff_eq.mpr rfl)]
  exact kit_cls' ic tp sub
theorem kit_ref (ic : PySem.W.isClsIn K D = true) (tp : PySem.W.typeIn K (.ref D) = some (.type "type")) (sub : PySem.W.subIn K (.ref C) (.ref D) = some b) (h : (C == D) = b ∨ b = true) : PySem.W.kitOne K (.ref C) (.ref D) = some b := by
  unfold PySem.W.kitOne
  by_cases e : (Value.ref C == Value.ref D) = true
  · rw [if_pos e]
    have e' : C = D := Value.ref.inj (beq_iff_eq.mp e)
    rcases h with h | h
    · rw [e', beq_self_eq_true] at h
      rw [← h]
    · rw [h]
  · rw [if_neg e]
    exact kit_cls' ic tp sub
theorem kit_base (sub : PySem.W.subIn K (.ref C) (.type "ValueError") = some true) : PySem.W.kitOne K (.ref C) (.type "ValueError") = some true := by
  unfold PySem.W.kitOne
  by_cases e : (Value.ref C == Value.type "ValueError") = true
  · rw [if_pos e]
  · rw [if_neg e]
    show (if PySem.W.kitMeta "ValueError" = true then PySem.W.subIn K (.ref C) (.type "ValueError") else none) = some true
    rw [if_pos (by decide +kernel)]
    exact sub
end
end LH

set_option maxHeartbeats 2000000
namespace LH
open PySem PySem.Spec PySem.Calls PyProof.Rows L2
open PySem.Builtin PySem.Builtin.ObjectAttr PySem.Builtin.Getset_descriptor
open PySem.W (Frag clsIn findIn subIn typeIn nsIn keepIn codeIn hasDictIn mroIn ksFn ksEnv ks_superIn excInitIn excOver takerIn ks_superObj kxs_mw excObj excTup InstAt dictOf findCls readsIn findObj looks_findIn looks_find looks_typeIn looks_subIn)
abbrev bmV : List Value := [.type "ValueError", .type "Exception", .type "BaseException", .type "object"]
/-! ### an own exception whose base's __init__ is super().__init__(why), self.kind = self.__class__.__name__.lower() -/
section
variable {prog : Program} {w : World} {A : Around} {E : Value → Shared → Prop} {R : Result → Shared → Prop} {K : Frag} {s : Shared} {C x : Addr} {ox : Obj} {odx : Option Obj}
/-- x.__class__ of an error -/
theorem err_class {expr : Bool} {Q : Value → Shared → Prop} (X : K.In s.heap) (I : InstAt s.heap x ox C odx) (T : ExcC K C) (hcl : (clsIn K C).isSome = true) (h : Q (.ref C) { s with toks := s.toks + 1 }) :
    wpAny (model prog w) A (getAttr (.ref x) "__class__" expr) Q E s := by
  obtain ⟨h0, gs, dr, n, o⟩ := s
  let M := model prog w
  have bga : (Value.builtin "BaseException.__getattribute__" == Value.builtin "object.__getattribute__") = false := by decide +kernel
  have hop : (expr && onTheHeap (Value.builtin "BaseException.__getattribute__")) = false := Bool.and_false _
  have ofC : PySem.W.Looks M h0 (typeOf (.ref x)) (.ref C) := I.type
  have isE : PySem.W.Looks M h0 (isInstance (.ref x) (.type "BaseException")) true := ofC.andThen (looks_subIn X T.hs)
  have slot := looks_find (M := M) X I (PySem.W.findObj_dataE (od := odx) hcl T.ha T.hn T.ht)
  -- what BaseException.__getattribute__ comes to at x
  have inner : ∀ (B : Around) (P G : Value → Shared → Prop), P (.ref C) ⟨h0, gs, dr, n + 1, o⟩ → wpAny M B (call (.builtin "BaseException.__getattribute__") [.ref x, .str "__class__" n]) P G ⟨h0, gs, dr, n + 1, o⟩ := fun B P G hP => by
    refine wpAny_call (codeAny_call_builtin PySem.F.excAttr_ValueError.ga.plain PySem.F.entry_bexc_ga (@PySem.W.check_slot M _ _ ⟨h0, gs, dr, n + 1, o⟩ "BaseException.__getattribute__" "BaseException" "__getattribute__" (.ref x) [.str "__class__" n] [] _ (by decide +kernel) (by decide +kernel) isE (PySem.F.args_bexc_ga _ _) ?_))
    show wpAny _ _ (Builtin.«object.__getattribute__» _) _ _ _
    unfold Builtin.«object.__getattribute__»
    refine wpAny_bind (wpAny_of_eq (a := ((Value.ref x : Value), [Value.str "__class__" n])) rfl (wpAny_bind (wpAny_pure (wpAny_bind (ofC.at (wpAny_bind (slot.at ?_)))))))
    exact wpAny_bind (wpAny_holding (wpAny_call (PySem.W.class_get (s := ⟨h0, gs, dr, n + 1, o⟩) (ox := ox) (od := odx) X I T.hm (wpAny_pure hP))))
  unfold getAttr getAttrBy
  refine wpAny_bind (wpAny_mkText (wpAny_holding (wpAny_bind (ofC.at (wpAny_bind ((looks_findIn (M := M) X T.hg).at ?_))))))
  dsimp only
  rw [if_neg (show ¬ (onTheHeap (Value.ref C) && Value.builtin "BaseException.__getattribute__" == Value.builtin "object.__getattribute__") = true from by rw [bga, Bool.and_false]; exact Bool.false_ne_true)]
  unfold getAttrByItsOwn hookBefore callGetattribute boundAndCalled
  rw [if_pos (show onTheHeap (Value.ref C) = true from rfl), hop, PySem.F.excAttr_ValueError.ga.bind (.ref x)]
  refine wpAny_bind ((looks_findIn (M := M) X T.hk).at (wpAny_bind (wpAny_attempt (wpAny_holding ?_))))
  rw [if_neg Bool.false_ne_true]
  refine wpAny_bind (wpAny_pure (inner _ _ _ ?_))
  show wpAny _ _ (handedOut (.ref C)) _ _ _
  rw [PySem.W.handedOut_of (show PySem.W.handedIn (.ref C) = true from rfl)]
  exact wpAny_pure h
theorem dga_ref (d tp : Value) (C : Addr) : descrGetArgs ⟨[d, .ref C, tp], []⟩ = pure (d, some (.ref C), (if tp == .none then none else some tp)) := by kernel_rfl
theorem name_get {tp : Value} {od : Option Addr} {cd : ClassData} {sl : Array (Option Value)} {nm : Str} {tk : Tok} (X : K.In s.heap) (hc : K.lookup C = some ⟨.type "type", od, .cls cd, sl⟩) (hs : sl[2]? = some (some (.str nm tk))) (h : R (.ok (.ret (.str nm tk))) s) :
    codeAny (model prog w) A (.call (.builtin "getset_descriptor.__get__") ⟨[.builtin "type.__name__", .ref C, tp], []⟩) R s := by
  have ho := X _ _ hc
  obtain ⟨hh, g, dr, t, os⟩ := s
  have L0 : PySem.W.Looks (model prog w) hh (typeOf (.ref C)) (.type "type") := looks_typeIn X (by show Option.map (fun x => x.cls) (List.lookup C K) = _; rw [hc]; rfl)
  have L1 : PySem.W.Looks (model prog w) hh (isSubtype (.type "type") (.type "type")) true := PySem.W.Looks.of_pure (by rw [isSubtype_type]; kernel_rfl)
  refine codeAny_call_builtin PySem.W.KF.slot_gs.plain PySem.W.KF.entry_gs (PySem.W.KF.slot_gs.check _ _ _ _ _ _ _ _ PySem.W.ktyn_type (PySem.W.KF.args_gs _ _ _) ?_)
  unfold Builtin.«getset_descriptor.__get__» descrGet
  rw [dga_ref]
  refine wpAny_bind (wpAny_pure ?_)
  unfold descrGetter descrCheckInstance descrNameAndClass isInstance
  simp only [PySem.W.ktyn_owner]
  repeat lk
  refine ⟨Code.quiet_builtin _ (by decide +kernel), codeAny_builtin PySem.W.ktyn_entry ?_⟩
  unfold Builtin.«type.__name__»
  dsimp only
  unfold keptObject slotAt
  dsimp only
  refine wpAny_bind (wpAny_bind (wpAny_loadPart_at ho (wpAny_pure ?_)))
  dsimp only
  rw [hs]
  dsimp only [Option.join, Option.bind, _root_.id]
  first | exact wpAny_bind (wpAny_pure h) | exact wpAny_pure h | (repeat lk; exact h)
theorem cls_name {expr : Bool} {Q : Value → Shared → Prop} {od : Option Addr} {cd : ClassData} {sl : Array (Option Value)} {nm : Str} {tk : Tok} (X : K.In s.heap) (hr : readsIn K C (.type "type") = true)
    (e : findCls K (.ref C) (.type "type") "__name__" = some (.get (.builtin "getset_descriptor.__get__") (.builtin "type.__name__") (.ref C) (.type "type"))) (hc : K.lookup C = some ⟨.type "type", od, .cls cd, sl⟩) (hs : sl[2]? = some (some (.str nm tk)))
    (h : Q (.str nm tk) { s with toks := s.toks + 1 }) : wpAny (model prog w) A (getAttr (.ref C) "__name__" expr) Q E s := by
  refine PySem.W.cls_bind X hr e (wpAny_call (name_get (s := { s with toks := s.toks + 1 }) X hc hs ?_))
  exact PySem.W.handed_on rfl h
end
structure HePos where
  (a1 a2 a3 s0 s1 s2 s3 s4 n0 l0 l1 l2 l3 l4 l5 l6 l7 : Pos)
  (u0 : Nat)
def hA (P : HePos) : Arguments := { posonlyargs := [], args := [{ arg := "self", annotation := none, pos := P.a1 }, { arg := "why", annotation := none, pos := P.a2 }], vararg := none, kwonlyargs := [], kw_defaults := [], kwarg := none, defaults := [.Constant (.str "") P.u0 P.a3] }
def hB (P : HePos) : List Stmt :=
  [.Expr (.Call (.Attribute (.Call (.Name "super" P.s0) [] [] P.s1) "__init__" P.s2) [.Name "why" P.n0] [] P.s3) P.s4,
   .Assign [.Attribute (.Name "self" P.l0) "kind" P.l1] (.Call (.Attribute (.Attribute (.Attribute (.Name "self" P.l2) "__class__" P.l3) "__name__" P.l4) "lower" P.l5) [] [] P.l6) P.l7]
def hS : Scope := { kind := .function, names := [("self", .local), ("why", .local), ("__class__", .free), ("super", .globalImplicit)], isGenerator := false, isCoroutine := false, more := [] }
/-- what the written part says of the class at C, whose base at D is made by the __init__ at fH; kd: the text of its kind -/
structure HeTxt (prog : Program) (K : Frag) (C D fH cc cda : Addr) (kd : Str) : Prop where
  exi : excInitIn K C bmV "ValueError.__new__" = true
  exo : excOver K C bmV = true
  sa : findIn K (.ref C) "__setattr__" = some (some (.builtin "object.__setattr__"))
  tkk : takerIn K C "kind" = some none
  hdC : hasDictIn K C = true
  tyf : typeIn K (.ref fH) = some (.type "function")
  fn : ∃ (oc : Value) (od : Option Addr) (kV doc pm : Value) (an : Option Addr) (ct : Value) (osl : Array (Option Value)) (P : HePos) (T : Addr) (o : Obj) (dv : Value) (m : Nat),
    K.lookup fH = some ⟨oc, od, .func (ksFn "__init__" "HouseError.__init__" (hA P) (hB P) hS (.ref T) kV doc pm an (.ref cda) ct cc), osl⟩ ∧ codeIn K (.ref cda) "HouseError.__init__" = true ∧ (P.s2.endLine == P.s3.line) = true ∧ (P.l5.endLine == P.l6.line) = true ∧
    K.lookup T = some o ∧ o.data = .seq #[dv] m
  code : ∃ (ccl : Value) (cdd : Option Addr) (vs : Array Value) (ccs : Array (Option Value)) (file : Str) (tf : Tok), K.lookup cda = some ⟨ccl, cdd, .fields vs, ccs⟩ ∧ vs[2]? = some (.str file tf) ∧ ((prog.main.file : Str) == file) = true
  cell : ∃ (cl : Value) (cld : Option Addr) (csl : Array (Option Value)), K.lookup cc = some ⟨cl, cld, .cell (some (.ref D)), csl⟩
  icD : PySem.W.isClsIn K D = true
  sub : mroIn K C (.ref D) = some true
  sup : nsIn K mainGlobals "super" = some none
  top : (prog.main.scope.names.lookup ("super" : Str)).isSome = false
  thp : nsIn K cStatics "thirdparty.any" = some none
  supI : ks_superIn K C D "__init__" = some (some (.builtin "ValueError.__init__"))
  subV : subIn K (.ref C) (.type "ValueError") = some true
  ec : ExcC K C
  icC : PySem.W.isClsIn K C = true
  rd : readsIn K C (.type "type") = true
  fnm : findCls K (.ref C) (.type "type") "__name__" = some (.get (.builtin "getset_descriptor.__get__") (.builtin "type.__name__") (.ref C) (.type "type"))
  nam : ∃ (od : Option Addr) (cd : ClassData) (sl : Array (Option Value)) (nm : Str) (tk : Tok), K.lookup C = some ⟨.type "type", od, .cls cd, sl⟩ ∧ sl[2]? = some (some (.str nm tk)) ∧ nm.length ≤ 5592405 ∧ Txt.lower nm = kd
section
variable {prog : Program} {w : World} {A : Around} {E : Value → Shared → Prop} {R : Result → Shared → Prop} {K : Frag} {mg : Str → Option Value} {C D fH cc cda x : Addr} {kd : Str} {hp : Heap}
theorem one_le (v : Value) : [v].length ≤ sizeLine := by rw [sizeLine_eq]; show 1 ≤ 16777216; decide
/-- super(), in the __init__ of such a class -/
theorem he_super (T : HeTxt prog K C D fH cc cda kd) (M : Mod K mg hp) {s : Shared} {L : Addr} {m : Str → Option Value} {news : List (Addr × Obj)} (F : Fr hp L s.heap m) (N : News hp L s.heap news) {ox : Obj} {odx : Option Obj} (I : InstAt s.heap x ox C odx) (hv : m "self" = some (.ref x))
    {P : HePos} {p0 p1 : Pos} {whole : Sem Value} {Q : Value → Shared → Prop}
    (h : ∀ so h', Fr hp L h' m → News hp L h' ((so, ks_superObj D x C) :: news) → (∀ p ∈ news, p.1 < so) → Q (.ref so) { s with heap := h' }) :
    PySem.wpAt (model prog w) A (.func (hB P) (ksEnv "HouseError.__init__" hS L fH (.ref cda) cc)) (attributeBase (.Call (.Name "super" p0) [] [] p1) "__init__" (ksEnv "HouseError.__init__" hS L fH (.ref cda) cc) whole) Q E s := by
  have X : K.In s.heap := M.kin.keeps F.keep
  obtain ⟨oc, od, kV, doc, pm, an, ct, osl, P', T', o', its, mm, hf, hcd, _⟩ := T.fn
  obtain ⟨ccl, cdd, vs, ccs, file, tf, hcode, hvs, hfile⟩ := T.code
  obtain ⟨cl, cld, csl, hcell⟩ := T.cell
  obtain ⟨mb, hb, hbb⟩ := M.blt
  obtain ⟨cdD, hD⟩ : ∃ cdD, clsIn K D = some cdD := Option.isSome_iff_exists.mp T.icD
  obtain ⟨hh, g, d, t, os⟩ := s
  have ⟨oD, hD1, hD2⟩ : ∃ o : Obj, hh.get? D = some o ∧ o.data = .cls cdD := by
    unfold PySem.W.clsIn at hD
    split at hD
    · rename_i ho; cases hD; exact ⟨_, X _ _ ho, rfl⟩
    · cases hD
  have noc : ∀ c, ox.data ≠ .cls c := fun c e => by
    have q := I.no
    unfold PySem.W.notCls at q
    rw [e] at q
    exact Bool.noConfusion q
  have last : wpAny (model prog w) A (call (.type "super") [.ref D, .ref x]) Q E ⟨hh, g, d, t, os⟩ := PySem.ks_wpAny_call_super hD1 hD2 I.at_ I.cls noc (PySem.W.looks_mroIn X T.sub) fun h' e k => by
    obtain ⟨F', N', l'⟩ := PySem.W.ks_newsPush (s := ⟨hh, g, d, t, os⟩) F N rfl e k
    exact h _ _ F' N' l'
  have self' : wpAny (model prog w) A (loadName (ksEnv "HouseError.__init__" hS L fH (.ref cda) cc) "self") (fun self s₃ => wpAny (model prog w) A (isType (.ref D)) (fun b s₄ => b = true ∧ wpAny (model prog w) A (call (.type "super") [.ref D, self]) Q E s₄) E s₃) E ⟨hh, g, d, t, os⟩ :=
    wpAny_loadName_local rfl rfl F.ns hv (PySem.ks_wpAny_isType_cls hD1 hD2 ⟨rfl, last⟩)
  refine PySem.ks_wpAt_super_base (env := ksEnv "HouseError.__init__" hS L fH (.ref cda) cc) rfl rfl (by decide) rfl (X _ _ hf) rfl rfl rfl (X _ _ hcode) rfl hvs hfile T.top ?_
  refine PySem.W.ks_loadName_global rfl rfl (loadGlobal_builtin (env := ksEnv "HouseError.__init__" hS L fH (.ref cda) cc) (M.glob.keeps F.keep) (PySem.W.mg_none_of M.kin M.glob T.sup) (hb.keeps F.keep) ((hbb _ (by decide +kernel)).trans (by decide +kernel)) ⟨rfl, ?_⟩)
  exact wpAny_loadName_free rfl rfl rfl ⟨_, X _ _ hcell, rfl⟩ self'
/-- HouseError.__init__ at a fresh exception x of the class at C -/
theorem he_init (T : HeTxt prog K C D fH cc cda kd) (M : Mod K mg hp) {s : Shared} (hk : ∀ b o, hp.get? b = some o → s.heap.get? b = some o) (hsz : hp.objs.size ≤ s.heap.objs.size) {t0 : Addr} (hx : s.heap.get? x = some (excObj C t0 none .none)) (hx0 : hp.get? x = none)
    {a : Value} (hroom : A.depth < recursionLimit)
    (hq : ∀ h' tk t1 dx q1 tk1, (∀ b o, hp.get? b = some o → h'.get? b = some o) → h'.get? x = some (excObj C t1 (some dx) .none) → x < dx → hp.get? dx = none →
      h'.get? dx = some (dictOf [⟨PyData.keyHash w.params "kind", .str "kind" q1, .str kd tk1⟩] 1) → R (.ok (.ret .none)) { s with heap := h', toks := tk }) :
    codeAny (model prog w) A (.call (.ref fH) ⟨[.ref x, a], []⟩) R s := by
  obtain ⟨oc, od, kV, doc, pm, an, ct, osl, P, T0, o0, its, mm, ho, hcd, hs, hs2, hT0, hT1⟩ := T.fn
  obtain ⟨odn, cdn, sln, nm, tkn, hcn, hsn, hln, hkd⟩ := T.nam
  have X := M.kin.keeps hk
  refine PySem.ks_codeAny_call_defAt (fd := ksFn "__init__" "HouseError.__init__" (hA P) (hB P) hS (.ref T0) kV doc pm an (.ref cda) ct cc) (body := hB P) (binds := [("self", .ref x), ("why", a)]) hroom (X _ _ ho) rfl (M.nolimit.keeps hk) (PySem.W.codeRec_of X hcd) rfl (BindsTo.of_defaults (fd := ksFn "__init__" "HouseError.__init__" (hA P) (hB P) hS (.ref T0) kV doc pm an (.ref cda) ct cc) rfl (X _ _ hT0) hT1 rfl rfl) (show ∀ y ∈ hS.names, y.2 ≠ .cell by decide) (fun y hy => by simp only [List.mem_cons, List.mem_nil_iff, or_false] at hy; rcases hy with rfl | rfl <;> rfl) (fun h₁ hn k₁ => ?_) rfl rfl rfl
  have F : Fr hp s.heap.objs.size h₁ (fun y => ([("self", Value.ref x), ("why", a)] : List (Str × Value)).reverse.lookup y) := ⟨hn, fun b o e => k₁ b o (hk b o e), hsz⟩
  have N : News hp s.heap.objs.size h₁ [(x, excObj C t0 none .none)] := fun p hp' => by
    obtain rfl := List.mem_singleton.mp hp'
    exact ⟨k₁ _ _ hx, Nat.ne_of_lt (Heap.lt_size hx), hx0⟩
  show PySem.wpAt (model prog w) (A.deeper (ksEnv "HouseError.__init__" hS s.heap.objs.size fH (.ref cda) cc)) (.func (hB P) (ksEnv "HouseError.__init__" hS s.heap.objs.size fH (.ref cda) cc)) (execs (hB P) (ksEnv "HouseError.__init__" hS s.heap.objs.size fH (.ref cda) cc)) _ _ _
  have m1 : (x, excObj C t0 none .none) ∈ [(x, excObj C t0 none .none)] := List.mem_singleton.mpr rfl
  refine PySem.ks_wpAt_execs_cons (PySem.ks_wpAt_Expr_any (PySem.ks_wpAt_MethodCall (pl := do return (← importBound (.Call (.Name "super" P.s0) [] [] P.s1) (ksEnv "HouseError.__init__" hS s.heap.objs.size fH (.ref cda) cc)).getD true) (he_super T M F N (PySem.W.InstAt.of_exc0 N m1) rfl fun so h2 F2 N2 l2 => ?_) ?_))
  rotate_left
  · rw [arm_eval_Call]
    unfold methodCall methodCallPos
    simp only [hs, Bool.or_true, if_true, pure_bind]
    rfl
  have m2 : (x, excObj C t0 none .none) ∈ [(so, ks_superObj D x C), (x, excObj C t0 none .none)] := by simp
  refine PySem.W.kxs_method PySem.W.kxs_ValueError F2 M.kin N2 (List.mem_cons_self ..) (PySem.W.InstAt.of_exc0 N2 m2) T.thp T.supI T.subV (by decide) fun q h3 F3 N3 l3 => ?_
  refine PySem.W.kxs_callWith1 N3 (List.mem_cons_self ..) ?_
  refine spliced_more (wpAny_Name (wpAny_loadName_local rfl rfl F3.ns rfl (spliced_none ⟨PySem.W.kxs_at N3 (List.mem_cons_self ..), ?_⟩)) (by decide))
  have nq : q ≠ x := fun e => Nat.lt_irrefl _ (by have := l3 _ m2; rw [e] at this; exact this)
  have ns : so ≠ x := fun e => Nat.lt_irrefl _ (by have := l2 _ m1; rw [e] at this; exact this)
  refine PySem.W.kxs_call F3 M.kin N3 PySem.F.excBase_ValueError T.exi (List.mem_cons_self ..) (.tail nq (.tail ns (.head (fun _ h => nomatch h)))) (LH.one_le _) fun t1 h4 F4 N4 l4 => ?_
  have N5 : News hp s.heap.objs.size h4 [(x, excObj C t1 none .none)] := fun p hp2 => N4 p (by rw [List.mem_singleton.mp hp2]; simp)
  have mx : (x, excObj C t1 none .none) ∈ [(x, excObj C t1 none .none)] := List.mem_singleton.mpr rfl
  refine wpAt_of_wpAny (wpAny_execs_cons (plainObj_wpAny_Assign_Attribute ?_))
  refine J1.ev_lower rfl hs2 ?_
  refine attr_of rfl (attr_of rfl (wpAny_Name (wpAny_loadName_local rfl rfl F4.ns rfl ?_) (by decide)))
  refine err_class (M.kin.keeps F4.keep) (PySem.W.InstAt.of_exc0 N5 mx) T.ec T.icC ?_
  refine cls_name (M.kin.keeps F4.keep) T.rd T.fnm hcn hsn ⟨nm, tkn, rfl, hln, fun tk1 tk2 => ?_⟩
  rw [hkd]
  refine wpAny_Name (wpAny_loadName_local rfl rfl F4.ns rfl ?_) (by decide)
  refine PySem.W.set_exc0 (es' := [⟨PyData.keyHash w.params "kind", .str "kind" _, .str kd tk1⟩]) (n' := 1) PySem.F.store_ValueError F4 M.kin N5 mx T.sa T.exo T.tkk T.hdC rfl (.head (fun _ h => nomatch h)) (show 1 ≤ 1000 by decide) fun dx h6 F6 N6 l6 => ?_
  have xdx : x < dx := l6 _ (List.mem_singleton.mpr rfl)
  refine wpAny_execs_nil ?_
  have q1 := N6 _ (.tail _ (List.mem_singleton.mpr rfl))
  have q2 := N6 _ (List.mem_cons_self ..)
  exact hq h6 _ t1 dx _ tk1 F6.keep q1.1 xdx q2.2.2 q2.1
end
end LH

set_option maxHeartbeats 2000000
namespace LH
open PySem PySem.Spec PySem.Calls PyProof.Rows L2
open PySem.W (Frag clsIn findIn subIn typeIn nsIn keepIn codeIn hasDictIn mroIn ksFn ksEnv ks_superIn excInitIn excOver takerIn ks_superObj kxs_mw excObj excTup InstAt dictOf methodObj)
/-! ### an own exception with the __init__ of a class above it: super().__init__(text), self.line, self.place -/
def iA (p1 p2 p3 : Pos) : Arguments := { posonlyargs := [], args := [{ arg := "self", annotation := none, pos := p1 }, { arg := "line", annotation := none, pos := p2 }, { arg := "place", annotation := none, pos := p3 }], vararg := none, kwonlyargs := [], kw_defaults := [], kwarg := none, defaults := [] }
structure WrPos where
  (a1 a2 a3 s0 s1 s2 s3 s4 f0 k0 v0 n0 k1 v1 n1 l0 l1 l2 l3 m0 m1 m2 m3 : Pos)
  (u0 u1 : Nat)
def iB (P : WrPos) : List Stmt :=
  [.Expr (.Call (.Attribute (.Call (.Name "super" P.s0) [] [] P.s1) "__init__" P.s2) [.JoinedStr [.Constant (.str "row ") P.u0 P.k0, .FormattedValue (.Name "line" P.n0) (-1) none P.v0, .Constant (.str ", place ") P.u1 P.k1, .FormattedValue (.Name "place" P.n1) (-1) none P.v1] P.f0] [] P.s3) P.s4,
   .Assign [.Attribute (.Name "self" P.l0) "line" P.l1] (.Name "line" P.l2) P.l3,
   .Assign [.Attribute (.Name "self" P.m0) "place" P.m1] (.Name "place" P.m2) P.m3]
def iS : Scope := { kind := .function, names := [("self", .local), ("line", .local), ("place", .local), ("__class__", .free), ("super", .globalImplicit)], isGenerator := false, isCoroutine := false, more := [] }
/-- what the written part says of the class at C, made by the __init__ at fI of the class at D -/
structure WrTxt (prog : Program) (K : Frag) (C D fI cc cda : Addr) (B fH ccH cdaH : Addr) (kd : Str) : Prop where
  he : HeTxt prog K C B fH ccH cdaH kd
  ini : findIn K (.ref C) "__init__" = some (some (.ref fI))
  exi : excInitIn K C bmV "ValueError.__new__" = true
  exo : excOver K C bmV = true
  sa : findIn K (.ref C) "__setattr__" = some (some (.builtin "object.__setattr__"))
  tkl : takerIn K C "line" = some none
  tkp : takerIn K C "place" = some none
  hdC : hasDictIn K C = true
  tyf : typeIn K (.ref fI) = some (.type "function")
  fn : ∃ (oc : Value) (od : Option Addr) (doc pm : Value) (an : Option Addr) (ct : Value) (osl : Array (Option Value)) (P : WrPos),
    K.lookup fI = some ⟨oc, od, .func (ksFn "__init__" "Wrong.__init__" (iA P.a1 P.a2 P.a3) (iB P) iS .none .none doc pm an (.ref cda) ct cc), osl⟩ ∧ codeIn K (.ref cda) "Wrong.__init__" = true ∧ (P.s2.endLine == P.s3.line) = true
  code : ∃ (ccl : Value) (cdd : Option Addr) (vs : Array Value) (ccs : Array (Option Value)) (file : Str) (tf : Tok), K.lookup cda = some ⟨ccl, cdd, .fields vs, ccs⟩ ∧ vs[2]? = some (.str file tf) ∧ ((prog.main.file : Str) == file) = true
  cell : ∃ (cl : Value) (cld : Option Addr) (csl : Array (Option Value)), K.lookup cc = some ⟨cl, cld, .cell (some (.ref D)), csl⟩
  icD : PySem.W.isClsIn K D = true
  sub : mroIn K C (.ref D) = some true
  sup : nsIn K mainGlobals "super" = some none
  top : (prog.main.scope.names.lookup ("super" : Str)).isSome = false
  thp : nsIn K cStatics "thirdparty.any" = some none
  supI : ks_superIn K C D "__init__" = some (some (.ref fH))
  fnH : PySem.W.fnIn K fH = true
  subV : subIn K (.ref C) (.type "ValueError") = some true
section
variable {prog : Program} {w : World} {A : Around} {E : Value → Shared → Prop} {R : Result → Shared → Prop} {K : Frag} {mg : Str → Option Value} {C D fI cc cda x B fH ccH cdaH : Addr} {kd : Str} {hp : Heap}
/-- super(), in the __init__ of such a class -/
theorem wr_super (T : WrTxt prog K C D fI cc cda B fH ccH cdaH kd) (M : Mod K mg hp) {s : Shared} {L : Addr} {m : Str → Option Value} {news : List (Addr × Obj)} (F : Fr hp L s.heap m) (N : News hp L s.heap news) {ox : Obj} {odx : Option Obj} (I : InstAt s.heap x ox C odx) (hv : m "self" = some (.ref x))
    {P : WrPos} {p0 p1 : Pos} {whole : Sem Value} {Q : Value → Shared → Prop}
    (h : ∀ so h', Fr hp L h' m → News hp L h' ((so, ks_superObj D x C) :: news) → (∀ p ∈ news, p.1 < so) → Q (.ref so) { s with heap := h' }) :
    PySem.wpAt (model prog w) A (.func (iB P) (ksEnv "Wrong.__init__" iS L fI (.ref cda) cc)) (attributeBase (.Call (.Name "super" p0) [] [] p1) "__init__" (ksEnv "Wrong.__init__" iS L fI (.ref cda) cc) whole) Q E s := by
  have X : K.In s.heap := M.kin.keeps F.keep
  obtain ⟨oc, od, doc, pm, an, ct, osl, P', hf, hcd, _⟩ := T.fn
  obtain ⟨ccl, cdd, vs, ccs, file, tf, hcode, hvs, hfile⟩ := T.code
  obtain ⟨cl, cld, csl, hcell⟩ := T.cell
  obtain ⟨mb, hb, hbb⟩ := M.blt
  obtain ⟨cdD, hD⟩ : ∃ cdD, clsIn K D = some cdD := Option.isSome_iff_exists.mp T.icD
  obtain ⟨hh, g, d, t, os⟩ := s
  have ⟨oD, hD1, hD2⟩ : ∃ o : Obj, hh.get? D = some o ∧ o.data = .cls cdD := by
    unfold PySem.W.clsIn at hD
    split at hD
    · rename_i ho; cases hD; exact ⟨_, X _ _ ho, rfl⟩
    · cases hD
  have noc : ∀ c, ox.data ≠ .cls c := fun c e => by
    have q := I.no
    unfold PySem.W.notCls at q
    rw [e] at q
    exact Bool.noConfusion q
  have last : wpAny (model prog w) A (call (.type "super") [.ref D, .ref x]) Q E ⟨hh, g, d, t, os⟩ := PySem.ks_wpAny_call_super hD1 hD2 I.at_ I.cls noc (PySem.W.looks_mroIn X T.sub) fun h' e k => by
    obtain ⟨F', N', l'⟩ := PySem.W.ks_newsPush (s := ⟨hh, g, d, t, os⟩) F N rfl e k
    exact h _ _ F' N' l'
  have self' : wpAny (model prog w) A (loadName (ksEnv "Wrong.__init__" iS L fI (.ref cda) cc) "self") (fun self s₃ => wpAny (model prog w) A (isType (.ref D)) (fun b s₄ => b = true ∧ wpAny (model prog w) A (call (.type "super") [.ref D, self]) Q E s₄) E s₃) E ⟨hh, g, d, t, os⟩ :=
    wpAny_loadName_local rfl rfl F.ns hv (PySem.ks_wpAny_isType_cls hD1 hD2 ⟨rfl, last⟩)
  refine PySem.ks_wpAt_super_base (env := ksEnv "Wrong.__init__" iS L fI (.ref cda) cc) rfl rfl (by decide) rfl (X _ _ hf) rfl rfl rfl (X _ _ hcode) rfl hvs hfile T.top ?_
  refine PySem.W.ks_loadName_global rfl rfl (loadGlobal_builtin (env := ksEnv "Wrong.__init__" iS L fI (.ref cda) cc) (M.glob.keeps F.keep) (PySem.W.mg_none_of M.kin M.glob T.sup) (hb.keeps F.keep) ((hbb _ (by decide +kernel)).trans (by decide +kernel)) ⟨rfl, ?_⟩)
  exact wpAny_loadName_free rfl rfl rfl ⟨_, X _ _ hcell, rfl⟩ self'
/-- the error's text is told: any number that is small -/
theorem wr_text {env : Env} {P : WrPos} {s : Shared} {a b : Int} {ta tb : Tok} {m : Str → Option Value} (hn : s.heap.Ns env.locals m) (hk : env.scope.kind = .function) (hl : env.kindOf "line" = some .local) (hp' : env.kindOf "place" = some .local)
    (va : m "line" = some (.int a ta)) (vb : m "place" = some (.int b tb)) (ha : a.natAbs.log2 < 1920) (hb : b.natAbs.log2 < 1920) {Q : Value → Shared → Prop} (hq : ∀ z tk t', Q (.str z t') { s with toks := tk }) :
    wpAny (model prog w) A (eval (.JoinedStr [.Constant (.str "row ") P.u0 P.k0, .FormattedValue (.Name "line" P.n0) (-1) none P.v0, .Constant (.str ", place ") P.u1 P.k1, .FormattedValue (.Name "place" P.n1) (-1) none P.v1] P.f0) env) Q E s := by
  have e0 : Str.empty.length = 0 := rfl
  have e1 : (Str.ofString "row ").length = 4 := by decide +kernel
  have e2 : (Str.ofString ", place ").length = 8 := by decide +kernel
  have e3 := int_text_len_1921 ha
  have e4 := int_text_len_1921 hb
  refine wpAny_JoinedStr ?_
  refine wpAny_Constant_str ⟨_, _, rfl, by rw [len_app, e0, e1, sizeLine_eq]; decide, ?_⟩
  refine wpAny_FormattedValue_plain (wpAny_Name (wpAny_loadName_local hk hl hn va (wpAny_formatField_int ha ⟨_, _, rfl, by rw [len_app, len_app, e0, e1, sizeLine_eq]; omega, ?_⟩)) (by decide))
  refine wpAny_Constant_str ⟨_, _, rfl, by rw [len_app, len_app, len_app, e0, e1, e2, sizeLine_eq]; omega, ?_⟩
  refine wpAny_FormattedValue_plain (wpAny_Name (wpAny_loadName_local hk hp' hn vb (wpAny_formatField_int hb ⟨_, _, rfl, by rw [len_app, len_app, len_app, len_app, e0, e1, e2, sizeLine_eq]; omega, ?_⟩)) (by decide))
  exact ⟨by rw [len_app, len_app, len_app, len_app, e0, e1, e2, sizeLine_eq]; omega, hq _ _ _⟩
/-- Wrong.__init__ at a fresh exception x of the class at C -/
theorem wr_init (T : WrTxt prog K C D fI cc cda B fH ccH cdaH kd) (M : Mod K mg hp) {s : Shared} (hk : ∀ b o, hp.get? b = some o → s.heap.get? b = some o) (hsz : hp.objs.size ≤ s.heap.objs.size) {t0 : Addr} (hx : s.heap.get? x = some (excObj C t0 none .none)) (hx0 : hp.get? x = none)
    {a b : Int} {ta tb : Tok} (ha : a.natAbs.log2 < 1920) (hb : b.natAbs.log2 < 1920) (hroom : A.depth + 1 < recursionLimit)
    (hq : ∀ h' tk t1 dx k0 k1 k2 q0 q1 q2 tk1 n, (∀ b o, hp.get? b = some o → h'.get? b = some o) → h'.get? x = some (excObj C t1 (some dx) .none) → x < dx →
      h'.get? dx = some (dictOf [⟨k0, .str "kind" q0, .str kd tk1⟩, ⟨k1, .str "line" q1, .int a ta⟩, ⟨k2, .str "place" q2, .int b tb⟩] n) → R (.ok (.ret .none)) { s with heap := h', toks := tk }) :
    codeAny (model prog w) A (.call (.ref fI) ⟨[.ref x, .int a ta, .int b tb], []⟩) R s := by
  obtain ⟨oc, od, doc, pm, an, ct, osl, P, ho, hcd, hs⟩ := T.fn
  have X := M.kin.keeps hk
  refine PySem.ks_codeAny_call_defAt (fd := ksFn "__init__" "Wrong.__init__" (iA P.a1 P.a2 P.a3) (iB P) iS .none .none doc pm an (.ref cda) ct cc) (body := iB P) (binds := [("self", .ref x), ("line", .int a ta), ("place", .int b tb)]) (Nat.lt_of_succ_lt hroom) (X _ _ ho) rfl (M.nolimit.keeps hk) (PySem.W.codeRec_of X hcd) rfl (.of_eq rfl) (show ∀ y ∈ iS.names, y.2 ≠ .cell by decide) (fun y hy => by simp only [List.mem_cons, List.mem_nil_iff, or_false] at hy; rcases hy with rfl | rfl | rfl <;> rfl) (fun h₁ hn k₁ => ?_) rfl rfl rfl
  have F : Fr hp s.heap.objs.size h₁ (fun y => ([("self", Value.ref x), ("line", .int a ta), ("place", .int b tb)] : List (Str × Value)).reverse.lookup y) := ⟨hn, fun b o e => k₁ b o (hk b o e), hsz⟩
  have N : News hp s.heap.objs.size h₁ [(x, excObj C t0 none .none)] := fun p hp' => by
    obtain rfl := List.mem_singleton.mp hp'
    exact ⟨k₁ _ _ hx, Nat.ne_of_lt (Heap.lt_size hx), hx0⟩
  show PySem.wpAt (model prog w) (A.deeper (ksEnv "Wrong.__init__" iS s.heap.objs.size fI (.ref cda) cc)) (.func (iB P) (ksEnv "Wrong.__init__" iS s.heap.objs.size fI (.ref cda) cc)) (execs (iB P) (ksEnv "Wrong.__init__" iS s.heap.objs.size fI (.ref cda) cc)) _ _ _
  have m1 : (x, excObj C t0 none .none) ∈ [(x, excObj C t0 none .none)] := List.mem_singleton.mpr rfl
  refine PySem.ks_wpAt_execs_cons (PySem.ks_wpAt_Expr_any (PySem.ks_wpAt_MethodCall (pl := do return (← importBound (.Call (.Name "super" P.s0) [] [] P.s1) (ksEnv "Wrong.__init__" iS s.heap.objs.size fI (.ref cda) cc)).getD true) (wr_super T M F N (PySem.W.InstAt.of_exc0 N m1) rfl fun so h2 F2 N2 l2 => ?_) ?_))
  rotate_left
  · rw [arm_eval_Call]
    unfold methodCall methodCallPos
    simp only [hs, Bool.or_true, if_true, pure_bind]
    rfl
  have m2 : (x, excObj C t0 none .none) ∈ [(so, ks_superObj D x C), (x, excObj C t0 none .none)] := by simp
  refine PySem.W.ks_method F2 M.kin N2 (List.mem_cons_self ..) (PySem.W.InstAt.of_exc0 N2 m2) T.thp T.supI T.he.tyf (by decide) fun q h3 F3 N3 l3 => ?_
  refine PySem.W.callWith_M M.kin N3 (List.mem_cons_self ..) T.fnH ?_
  refine spliced_more (wr_text F3.ns rfl rfl rfl rfl rfl ha hb fun z tk t' => spliced_none ⟨PySem.W.methP N3 (List.mem_cons_self ..) (M.kin.keeps F3.keep), ?_⟩)
  have nq : q ≠ x := fun e => Nat.lt_irrefl _ (by have := l3 _ m2; rw [e] at this; exact this)
  have ns : so ≠ x := fun e => Nat.lt_irrefl _ (by have := l2 _ m1; rw [e] at this; exact this)
  have m3 : (x, excObj C t0 none .none) ∈ [(q, methodObj (.ref fH) (.ref x)), (so, ks_superObj D x C), (x, excObj C t0 none .none)] := by simp
  have xh := N3 _ m3
  have kG : ∀ b o, hp.get? b = some o → (h3.hide x).get? b = some o := fun b o e => (Heap.hide_ne h3 (fun z => by rw [z, hx0] at e; cases e)).trans (F3.keep b o e)
  obtain ⟨mb0, hb0, hbb0⟩ := M.blt
  have MG : Mod K mg (h3.hide x) := ⟨M.kin.keeps kG, M.glob.keeps kG, ⟨mb0, hb0.keeps kG, hbb0⟩, M.nolimit.keeps kG⟩
  refine PySem.W.call_meth N3 (List.mem_cons_self ..) ?_
  refine he_init (hp := h3.hide x) (x := x) T.he MG (fun b o e => Heap.of_hide e) (Nat.le_of_eq (Heap.hide_size h3 x)) xh.1 (Heap.hide_self h3 x) (show A.depth + 1 < recursionLimit from hroom) fun h4 tk4 t1 dx z0 tk1 k4 hx4 xdx nd hd4 => ?_
  have kF : ∀ b o, hp.get? b = some o → h4.get? b = some o := fun b o e => k4 b o (kG b o e)
  obtain ⟨oL, es, ep, hL, r⟩ := F3.ns
  have Lx : s.heap.objs.size ≠ x := fun z => xh.2.1 z.symm
  have hL4 : (h3.hide x).get? s.heap.objs.size = some oL := (Heap.hide_ne h3 Lx).trans hL
  have F4 : Fr hp s.heap.objs.size h4 _ := ⟨⟨oL, es, ep, k4 _ _ hL4, r⟩, kF, F3.above⟩
  have dL : dx ≠ s.heap.objs.size := fun z => by rw [z, hL4] at nd; cases nd
  have hd0 : hp.get? dx = none := by
    cases e : hp.get? dx with
    | none => rfl
    | some o => rw [kG _ _ e] at nd; cases nd
  have N5 : News hp s.heap.objs.size h4 [(dx, dictOf [⟨PyData.keyHash w.params "kind", .str "kind" z0, .str kd tk1⟩] 1), (x, excObj C t1 (some dx) .none)] := fun p hp2 => by
    simp only [List.mem_cons, List.mem_nil_iff, or_false] at hp2
    rcases hp2 with rfl | rfl
    · exact ⟨hd4, dL, hd0⟩
    · exact ⟨hx4, xh.2⟩
  have dxx : dx ≠ x := Nat.ne_of_gt xdx
  refine wpAt_of_wpAny (wpAny_execs_cons (plainObj_wpAny_Assign_Attribute ?_))
  refine wpAny_Name (wpAny_loadName_local rfl rfl F4.ns rfl (wpAny_Name (wpAny_loadName_local rfl rfl F4.ns rfl ?_) (by decide))) (by decide)
  refine PySem.W.set_excD (es' := [⟨PyData.keyHash w.params "kind", .str "kind" z0, .str kd tk1⟩, ⟨PyData.keyHash w.params "line", .str "line" _, .int a ta⟩]) (n' := 2) PySem.F.store_ValueError F4 M.kin N5 (.tail _ (List.mem_singleton.mpr rfl)) T.sa T.exo T.tkl T.hdC (List.mem_cons_self ..) (by first | rfl | decide +kernel) rfl (PySem.W.Upd.head (fun p hp2 => by rw [List.mem_singleton.mp hp2]; exact Ne.symm dxx)) (show 2 ≤ 1000 by decide) fun h6 F6 N6 => ?_
  refine wpAny_execs_cons (plainObj_wpAny_Assign_Attribute ?_)
  refine wpAny_Name (wpAny_loadName_local rfl rfl F6.ns rfl (wpAny_Name (wpAny_loadName_local rfl rfl F6.ns rfl ?_) (by decide))) (by decide)
  obtain ⟨z1, N6⟩ : ∃ z1, News hp s.heap.objs.size h6 [(dx, dictOf [⟨PyData.keyHash w.params "kind", .str "kind" z0, .str kd tk1⟩, ⟨PyData.keyHash w.params "line", .str "line" z1, .int a ta⟩] 2), (x, excObj C t1 (some dx) .none)] := ⟨_, N6⟩
  refine PySem.W.set_excD (es' := [⟨PyData.keyHash w.params "kind", .str "kind" z0, .str kd tk1⟩, ⟨PyData.keyHash w.params "line", .str "line" z1, .int a ta⟩, ⟨PyData.keyHash w.params "place", .str "place" _, .int b tb⟩]) (n' := 3) PySem.F.store_ValueError F6 M.kin N6 (.tail _ (List.mem_singleton.mpr rfl)) T.sa T.exo T.tkp T.hdC (List.mem_cons_self ..) (by first | rfl | decide +kernel) rfl (PySem.W.Upd.head (fun p hp2 => by rw [List.mem_singleton.mp hp2]; exact Ne.symm dxx)) (show 3 ≤ 1000 by decide) fun h7 F7 N7 => ?_
  refine wpAny_execs_nil ?_
  have q1 := N7 _ (.tail _ (List.mem_singleton.mpr rfl))
  have q2 := N7 _ (List.mem_cons_self ..)
  exact hq h7 _ t1 dx _ _ _ _ _ _ _ 3 F7.keep q1.1 xdx q2.1
/-- a made error of the class at C -/
theorem wr_made (T : WrTxt prog K C D fI cc cda B fH ccH cdaH kd) {s : Shared} (M : Mod K mg s.heap) {a b : Int} {ta tb : Tok} (ha : a.natAbs.log2 < 1920) (hb : b.natAbs.log2 < 1920) (hroom : A.depth + 2 < recursionLimit)
    (hq : ∀ h' tk e t1 dx k0 k1 k2 q0 q1 q2 tk1 n, (∀ b o, s.heap.get? b = some o → h'.get? b = some o) → s.heap.objs.size ≤ e → h'.get? e = some (excObj C t1 (some dx) .none) → dx ≠ e → s.heap.objs.size ≤ dx →
      h'.get? dx = some (dictOf [⟨k0, .str "kind" q0, .str kd tk1⟩, ⟨k1, .str "line" q1, .int a ta⟩, ⟨k2, .str "place" q2, .int b tb⟩] n) → R (.ok (.ret (.ref e))) { s with heap := h', toks := tk }) :
    codeAny (model prog w) A (.call (.ref C) ⟨[.int a ta, .int b tb], []⟩) R s := by
  obtain ⟨nm, N', qn, bs, bm, hdct, sn, sub, ab, col, dd, k0, k1, k2, k3, k5, hC, hT⟩ := PySem.W.excInit_of M.kin T.exi
  obtain ⟨hp, g, dr, tk, os⟩ := s
  have M : Mod K mg hp := M
  have hC : hp.get? C = _ := hC
  have two : [Value.int a ta, .int b tb].length ≤ sizeLine := by rw [sizeLine_eq]; show 2 ≤ 16777216; decide
  have k : ∀ c o, hp.get? c = some o → ((hp.push (PySem.W.kdv_tup [.int a ta, .int b tb])).push (HandSPX.excO C hp.objs.size)).get? c = some o := fun c o e => Heap.get?_push_of_some _ (Heap.get?_push_of_some _ e)
  have hget : ((hp.push (PySem.W.kdv_tup [.int a ta, .int b tb])).push (HandSPX.excO C hp.objs.size)).get? (hp.objs.size + 1) = some (HandSPX.excO C hp.objs.size) := by heap_get
  have hno : ∀ q, hp.objs.size ≤ q → hp.get? q = none := fun q hq' => by
    cases e : hp.get? q with
    | none => rfl
    | some o => exact absurd (Heap.lt_size e) (Nat.not_lt_of_le hq')
  refine HandSPX.call_own PySem.F.excBase_ValueError hT hC (PySem.W.looks_findIn M.kin T.ini) (fun self => PySem.W.bind_fn M.kin self T.tyf) two ?_
  refine wr_init (hp := hp) (s := ⟨(hp.push (PySem.W.kdv_tup [.int a ta, .int b tb])).push (HandSPX.excO C hp.objs.size), g, dr, tk, os⟩) T M k ?_ hget (hno _ (Nat.le_succ _)) ha hb ?_ fun h' tk' t1 dx k0 k1 k2 q0 q1 q2 tk1 n kp hx hlt hd => ?_
  · rw [Heap.size_push, Heap.size_push]; omega
  · show A.depth + 1 + 1 < recursionLimit
    exact hroom
  · exact ⟨rfl, hq h' tk' (hp.objs.size + 1) t1 dx k0 k1 k2 q0 q1 q2 tk1 n kp (Nat.le_succ _) hx (Nat.ne_of_gt hlt) (Nat.le_of_lt (Nat.lt_of_succ_lt hlt)) hd⟩
end
end LH

set_option maxHeartbeats 2000000
namespace LH
open PySem PySem.Spec PySem.Calls PyProof.Rows L2
open PySem.W (Frag clsIn findIn subIn typeIn nsIn keepIn codeIn hasDictIn mroIn excObj InstAt dictOf)
/-- the own dict of such an error -/
def wrFields (kd : Str) (a b : Int) : List (Str × V) := [("kind", .str kd), ("line", .int a), ("place", .int b)]
theorem wr_ns {h : Heap} {dx : Addr} {k0 k1 k2 : Int} {q0 q1 q2 tk1 : Tok} {kd : Str} {a b : Int} {ta tb : Tok} {n : Nat} (e : h.get? dx = some (dictOf [⟨k0, .str "kind" q0, .str kd tk1⟩, ⟨k1, .str "line" q1, .int a ta⟩, ⟨k2, .str "place" q2, .int b tb⟩] n)) :
    ∃ mA, h.Ns1 dx mA ∧ ∀ f, RelO (List.lookup f (wrFields kd a b)) (mA f) := by
  have lp : (Str.ofString "line" : Str) ≠ Str.ofString "place" := by decide +kernel
  have kl : (Str.ofString "kind" : Str) ≠ Str.ofString "line" := by decide +kernel
  have kp : (Str.ofString "kind" : Str) ≠ Str.ofString "place" := by decide +kernel
  refine ⟨fun f => if f = "kind" then some (.str kd tk1) else if f = "line" then some (.int a ta) else if f = "place" then some (.int b tb) else none, ⟨_, _, _, e, rfl, fun x hx => ?_, ?_, fun f => ?_⟩, fun f => ?_⟩
  · simp only [List.mem_toArray, List.mem_cons, List.mem_nil_iff, or_false] at hx
    rcases hx with rfl | rfl | rfl <;> exact ⟨_, _, rfl⟩
  · show List.Pairwise _ _
    simp only [List.pairwise_cons, List.mem_cons, List.mem_nil_iff, or_false]
    refine ⟨fun y hy m h1 h2 => ?_, ⟨fun y hy m h1 h2 => ?_, ⟨fun _ h => h.elim, List.Pairwise.nil⟩⟩⟩
    · have e1 : (Str.ofString "kind" : Str) = m := by simpa [Value.isStr] using h1
      rcases hy with rfl | rfl
      · have e2 : (Str.ofString "line" : Str) = m := by simpa [Value.isStr] using h2
        exact kl (e1.trans e2.symm)
      · have e2 : (Str.ofString "place" : Str) = m := by simpa [Value.isStr] using h2
        exact kp (e1.trans e2.symm)
    · subst hy
      have e1 : (Str.ofString "line" : Str) = m := by simpa [Value.isStr] using h1
      have e2 : (Str.ofString "place" : Str) = m := by simpa [Value.isStr] using h2
      exact lp (e1.trans e2.symm)
  · unfold nsFind findBy
    rw [List.find?_toArray]
    by_cases h0 : f = "kind"
    · subst h0
      simp [List.find?, Value.isStr]
    · have z0 : ((Str.ofString "kind" : Str) == f) = false := by simpa using fun h => h0 h.symm
      by_cases h1 : f = "line"
      · subst h1
        simp [List.find?, Value.isStr, z0, h0]
      · have z1 : ((Str.ofString "line" : Str) == f) = false := by simpa using fun h => h1 h.symm
        by_cases h2 : f = "place"
        · subst h2
          simp [List.find?, Value.isStr, z0, z1, h0, h1]
        · have z2 : ((Str.ofString "place" : Str) == f) = false := by simpa using fun h => h2 h.symm
          simp [List.find?, Value.isStr, z0, z1, z2, h0, h1, h2]
  · unfold wrFields
    dsimp only
    by_cases h0 : f = "kind"
    · subst h0
      show RelO (some (V.str kd)) _
      rw [if_pos rfl]
      exact ⟨_, rfl⟩
    · have z0 : (f == (Str.ofString "kind" : Str)) = false := by simpa using h0
      rw [if_neg h0]
      by_cases h1 : f = "line"
      · subst h1
        rw [if_pos rfl]
        show RelO (List.lookup _ _) _
        simp only [List.lookup, z0, beq_self_eq_true]
        exact ⟨_, rfl⟩
      · have z1 : (f == (Str.ofString "line" : Str)) = false := by simpa using h1
        by_cases h2 : f = "place"
        · subst h2
          rw [if_neg h1, if_pos rfl]
          show RelO (List.lookup _ _) _
          simp only [List.lookup, z0, z1, beq_self_eq_true]
          exact ⟨_, rfl⟩
        · have z2 : (f == (Str.ofString "place" : Str)) = false := by simpa using h2
          rw [if_neg h1, if_neg h2]
          simp only [List.lookup, z0, z1, z2]
          trivial
/-! ### raise C(row, place) -/
def tMkW (C : Addr) (kd : Str) (ta : TA) : L2.St → Hp → XK → Prop := fun σ H Q => ta σ H fun vs H1 => ∃ a b : Int, vs = [.int a, .int b] ∧ a.natAbs.log2 < 1920 ∧ b.natAbs.log2 < 1920 ∧ ∀ d, H1 d = none → Q (.ref C) (some d) (upd H1 d (.xd (wrFields kd a b)))
/-- the class as its raisers see it -/
structure WrC (prog : Program) (K : Frag) (mg : Str → Option Value) (nm : Str) (C D fI cc cda B fH ccH cdaH : Addr) (kd : Str) : Prop where
  txt : WrTxt prog K C D fI cc cda B fH ccH cdaH kd
  mg : mg nm = some (.ref C)
  kp : keepIn K (.ref C) = true
  ex : subIn K (.ref C) (.type "BaseException") = some true
  ty : typeIn K (.ref C) = some (.type "type")
section
variable {X : Cx} {nm kd : Str} {C D fI cc cda B fH ccH cdaH : Addr}
theorem pmk_wr {e1 e2 : Expr} {ta : TA} {p pos : Pos} {k : Nat} (T : WrC X.prog X.K X.mg nm C D fI cc cda B fH ccH cdaH kd) (hr : Room k X.A) (ha : PA X [e1, e2] ta) (hg : Gl X nm := by rfl) (hdb : (nm == ("__debug__" : Str)) = false := by decide)
    (he : starEach (e1 :: [e2]) X.env = (false, eval e1 X.env) :: starEach [e2] X.env := by rfl) (hpl : (backTo pos (starEach [e2] X.env)).any (·.1) = false := by rfl) :
    PMk X (.Call (.Name nm p) [e1, e2] [] pos) (tMkW C kd ta) := by
  intro pins s σ H Q I h
  refine wpAny_Call_Name_kw (ld_glob I hg T.mg ?_ hdb)
  refine PySem.W.callWith_K (h₀ := X.base) I.ok.mod.kin T.kp (thn (ha.run pos pins s σ H _ I h) fun us s1 hh => ?_) he hpl
  obtain ⟨vs, H1, I1, r1, a, b, ev, hla, hlb, q1⟩ := hh
  subst ev
  refine ⟨I1.kIn, ?_⟩
  obtain ⟨u1, u2, rfl, rv1, rv2⟩ := vals2 r1
  obtain ⟨ta', rfl⟩ := rv1
  obtain ⟨tb', rfl⟩ := rv2
  show wpAny _ _ (call (.ref C) [.int a ta', .int b tb']) _ _ _
  obtain ⟨mb, hmb, hbb⟩ := I.ok.mod.blt
  have M1 : Mod X.K X.mg s1.heap := ⟨I1.kIn, I1.ok.mod.glob.keeps I1.bk, ⟨mb, hmb.keeps I1.bk, hbb⟩, I1.nolimit⟩
  obtain ⟨hp, g, dr, tk, os⟩ := s1
  refine wpAny_call (wr_made T.txt M1 hla hlb (by have := hr.dp; omega) fun h' tk' e t1 d k0 k1 k2 z0 z1 z2 tkk n keep new hoe dne dbig hd => ?_)
  show MkP X pins σ Q (.ref e) ⟨h', g, dr, tk', os⟩
  have old : ∀ c o, hp.get? c = some o → h'.get? c = some o := keep
  have hoe : h'.get? e = some (excObj C t1 (some d) .none) := hoe
  obtain ⟨G', g1, g2⟩ := restrict h' fun c => decide (c ≠ e)
  have gk : ∀ c, c ≠ e → G'.get? c = h'.get? c := fun c hc => g1 c (decide_eq_true hc)
  have ge : G'.get? e = none := g2 e (by simp)
  have oldG : ∀ c o, hp.get? c = some o → G'.get? c = some o := fun c o q => (gk c (Nat.ne_of_lt (Nat.lt_of_lt_of_le (Heap.lt_size q) new))).trans (old c o q)
  obtain ⟨mA, hns, hrel⟩ := wr_ns hd
  have ob : ObjOk X.prog X.w (upd H1 d (.xd (wrFields kd a b))) G' d (.xd (wrFields kd a b)) := ⟨mA, hns.at (fun o q => (gk d dne).trans q), hrel⟩
  have J : Inv X pins σ (upd H1 d (.xd (wrFields kd a b))) ⟨G', g, dr, tk', os⟩ := I1.laid (t' := tk') oldG dbig ob
  refine ⟨e, _, _, ⟨G', g, dr, tk', os⟩, _, .ref C, some d, rfl, J, fun c o q => ?_, ge, hoe, ⟨rfl, rfl⟩, rfl, rfl, ?_, rfl, I1.bare, raises_own T.ex T.ty, q1 d (I1.hok.fresh dbig)⟩
  · by_cases hc : c = e
    · have q' : G'.get? c = some o := q
      rw [hc, ge] at q'
      exact nomatch q'
    · exact (gk c hc).symm.trans q
  · rw [upd_ne (Ne.symm dne)]
    exact I1.hok.fresh new
def tRaiseW (C : Addr) (kd : Str) (W : WX) (ta : TA) : TS := fun _ σ H => tMkW C kd ta σ H fun cls d H' => W cls d σ H'
theorem ps_raiseW {e1 e2 : Expr} {ta : TA} {W : WX} {p pos pos2 : Pos} {k : Nat} (hc : X.calm = true) (T : WrC X.prog X.K X.mg nm C D fI cc cda B fH ccH cdaH kd) (hr : Room k X.A) (tk : Takes X W) (ha : PA X [e1, e2] ta) (hg : Gl X nm := by rfl) (hdb : (nm == ("__debug__" : Str)) = false := by decide)
    (he : starEach (e1 :: [e2]) X.env = (false, eval e1 X.env) :: starEach [e2] X.env := by rfl) (hpl : (backTo pos (starEach [e2] X.env)).any (·.1) = false := by rfl) :
    PS X (.Raise (some (.Call (.Name nm p) [e1, e2] [] pos)) none pos2) (tRaiseW C kd W ta) := ps_raise hc tk (pmk_wr T hr ha hg hdb he hpl)
end
end LH

set_option maxHeartbeats 2000000
namespace LH
open PySem PySem.Spec PySem.Calls PyProof.Rows L2
open PySem.W (Frag clsIn findIn subIn hasDictIn)
/-! ### a held error with an own dict: isinstance of it, its attributes -/
/-- the error at a, of the class at D, its own dict at dd with the fields fs -/
def HeldD (H : Hp) (D dd a : Addr) (fs : List (Str × V)) : Prop := H a = some (ExH (.ref D) (some dd) a) ∧ H dd = some (.xd fs)
theorem HeldD.same {H H' : Hp} {D dd a : Addr} {fs : List (Str × V)} (h : HeldD H D dd a fs) (s : Same H H') : HeldD H' D dd a fs := ⟨s _ _ h.1, s _ _ h.2⟩
theorem held_inst {X : Cx} {pins : List (Addr × Obj)} {σ : L2.St} {H : Hp} {s : Shared} {D dd a : Addr} {fs : List (Str × V)} (I : Inv X pins σ H s) (h : HeldD H D dd a fs) :
    ∃ (oe od : Obj) (mA : Str → Option Value), PySem.W.InstAt s.heap a oe D (some od) ∧ (∀ f, PySem.W.lookIn f od = some (mA f)) ∧ ∀ f, RelO (List.lookup f fs) (mA f) := by
  obtain ⟨⟨oe, fv, hget, ⟨h1, h2⟩, h3⟩, _, _⟩ := (show ObjOk X.prog X.w H s.heap a (ExH (.ref D) (some dd) a) from I.hok a _ h.1)
  obtain ⟨mA, hns, hr⟩ := (show ObjOk X.prog X.w H s.heap dd (.xd fs) from I.hok dd _ h.2)
  obtain ⟨od, ho, hl⟩ := lookIn_ns hns
  exact ⟨oe, od, mA, ⟨hget, h1, by unfold PySem.W.notCls; rw [h3] <;> rfl, by rw [h2]; exact ho⟩, hl, hr⟩
def rIsD (K : Frag) : List V → Hp → VK → Prop := fun xs H Q => ∃ (a D dd : Addr) (fs : List (Str × V)) (c : V) (cv : Value) (b : Bool), xs = [.ref a, c] ∧ HeldD H D dd a fs ∧ ExcC K D ∧ (∀ u, RelV c u → u = cv) ∧ PySem.W.kitOne K (.ref D) cv = some b ∧ Q (.bl b) H
theorem call_isD {X : Cx} : CallR X (.builtin "isinstance") (rIsD X.K) := by
  intro pins s σ H xs us Q I r h
  obtain ⟨a, D, dd, fs, c, cv, b, rfl, hh, C, hcv, e, q⟩ := h
  obtain ⟨u1, u2, rfl, r1, r2⟩ := vals2 r
  cases (show u1 = Value.ref a from r1)
  obtain rfl := hcv _ r2
  obtain ⟨oe, od, mA, J, _, _⟩ := held_inst I hh
  have hcl : (clsIn X.K D).isSome = true := by
    obtain ⟨cd, hc, _⟩ := PySem.W.any_some C.hd
    rw [hc]; rfl
  exact PySem.W.kia_one (PySem.W.kitx_exc hcl C.hg C.hk C.hs C.ha C.hn C.ht C.hm) I.kIn J e (fun z => nomatch z) fun tk => ⟨.bl b, H, I.kept (t' := tk) fun _ _ z => z, rfl, q⟩
theorem cIsD {X : Cx} (K : Frag) (h : X.K = K := by rfl) : CallR X (.builtin "isinstance") (rIsD K) := h ▸ call_isD
/-- isinstance of a held error, with or without an own dict -/
def rIsE' (K : Frag) : List V → Hp → VK → Prop := fun xs H Q => rIsH K xs H Q ∨ rIsD K xs H Q
theorem cIsHD {X : Cx} (K : Frag) (h : X.K = K := by rfl) : CallR X (.builtin "isinstance") (rIsE' K) := fun pins s σ H xs us Q I r q => q.elim (cIsH K h pins s σ H xs us Q I r) (cIsD K h pins s σ H xs us Q I r)
/-- an attribute of it that stands in its own dict -/
def tFld (K : Frag) (f : Str) (te : TE) : TE := fun σ H Q => te σ H fun x H1 => ∃ (a D dd : Addr) (fs : List (Str × V)) (v : V), x = .ref a ∧ HeldD H1 D dd a fs ∧ ExcC K D ∧ findIn K (.ref D) f = some none ∧ fs.lookup f = some v ∧ Q v H1
theorem pe_fldD {X : Cx} {K : Frag} {e : Expr} {te : TE} {pos : Pos} {f : Str} (he : PE X e te) (hK : X.K = K := by rfl) (hb : attributeBase e f X.env (eval e X.env) = eval e X.env := by rfl) : PE X (.Attribute e f pos) (tFld K f te) := by
  subst hK
  refine ⟨fun pins s σ H Q I h => ?_⟩
  refine attr_of hb (thn (he.run pins s σ H _ I h) fun u s1 hh => ?_)
  obtain ⟨x, H1, I1, rx, a, D, dd, fs, v, ex, hd, C, hno, hv, q⟩ := hh
  subst ex
  obtain rfl : u = Value.ref a := rx
  obtain ⟨oe, od, mA, J, hl, hr⟩ := held_inst I1 hd
  obtain ⟨w', hw, rw'⟩ := RelO.some_of (v := v) (o := mA f) (by rw [← hv]; exact hr f)
  exact HandSPX.exc_get I1.kIn J C.hg C.hk C.hs (PySem.W.findObj_own C.hd hno rfl (by rw [hl, hw])) (handed_of rw') ⟨v, H1, I1.tok _, rw', q⟩
end LH

namespace LH
open PySem PySem.Spec PyProof.Rows L2 Builtin Builtin.Str PySem.StrLaws
/-! ### one sign: where it is found, how often it stands, whether it ends a text, a text without it at its end -/
theorem find_hit (x : Str) (c : Nat) (p r : List Nat) (hx : TL.tl x = p ++ c :: r) (hp : c ∉ p) : Txt.find x ⟨#[c]⟩ = (p.length : Int) ∧ ∃ rest, occurrences x ⟨#[c]⟩ 0 x.length 1 = p.length :: rest := by
  have hm0 : x.cps.toList[p.length]? = some c := by
    show (TL.tl x)[p.length]? = some c
    rw [hx]; simp
  have hn0 : ∀ k, k < p.length → x.cps.toList[k]? ≠ some c := fun k hk e => by
    have e' : (TL.tl x)[k]? = some c := e
    rw [hx, List.getElem?_append_left hk] at e'
    exact hp (List.mem_of_getElem? e')
  unfold Txt.find
  rcases occ_head x ⟨#[c]⟩ 1 (Nat.le_refl 1) with ⟨h0, hn⟩ | ⟨i, q, h0, hi, hn⟩
  · exact absurd ((subAt_one x c p.length).mpr hm0) (hn _)
  · have hm := (subAt_one x c i).mp hi
    have e : i = p.length := by
      rcases Nat.lt_trichotomy i p.length with h | h | h
      · exact absurd hm (hn0 i h)
      · exact h
      · exact absurd ((subAt_one x c p.length).mpr hm0) (hn _ h)
    subst e
    rw [h0]
    exact ⟨rfl, q, rfl⟩
theorem find_miss (x : Str) (c : Nat) (h : c ∉ TL.tl x) : Txt.find x ⟨#[c]⟩ = -1 := by
  unfold Txt.find
  rcases occ_head x ⟨#[c]⟩ 1 (Nat.le_refl 1) with ⟨h0, hn⟩ | ⟨i, q, h0, hi, hn⟩
  · rw [h0]
  · exact absurd (List.mem_of_getElem? ((subAt_one x c i).mp hi)) h
/-- the place of a sign in a text of unlike signs -/
theorem find_at (x : Str) (i : Nat) (h : i < (TL.tl x).length) (hd : (TL.tl x).Nodup) : Txt.find x ⟨#[(TL.tl x)[i]]⟩ = (i : Int) ∧ ∃ rest, occurrences x ⟨#[(TL.tl x)[i]]⟩ 0 x.length 1 = i :: rest := by
  have e : TL.tl x = (TL.tl x).take i ++ (TL.tl x)[i] :: (TL.tl x).drop (i + 1) := by
    rw [← List.drop_eq_getElem_cons h, List.take_append_drop]
  have hl : ((TL.tl x).take i).length = i := by rw [List.length_take]; omega
  have hn : (TL.tl x)[i] ∉ (TL.tl x).take i := fun hm => by
    obtain ⟨j, hj, ej⟩ := List.mem_iff_getElem.mp hm
    rw [hl] at hj
    rw [List.getElem_take] at ej
    exact List.pairwise_iff_getElem.mp hd j i (by omega) h hj ej
  have := find_hit x (TL.tl x)[i] _ _ e hn
  rw [hl] at this
  exact this
theorem count_one (x : Str) (c : Nat) : Txt.count x ⟨#[c]⟩ = ((TL.tl x).count c : Nat) := by
  have hsub : ∀ i, (i + (⟨#[c]⟩ : Str).length ≤ x.length ∧ subAt x ⟨#[c]⟩ i = true) ↔ (TL.tl x)[i]? = some c := fun i => subAt_one x c i
  have key : ∀ (n lo : Nat) (st : Array Nat × Nat), lo + n = x.length + 1 → st.1.size ≤ lo → st.2 ≤ lo → (forIn (List.range' lo n) st (occBody x ⟨#[c]⟩ x.length (x.length + 1))).run.1.size = st.1.size + ((TL.tl x).drop lo).count c := by
    intro n
    induction n with
    | zero =>
      intro lo st h1 h2 h3
      have : (TL.tl x).drop lo = [] := List.drop_of_length_le (by rw [← TL.len_tl]; omega)
      rw [this]
      simp
    | succ n ih =>
      intro lo st h1 h2 h3
      rw [List.range'_succ, List.forIn_cons]
      unfold occBody
      by_cases hc : (TL.tl x)[lo]? = some c
      · have hs := (hsub lo).mpr hc
        rw [if_pos ⟨⟨⟨by omega, h3⟩, hs.1⟩, hs.2⟩]
        have hlt := (List.getElem?_eq_some_iff.mp hc).1
        have hd : (TL.tl x).drop lo = c :: (TL.tl x).drop (lo + 1) := by
          rw [List.drop_eq_getElem_cons hlt, (List.getElem?_eq_some_iff.mp hc).2]
        have := ih (lo + 1) (st.1.push lo, lo + (⟨#[c]⟩ : Str).length) (by omega) (by rw [Array.size_push]; omega) (by show lo + 1 ≤ lo + 1; omega)
        simp only [pure_bind]
        refine Eq.trans this ?_
        show (st.1.push lo).size + _ = _
        rw [Array.size_push, hd, List.count_cons_self]
        omega
      · rw [if_neg (fun h => hc ((hsub lo).mp ⟨h.1.2, h.2⟩))]
        have := ih (lo + 1) (st.1, st.2) (by omega) (by show st.1.size ≤ lo + 1; omega) (by show st.2 ≤ lo + 1; omega)
        simp only [pure_bind]
        refine Eq.trans this ?_
        have hd : ((TL.tl x).drop lo).count c = ((TL.tl x).drop (lo + 1)).count c := by
          by_cases hlt : lo < (TL.tl x).length
          · rw [List.drop_eq_getElem_cons hlt]
            rw [List.getElem?_eq_getElem hlt] at hc
            have : (TL.tl x)[lo] ≠ c := fun e => hc (congrArg some e)
            exact List.count_cons_of_ne this
          · rw [List.drop_of_length_le (by omega), List.drop_of_length_le (by omega)]
        rw [hd]
  unfold Txt.count
  rw [occ_eq, Array.length_toList, Nat.sub_zero, key (x.length + 1) 0 (#[], 0) (by omega) (Nat.zero_le _) (Nat.zero_le _)]
  simp
theorem ends_one (x y : Str) (c : Nat) (hy : TL.tl y = [c]) : Txt.endswith x y = decide ((TL.tl x).getLast? = some c) := by
  obtain rfl : y = ⟨#[c]⟩ := TL.ext_tl hy
  unfold Txt.endswith
  rw [Bool.eq_iff_iff, Bool.and_eq_true, decide_eq_true_eq, decide_eq_true_eq]
  have hl : x.length = (TL.tl x).length := TL.len_tl x
  have h1 : (⟨#[c]⟩ : Str).length = 1 := rfl
  constructor
  · rintro ⟨h2, h3⟩
    have := (subAt_one x c (x.length - 1)).mp ⟨by rw [h1] at *; omega, h3⟩
    have e : (TL.tl x)[(TL.tl x).length - 1]? = some c := by rw [← hl]; exact this
    rw [List.getLast?_eq_getElem?]
    exact e
  · intro h
    rw [List.getLast?_eq_getElem?] at h
    have hlt := (List.getElem?_eq_some_iff.mp h).1
    have := (subAt_one x c (x.length - 1)).mpr (by rw [hl]; exact h)
    exact ⟨by rw [h1]; omega, this.2⟩
theorem rstrip_app (x y : Str) (c : Nat) (b : List Nat) (k : Nat) (hy : TL.tl y = [c]) (hx : TL.tl x = b ++ List.replicate k c) (hb : b.getLast? ≠ some c) : TL.tl (Txt.rstripChars x y) = b := by
  obtain rfl : y = ⟨#[c]⟩ := TL.ext_tl hy
  have hl : x.length = b.length + k := by rw [TL.len_tl, hx, List.length_append, List.length_replicate]
  have htw : ((x.cps.toList.drop 0).reverse.takeWhile (⟨#[c]⟩ : Str).cps.contains).length = k := by
    rw [List.drop_zero, show x.cps.toList = TL.tl x from rfl, hx, List.reverse_append, List.reverse_replicate]
    have hc : ∀ d, (⟨#[c]⟩ : Str).cps.contains d = decide (d = c) := fun d => by
      show (#[c] : Array Nat).contains d = _
      simp
    rw [List.takeWhile_append_of_pos (by intro d hd; rw [hc]; exact decide_eq_true (List.mem_replicate.mp hd).2)]
    rw [List.length_append, List.length_replicate]
    have : (b.reverse.takeWhile (⟨#[c]⟩ : Str).cps.contains) = [] := by
      rcases List.eq_nil_or_concat b with h | ⟨B, d, h⟩
      · rw [h]; rfl
      · rw [List.concat_eq_append] at h
        rw [h] at hb ⊢
        rw [List.getLast?_concat] at hb
        rw [List.reverse_append]
        show List.takeWhile _ (d :: B.reverse) = []
        rw [List.takeWhile_cons, hc, decide_eq_false (fun e => hb (congrArg some e))]
        rfl
    rw [this]
    rfl
  unfold Txt.rstripChars Txt.stripBy
  have hlo : stripLo (⟨#[c]⟩ : Str).cps.contains false x = 0 := rfl
  have hhi : stripHi (⟨#[c]⟩ : Str).cps.contains true x 0 = b.length := by
    unfold stripHi
    rw [if_pos rfl, htw, hl]
    omega
  split
  · rename_i h
    unfold stripSame at h
    rw [hlo, hhi, hl] at h
    simp only [beq_self_eq_true, Bool.true_and, beq_iff_eq] at h
    have : k = 0 := by omega
    rw [hx, this]
    simp
  · unfold stripped
    rw [hlo, hhi]
    show (strSub x 0 b.length).cps.toList = b
    rw [strSub_toList, show x.cps.toList = TL.tl x from rfl, hx]
    simp
end LH

namespace LH
open PySem PySem.Spec PySem.Calls PyProof.Rows L2
/-! ### a call of what a parameter holds -/
/-- at f stands a def of the promise sp -/
def FnV (P : Program) (w : World) (K : PySem.W.Frag) (mg : Str → Option Value) (base : Heap) (k : Nat) (f : Addr) (sp : Sp) : Prop := ∃ (fd : FuncData) (ps : List Str), FnOk P w K mg base CX0 k f fd ps sp ∧ PySem.W.keepIn K (.ref f) = true ∧ Binds K fd ps []
def tCallV (P : Program) (w : World) (K : PySem.W.Frag) (mg : Str → Option Value) (base : Heap) (k : Nat) (tv : TE) (t : TA) : TE := fun σ H Q => tv σ H fun v H1 => ∃ (f : Addr) (sp : Sp), v = .ref f ∧ FnV P w K mg base k f sp ∧ t σ H1 fun vs H2 => sp vs H2 Q E0
theorem pe_callV {X : Cx} {x : Str} {k : Nat} {e : Expr} {es : List Expr} {tv : TE} {t : TA} {p pos : Pos} (hr : Room k X.A) (hv : PE X (.Name x p) tv) (ha : PA X (e :: es) t) (he : starEach (e :: es) X.env = (false, eval e X.env) :: starEach es X.env := by rfl) (hpl : (backTo pos (starEach es X.env)).any (·.1) = false := by rfl) :
    PE X (.Call (.Name x p) (e :: es) [] pos) (tCallV X.prog X.w X.K X.mg X.base k tv t) := by
  refine ⟨fun pins s σ H Q I h => ?_⟩
  refine wpAny_Call_Name_kw (thn (hv.run pins s σ H _ I h) fun u s1 ⟨v, H1, I1, rv, f, sp, ev, ⟨fd, ps, F, hk, hb⟩, q⟩ => ?_)
  subst ev
  obtain rfl : u = Value.ref f := rv
  refine PySem.W.callWith_K (h₀ := X.base) I.ok.mod.kin hk (thn (ha.run pos pins s1 σ H1 _ I1 q) fun us s2 ⟨vs, H2, I2, r, q2⟩ => ⟨I2.kIn, ?_⟩) he hpl
  exact run_fn F hr hb .nil pass0 I2 r (by rw [List.append_nil]; exact q2)
theorem FnV.of {P : Program} {w : World} {K : PySem.W.Frag} {mg : Str → Option Value} {base : Heap} {x : Str} {k : Nat} {f : Addr} {fd : FuncData} {ps : List Str} {sp : Sp} (D : Def P w K mg base x k f fd ps sp) : FnV P w K mg base k f sp := ⟨fd, ps, D.ok, D.kp, D.bd⟩
end LH

namespace LH
open PySem PySem.Spec PySem.Calls PyProof.Rows L2
/-! ### a thing in a tuple of data -/
def rInT (K : PySem.W.Frag) : R2 := fun x y H Q => ∃ d ds, Dp K H x d ∧ Dp K H y (.tuple ds) ∧ SeqAt.shaped d = true ∧ SeqAt.shaped (.tuple ds) = true ∧ Q (.bl (ds.any fun z => PyData.eqv z d)) H
theorem op_inT {X : Cx} (K : PySem.W.Frag) (hu : X.A.units + 65 < cLine) (hK : X.K = K := by rfl) : OpR X (compareOp .In) (rInT K) := by
  subst hK
  intro pins s σ H x y v u Q I rx ry h
  obtain ⟨d, ds, hd, he, sd, se, q⟩ := h
  obtain ⟨as, r1⟩ := Dp.reads I d x v hd rx
  obtain ⟨bs, r2⟩ := Dp.reads I (.tuple ds) y u he ry
  exact SeqAt.in_tuple_reads r2 r1 (SeqAt.canLay_of_shaped se) (SeqAt.canLay_of_shaped sd) (room_in_shaped sd hu) ⟨.bl _, H, I, rfl, q⟩
theorem unit1 {k : Nat} {A : Around} (hr : Room k A) : A.units + 1 < cLine := by have := hr.un; omega
theorem room65 {k : Nat} {A : Around} (hr : Room (k + 1) A) : A.units + 65 < cLine := by have := hr.un; omega
end LH

namespace K06
open PySem PySem.Spec PyProof.Rows L2 LH
def topS (i : Nat) : Stmt := PySem.Challenge.pw_letterhouse_k06_sixty_read_or_refused.main.body.getD i (.Pass ⟨0, 0, 0, 0⟩)
def S64 : Str := Str.ofString "ABCDEFGHIJKLMNOPQRSTUVWXYZabcdefghijklmnopqrstuvwxyz0123456789+/"
structure Tx (mg : Str → Option Value) (tk : Nat → Tok) : Prop where
  n_ValueError : mg "ValueError" = none
  n_all : mg "all" = none
  n_bool : mg "bool" = none
  n_enumerate : mg "enumerate" = none
  n_int : mg "int" = none
  n_isinstance : mg "isinstance" = none
  n_len : mg "len" = none
  n_list : mg "list" = none
  n_max : mg "max" = none
  n_range : mg "range" = none
  n_str : mg "str" = none
  n_tuple : mg "tuple" = none
  m_ROW_SIGNS : mg "ROW_SIGNS" = some (.int 60 (tk 0))
  m_SIXTY_FOUR : mg "SIXTY_FOUR" = some (.str S64 (tk 1))
end K06

namespace K06
open PySem PySem.Spec PyProof.Rows L2 LH
/-! ### the classes of refusals -/
/-- a class whose errors hold their row and place -/
structure RaiseW (K : PySem.W.Frag) (hs C : Addr) : Prop where
  xc : ExcC K C
  fits : PySem.W.exmOne K (.ref C) (.ref hs) = some true
  base : PySem.W.kitOne K (.ref C) (.type "ValueError") = some true
  noL : PySem.W.findIn K (.ref C) "line" = some none
  noP : PySem.W.findIn K (.ref C) "place" = some none
/-- what isinstance says of its objects, class by class -/
def KitRow (K : PySem.W.Frag) (ca : Nat → Addr) (C : Addr) (row : List Bool) : Prop := row.length = 19 ∧ ∀ j, j < 19 → PySem.W.kitOne K (.ref C) (.ref (ca (j + 1))) = some (row.getD j false)
structure Ex (K : PySem.W.Frag) (mg : Str → Option Value) (ca : Nat → Addr) : Prop where
  m_HouseError : mg "HouseError" = some (.ref (ca 0))
  m_BadBytes : mg "BadBytes" = some (.ref (ca 1))
  m_BadName : mg "BadName" = some (.ref (ca 2))
  m_BadValue : mg "BadValue" = some (.ref (ca 3))
  m_TooLong : mg "TooLong" = some (.ref (ca 4))
  m_NoTime : mg "NoTime" = some (.ref (ca 5))
  m_BadPiece : mg "BadPiece" = some (.ref (ca 6))
  m_Twice : mg "Twice" = some (.ref (ca 7))
  m_NoLetter : mg "NoLetter" = some (.ref (ca 8))
  m_NoFolder : mg "NoFolder" = some (.ref (ca 9))
  m_BadLine : mg "BadLine" = some (.ref (ca 10))
  m_Wrong : mg "Wrong" = some (.ref (ca 11))
  m_BadRow : mg "BadRow" = some (.ref (ca 12))
  m_BadSixty : mg "BadSixty" = some (.ref (ca 13))
  m_BadSixteens : mg "BadSixteens" = some (.ref (ca 14))
  m_BadTime : mg "BadTime" = some (.ref (ca 15))
  m_BadPeople : mg "BadPeople" = some (.ref (ca 16))
  m_BadHeader : mg "BadHeader" = some (.ref (ca 17))
  m_BadBody : mg "BadBody" = some (.ref (ca 18))
  m_BadRule : mg "BadRule" = some (.ref (ca 19))
def nms : List Str := [Str.ofString "bytes", Str.ofString "name", Str.ofString "value", Str.ofString "long", Str.ofString "time", Str.ofString "piece", Str.ofString "twice", Str.ofString "letter", Str.ofString "folder", Str.ofString "line", Str.ofString "wrong", Str.ofString "row", Str.ofString "sixty", Str.ofString "sixteens", Str.ofString "badtime", Str.ofString "people", Str.ofString "header", Str.ofString "body", Str.ofString "rule", Str.ofString "base"]
/-- the words of a refusal -/
def kindWords (row : List Bool) : List Str := ((List.range 20).filter fun i => (row ++ [true]).getD i false).map fun i => nms.getD i Str.empty
section
variable {P : Program} {w : World} {K : PySem.W.Frag} {mg : Str → Option Value} {base : Heap} {tk : Nat → Tok} {ca : Nat → Addr}
/-- the list of pairs so far: at p refs to ts, the i-th a pair of a name and its truth -/
def Fnd (H : Hp) (p : Addr) (ts : List Addr) (bs : List Bool) : Prop := H p = some (.lst (ts.map V.ref)) ∧ ∀ i, i < ts.length → H (ts.getD i 0) = some (.tup [.str (nms.getD i Str.empty), .bl (bs.getD i false)])
theorem Fnd.grow {H H' : Hp} {p q : Addr} {ts us : List Addr} {bs : List Bool} (h : Fnd H p ts bs) (s : Same H H') (hq : H' q = some (.lst (ts.map V.ref ++ us.map V.ref))) (hu : ∀ j, j < us.length → H' (us.getD j 0) = some (.tup [.str (nms.getD (ts.length + j) Str.empty), .bl (bs.getD (ts.length + j) false)])) : Fnd H' q (ts ++ us) bs := by
  refine ⟨by rw [hq, List.map_append], fun i hi => ?_⟩
  by_cases hl : i < ts.length
  · rw [getD_app_l _ _ _ hl]
    exact s _ _ (h.2 i hl)
  · rw [getD_app_r _ _ _ (by omega)]
    rw [List.length_append] at hi
    have := hu (i - ts.length) (by omega)
    rw [show ts.length + (i - ts.length) = i by omega] at this
    exact this
/-! ### _law_kind -/
abbrev s__law_kind : Stmt := topS 48
abbrev N__law_kind : List Str := ["_law_e", "_law_found", "_law_words", "_law_word", "_law_one_fits"]
abbrev P__law_kind : List Str := ["_law_e"]
theorem sc__law_kind : FnScope N__law_kind ["_law_e"] (defScope s__law_kind) := ⟨rfl, rfl, rfl, by decide +kernel, rfl, by decide +kernel, by decide +kernel⟩
def sp_kind (K : PySem.W.Frag) (ca : Nat → Addr) : Sp := fun vs H Q _ => ∃ (a C dd : Addr) (l p : Int) (row : List Bool), vs = [.ref a] ∧ HeldD H C dd a (wrFields "badsixty" l p) ∧ RaiseW K (ca 0) C ∧ KitRow K ca C row ∧ row.getD 10 false = true ∧ New H ((kindWords row).map V.str ++ [.int l, .int p]) Q
set_option maxHeartbeats 8000000 in
theorem ok_kind {f : Addr} {fd : FuncData} {k : Nat} (F : Fun K "_law_kind" "_law_kind" s__law_kind f fd) (T : Tx mg tk) (E : Ex K mg ca) : FnOk P w K mg base CX0 (k + 1) f fd P__law_kind (sp_kind K ca) := by
  refine F.ok sc__law_kind (fun vs H Q _ h => ?_) (fun cdv A outer s H vs Q _ hr h => ?_)
  · obtain ⟨a, C, dd, l, p, row, rfl, _⟩ := h
    rfl
  · have nd := sc__law_kind.nd
    obtain ⟨a, C, dd, l, p, row, rfl, hE, hR, ⟨hl, hK⟩, hW, q⟩ := h
    refine ⟨_, (pss_cons (ps_set (i := 1) nd rfl (.inl rfl) (pe_lst (pa_cons (pe_tup (pa_cons pe_str (pa_cons (pe_callB (cIsD K) (by rfl) T.n_isinstance (by decide +kernel) (pa_cons (pv 0) (pa_cons (pe_glob (v := .ref (ca 1)) (by rfl) E.m_BadBytes rfl) pa_nil))) pa_nil))) (pa_cons (pe_tup (pa_cons pe_str (pa_cons (pe_callB (cIsD K) (by rfl) T.n_isinstance (by decide +kernel) (pa_cons (pv 0) (pa_cons (pe_glob (v := .ref (ca 2)) (by rfl) E.m_BadName rfl) pa_nil))) pa_nil))) (pa_cons (pe_tup (pa_cons pe_str (pa_cons (pe_callB (cIsD K) (by rfl) T.n_isinstance (by decide +kernel) (pa_cons (pv 0) (pa_cons (pe_glob (v := .ref (ca 3)) (by rfl) E.m_BadValue rfl) pa_nil))) pa_nil))) pa_nil)))))
      (pss_cons (ps_set (i := 1) nd rfl (.inl rfl) (pe_op op_cat (pv 1) (pe_lst (pa_cons (pe_tup (pa_cons pe_str (pa_cons (pe_callB (cIsD K) (by rfl) T.n_isinstance (by decide +kernel) (pa_cons (pv 0) (pa_cons (pe_glob (v := .ref (ca 4)) (by rfl) E.m_TooLong rfl) pa_nil))) pa_nil))) (pa_cons (pe_tup (pa_cons pe_str (pa_cons (pe_callB (cIsD K) (by rfl) T.n_isinstance (by decide +kernel) (pa_cons (pv 0) (pa_cons (pe_glob (v := .ref (ca 5)) (by rfl) E.m_NoTime rfl) pa_nil))) pa_nil))) pa_nil)))))
      (pss_cons (ps_set (i := 1) nd rfl (.inl rfl) (pe_op op_cat (pv 1) (pe_lst (pa_cons (pe_tup (pa_cons pe_str (pa_cons (pe_callB (cIsD K) (by rfl) T.n_isinstance (by decide +kernel) (pa_cons (pv 0) (pa_cons (pe_glob (v := .ref (ca 6)) (by rfl) E.m_BadPiece rfl) pa_nil))) pa_nil))) (pa_cons (pe_tup (pa_cons pe_str (pa_cons (pe_callB (cIsD K) (by rfl) T.n_isinstance (by decide +kernel) (pa_cons (pv 0) (pa_cons (pe_glob (v := .ref (ca 7)) (by rfl) E.m_Twice rfl) pa_nil))) pa_nil))) pa_nil)))))
      (pss_cons (ps_set (i := 1) nd rfl (.inl rfl) (pe_op op_cat (pv 1) (pe_lst (pa_cons (pe_tup (pa_cons pe_str (pa_cons (pe_callB (cIsD K) (by rfl) T.n_isinstance (by decide +kernel) (pa_cons (pv 0) (pa_cons (pe_glob (v := .ref (ca 8)) (by rfl) E.m_NoLetter rfl) pa_nil))) pa_nil))) (pa_cons (pe_tup (pa_cons pe_str (pa_cons (pe_callB (cIsD K) (by rfl) T.n_isinstance (by decide +kernel) (pa_cons (pv 0) (pa_cons (pe_glob (v := .ref (ca 9)) (by rfl) E.m_NoFolder rfl) pa_nil))) pa_nil))) pa_nil)))))
      (pss_cons (ps_set (i := 1) nd rfl (.inl rfl) (pe_op op_cat (pv 1) (pe_lst (pa_cons (pe_tup (pa_cons pe_str (pa_cons (pe_callB (cIsD K) (by rfl) T.n_isinstance (by decide +kernel) (pa_cons (pv 0) (pa_cons (pe_glob (v := .ref (ca 10)) (by rfl) E.m_BadLine rfl) pa_nil))) pa_nil))) (pa_cons (pe_tup (pa_cons pe_str (pa_cons (pe_callB (cIsD K) (by rfl) T.n_isinstance (by decide +kernel) (pa_cons (pv 0) (pa_cons (pe_glob (v := .ref (ca 11)) (by rfl) E.m_Wrong rfl) pa_nil))) pa_nil))) (pa_cons (pe_tup (pa_cons pe_str (pa_cons (pe_callB (cIsD K) (by rfl) T.n_isinstance (by decide +kernel) (pa_cons (pv 0) (pa_cons (pe_glob (v := .ref (ca 12)) (by rfl) E.m_BadRow rfl) pa_nil))) pa_nil))) pa_nil))))))
      (pss_cons (ps_set (i := 1) nd rfl (.inl rfl) (pe_op op_cat (pv 1) (pe_lst (pa_cons (pe_tup (pa_cons pe_str (pa_cons (pe_callB (cIsD K) (by rfl) T.n_isinstance (by decide +kernel) (pa_cons (pv 0) (pa_cons (pe_glob (v := .ref (ca 13)) (by rfl) E.m_BadSixty rfl) pa_nil))) pa_nil))) (pa_cons (pe_tup (pa_cons pe_str (pa_cons (pe_callB (cIsD K) (by rfl) T.n_isinstance (by decide +kernel) (pa_cons (pv 0) (pa_cons (pe_glob (v := .ref (ca 14)) (by rfl) E.m_BadSixteens rfl) pa_nil))) pa_nil))) pa_nil)))))
      (pss_cons (ps_set (i := 1) nd rfl (.inl rfl) (pe_op op_cat (pv 1) (pe_lst (pa_cons (pe_tup (pa_cons pe_str (pa_cons (pe_callB (cIsD K) (by rfl) T.n_isinstance (by decide +kernel) (pa_cons (pv 0) (pa_cons (pe_glob (v := .ref (ca 15)) (by rfl) E.m_BadTime rfl) pa_nil))) pa_nil))) (pa_cons (pe_tup (pa_cons pe_str (pa_cons (pe_callB (cIsD K) (by rfl) T.n_isinstance (by decide +kernel) (pa_cons (pv 0) (pa_cons (pe_glob (v := .ref (ca 16)) (by rfl) E.m_BadPeople rfl) pa_nil))) pa_nil))) pa_nil)))))
      (pss_cons (ps_set (i := 1) nd rfl (.inl rfl) (pe_op op_cat (pv 1) (pe_lst (pa_cons (pe_tup (pa_cons pe_str (pa_cons (pe_callB (cIsD K) (by rfl) T.n_isinstance (by decide +kernel) (pa_cons (pv 0) (pa_cons (pe_glob (v := .ref (ca 17)) (by rfl) E.m_BadHeader rfl) pa_nil))) pa_nil))) (pa_cons (pe_tup (pa_cons pe_str (pa_cons (pe_callB (cIsD K) (by rfl) T.n_isinstance (by decide +kernel) (pa_cons (pv 0) (pa_cons (pe_glob (v := .ref (ca 18)) (by rfl) E.m_BadBody rfl) pa_nil))) pa_nil))) pa_nil)))))
      (pss_cons (ps_set (i := 1) nd rfl (.inl rfl) (pe_op op_cat (pv 1) (pe_lst (pa_cons (pe_tup (pa_cons pe_str (pa_cons (pe_callB (cIsD K) (by rfl) T.n_isinstance (by decide +kernel) (pa_cons (pv 0) (pa_cons (pe_glob (v := .ref (ca 19)) (by rfl) E.m_BadRule rfl) pa_nil))) pa_nil))) (pa_cons (pe_tup (pa_cons pe_str (pa_cons (pe_callB (cIsD K) (by rfl) T.n_isinstance (by decide +kernel) (pa_cons (pv 0) (pa_cons (pe_bltn (v := .ty "ValueError") (by rfl) T.n_ValueError (by decide +kernel) rfl) pa_nil))) pa_nil))) pa_nil)))))
      (pss_cons (ps_setLc (i := 2) (own := [("_law_word", 3), ("_law_one_fits", 4)]) (g := gTup K 2 (gCons (gName 3) (gCons (gName 4) gNil))) (by rfl) nd rfl rfl (sw_true rfl rfl rfl (by decide +kernel)) (pi_list (pv 1)) (blkOk_by (N := N__law_kind) (sc := defScope s__law_kind) (by decide +kernel)) (fun _ _ _ _ _ => by exact (pg_tup rfl (pgs_cons (pg_name (i := 3) nd rfl (Or.inl rfl)) (pgs_cons (pg_name (i := 4) nd rfl (Or.inl rfl)) pgs_nil)))) (fun _ _ _ _ _ => (pts_one (pt_val (pv 4)))) (fun _ _ _ _ _ => (pv 3)))
      (pss_cons (ps_if (pt_val (pe_callB (cIsD K) (by rfl) T.n_isinstance (by decide +kernel) (pa_cons (pv 0) (pa_cons (pe_glob (v := .ref (ca 11)) (by rfl) E.m_Wrong rfl) pa_nil))))
        (pss_one (ps_set (i := 2) nd rfl (.inl rfl) (pe_op op_cat (pv 2) (pe_lst (pa_cons (pe_fldD (K := K) (pv 0)) (pa_cons (pe_fldD (K := K) (pv 0)) pa_nil))))))
        pss_nil)
      (pss_one (ps_ret (pv 2)))))))))))))), ?_⟩
    have X := hR.xc
    have rr : ∀ (c : Addr) (u : Value), RelV (.ref c) u → u = .ref c := fun _ _ h => h
    have rt : ∀ (u : Value), RelV (.ty "ValueError") u → u = .type "ValueError" := fun _ h => h
    have bsD : ∀ i, i < 19 → (row ++ [true]).getD i false = row.getD i false := fun i hi => getD_app_l _ _ _ (by omega)
    have bs19 : (row ++ [true]).getD 19 false = true := by rw [getD_app_r _ _ _ (by omega), hl]; rfl
    have n2 : 2 ≤ sizeLine := Nat.le_of_lt (small1000 (by decide))
    have n3 : 3 ≤ sizeLine := Nat.le_of_lt (small1000 (by decide))
    have x0_0 : HeldD H C dd a (wrFields "badsixty" l p) := hE
    refine ⟨.ref a, rfl, a, C, dd, _, .ref (ca 1), .ref (ca 1), _, rfl, x0_0, X, rr _, hK 0 (by decide), n2, fun t0 nt0 => ?_⟩
    have v0 := same_upd (o := .tup [.str (Str.ofString "bytes"), .bl (row.getD 0 false)]) nt0
    have x0_1 := x0_0.same v0
    refine ⟨.ref a, rfl, a, C, dd, _, .ref (ca 2), .ref (ca 2), _, rfl, x0_1, X, rr _, hK 1 (by decide), n2, fun t1 nt1 => ?_⟩
    have v1 := same_upd (o := .tup [.str (Str.ofString "name"), .bl (row.getD 1 false)]) nt1
    have x0_2 := x0_1.same v1
    refine ⟨.ref a, rfl, a, C, dd, _, .ref (ca 3), .ref (ca 3), _, rfl, x0_2, X, rr _, hK 2 (by decide), n2, fun t2 nt2 => ?_⟩
    have v2 := same_upd (o := .tup [.str (Str.ofString "value"), .bl (row.getD 2 false)]) nt2
    refine ⟨n3, fun l0 nl0 => ?_⟩
    have w0 := same_upd (o := .lst [V.ref t0, V.ref t1, V.ref t2]) nl0
    have y0 := w0 t0 _ (v2 _ _ (v1 _ _ upd_same))
    have y1 := w0 t1 _ (v2 _ _ upd_same)
    have y2 := w0 t2 _ upd_same
    generalize hH0 : upd _ l0 (.lst [V.ref t0, V.ref t1, V.ref t2]) = H0 at *
    have S0 : Same H H0 := (v0.trans (v1.trans (v2.trans w0)))
    have F0 : Fnd H0 l0 [t0, t1, t2] (row ++ [true]) := by
      refine ⟨by rw [← hH0, upd_same]; rfl, fun i hi => ?_⟩
      have : i = 0 ∨ i = 1 ∨ i = 2 := by have : i < 3 := hi; omega
      rcases this with rfl | rfl | rfl
      · rw [bsD 0 (by decide)]; exact y0
      · rw [bsD 1 (by decide)]; exact y1
      · rw [bsD 2 (by decide)]; exact y2
    have x1_0 : HeldD H0 C dd a (wrFields "badsixty" l p) := hE.same S0
    refine ⟨.ref l0, rfl, .ref a, rfl, a, C, dd, _, .ref (ca 4), .ref (ca 4), _, rfl, x1_0, X, rr _, hK 3 (by decide), n2, fun t3 nt3 => ?_⟩
    have v3 := same_upd (o := .tup [.str (Str.ofString "long"), .bl (row.getD 3 false)]) nt3
    have x1_1 := x1_0.same v3
    refine ⟨.ref a, rfl, a, C, dd, _, .ref (ca 5), .ref (ca 5), _, rfl, x1_1, X, rr _, hK 4 (by decide), n2, fun t4 nt4 => ?_⟩
    have v4 := same_upd (o := .tup [.str (Str.ofString "time"), .bl (row.getD 4 false)]) nt4
    refine ⟨n2, fun l1 nl1 => ?_⟩
    have w1 := same_upd (o := .lst [V.ref t3, V.ref t4]) nl1
    have y3 := w1 t3 _ (v4 _ _ upd_same)
    have y4 := w1 t4 _ upd_same
    refine ⟨l0, l1, _, _, rfl, rfl, (v3.trans (v4.trans w1)) _ _ F0.1, upd_same, by rw [List.length_map, sizeLine_eq]; show 5 ≤ 16777216; decide, fun p1 np1 => ?_⟩
    have z1 := same_upd (o := .lst (([t0, t1, t2] : List Addr).map V.ref ++ [V.ref t3, V.ref t4])) np1
    have F1 : Fnd _ p1 [t0, t1, t2, t3, t4] (row ++ [true]) := F0.grow ((v3.trans (v4.trans w1)).trans z1) upd_same (us := [t3, t4]) fun j hj => by
      have : j = 0 ∨ j = 1 := by have : j < 2 := hj; omega
      rcases this with rfl | rfl
      · rw [show [t0, t1, t2].length + 0 = 3 from rfl, bsD 3 (by decide)]; exact z1 _ _ y3
      · rw [show [t0, t1, t2].length + 1 = 4 from rfl, bsD 4 (by decide)]; exact z1 _ _ y4
    have S1 : Same H _ := S0.trans ((v3.trans (v4.trans w1)).trans z1)
    generalize hH1 : upd _ p1 _ = H1 at F1 S1 ⊢
    clear z1 y3 y4 hH1
    have x2_0 : HeldD H1 C dd a (wrFields "badsixty" l p) := hE.same S1
    refine ⟨.ref p1, rfl, .ref a, rfl, a, C, dd, _, .ref (ca 6), .ref (ca 6), _, rfl, x2_0, X, rr _, hK 5 (by decide), n2, fun t5 nt5 => ?_⟩
    have v5 := same_upd (o := .tup [.str (Str.ofString "piece"), .bl (row.getD 5 false)]) nt5
    have x2_1 := x2_0.same v5
    refine ⟨.ref a, rfl, a, C, dd, _, .ref (ca 7), .ref (ca 7), _, rfl, x2_1, X, rr _, hK 6 (by decide), n2, fun t6 nt6 => ?_⟩
    have v6 := same_upd (o := .tup [.str (Str.ofString "twice"), .bl (row.getD 6 false)]) nt6
    refine ⟨n2, fun l2 nl2 => ?_⟩
    have w2 := same_upd (o := .lst [V.ref t5, V.ref t6]) nl2
    have y5 := w2 t5 _ (v6 _ _ upd_same)
    have y6 := w2 t6 _ upd_same
    refine ⟨p1, l2, _, _, rfl, rfl, (v5.trans (v6.trans w2)) _ _ F1.1, upd_same, by rw [List.length_map, sizeLine_eq]; show 7 ≤ 16777216; decide, fun p2 np2 => ?_⟩
    have z2 := same_upd (o := .lst (([t0, t1, t2, t3, t4] : List Addr).map V.ref ++ [V.ref t5, V.ref t6])) np2
    have F2 : Fnd _ p2 [t0, t1, t2, t3, t4, t5, t6] (row ++ [true]) := F1.grow ((v5.trans (v6.trans w2)).trans z2) upd_same (us := [t5, t6]) fun j hj => by
      have : j = 0 ∨ j = 1 := by have : j < 2 := hj; omega
      rcases this with rfl | rfl
      · rw [show [t0, t1, t2, t3, t4].length + 0 = 5 from rfl, bsD 5 (by decide)]; exact z2 _ _ y5
      · rw [show [t0, t1, t2, t3, t4].length + 1 = 6 from rfl, bsD 6 (by decide)]; exact z2 _ _ y6
    have S2 : Same H _ := S1.trans ((v5.trans (v6.trans w2)).trans z2)
    generalize hH2 : upd _ p2 _ = H2 at F2 S2 ⊢
    clear z2 y5 y6 hH2
    have x3_0 : HeldD H2 C dd a (wrFields "badsixty" l p) := hE.same S2
    refine ⟨.ref p2, rfl, .ref a, rfl, a, C, dd, _, .ref (ca 8), .ref (ca 8), _, rfl, x3_0, X, rr _, hK 7 (by decide), n2, fun t7 nt7 => ?_⟩
    have v7 := same_upd (o := .tup [.str (Str.ofString "letter"), .bl (row.getD 7 false)]) nt7
    have x3_1 := x3_0.same v7
    refine ⟨.ref a, rfl, a, C, dd, _, .ref (ca 9), .ref (ca 9), _, rfl, x3_1, X, rr _, hK 8 (by decide), n2, fun t8 nt8 => ?_⟩
    have v8 := same_upd (o := .tup [.str (Str.ofString "folder"), .bl (row.getD 8 false)]) nt8
    refine ⟨n2, fun l3 nl3 => ?_⟩
    have w3 := same_upd (o := .lst [V.ref t7, V.ref t8]) nl3
    have y7 := w3 t7 _ (v8 _ _ upd_same)
    have y8 := w3 t8 _ upd_same
    refine ⟨p2, l3, _, _, rfl, rfl, (v7.trans (v8.trans w3)) _ _ F2.1, upd_same, by rw [List.length_map, sizeLine_eq]; show 9 ≤ 16777216; decide, fun p3 np3 => ?_⟩
    have z3 := same_upd (o := .lst (([t0, t1, t2, t3, t4, t5, t6] : List Addr).map V.ref ++ [V.ref t7, V.ref t8])) np3
    have F3 : Fnd _ p3 [t0, t1, t2, t3, t4, t5, t6, t7, t8] (row ++ [true]) := F2.grow ((v7.trans (v8.trans w3)).trans z3) upd_same (us := [t7, t8]) fun j hj => by
      have : j = 0 ∨ j = 1 := by have : j < 2 := hj; omega
      rcases this with rfl | rfl
      · rw [show [t0, t1, t2, t3, t4, t5, t6].length + 0 = 7 from rfl, bsD 7 (by decide)]; exact z3 _ _ y7
      · rw [show [t0, t1, t2, t3, t4, t5, t6].length + 1 = 8 from rfl, bsD 8 (by decide)]; exact z3 _ _ y8
    have S3 : Same H _ := S2.trans ((v7.trans (v8.trans w3)).trans z3)
    generalize hH3 : upd _ p3 _ = H3 at F3 S3 ⊢
    clear z3 y7 y8 hH3
    have x4_0 : HeldD H3 C dd a (wrFields "badsixty" l p) := hE.same S3
    refine ⟨.ref p3, rfl, .ref a, rfl, a, C, dd, _, .ref (ca 10), .ref (ca 10), _, rfl, x4_0, X, rr _, hK 9 (by decide), n2, fun t9 nt9 => ?_⟩
    have v9 := same_upd (o := .tup [.str (Str.ofString "line"), .bl (row.getD 9 false)]) nt9
    have x4_1 := x4_0.same v9
    refine ⟨.ref a, rfl, a, C, dd, _, .ref (ca 11), .ref (ca 11), _, rfl, x4_1, X, rr _, hK 10 (by decide), n2, fun t10 nt10 => ?_⟩
    have v10 := same_upd (o := .tup [.str (Str.ofString "wrong"), .bl (row.getD 10 false)]) nt10
    have x4_2 := x4_1.same v10
    refine ⟨.ref a, rfl, a, C, dd, _, .ref (ca 12), .ref (ca 12), _, rfl, x4_2, X, rr _, hK 11 (by decide), n2, fun t11 nt11 => ?_⟩
    have v11 := same_upd (o := .tup [.str (Str.ofString "row"), .bl (row.getD 11 false)]) nt11
    refine ⟨n3, fun l4 nl4 => ?_⟩
    have w4 := same_upd (o := .lst [V.ref t9, V.ref t10, V.ref t11]) nl4
    have y9 := w4 t9 _ (v11 _ _ (v10 _ _ upd_same))
    have y10 := w4 t10 _ (v11 _ _ upd_same)
    have y11 := w4 t11 _ upd_same
    refine ⟨p3, l4, _, _, rfl, rfl, (v9.trans (v10.trans (v11.trans w4))) _ _ F3.1, upd_same, by rw [List.length_map, sizeLine_eq]; show 12 ≤ 16777216; decide, fun p4 np4 => ?_⟩
    have z4 := same_upd (o := .lst (([t0, t1, t2, t3, t4, t5, t6, t7, t8] : List Addr).map V.ref ++ [V.ref t9, V.ref t10, V.ref t11])) np4
    have F4 : Fnd _ p4 [t0, t1, t2, t3, t4, t5, t6, t7, t8, t9, t10, t11] (row ++ [true]) := F3.grow ((v9.trans (v10.trans (v11.trans w4))).trans z4) upd_same (us := [t9, t10, t11]) fun j hj => by
      have : j = 0 ∨ j = 1 ∨ j = 2 := by have : j < 3 := hj; omega
      rcases this with rfl | rfl | rfl
      · rw [show [t0, t1, t2, t3, t4, t5, t6, t7, t8].length + 0 = 9 from rfl, bsD 9 (by decide)]; exact z4 _ _ y9
      · rw [show [t0, t1, t2, t3, t4, t5, t6, t7, t8].length + 1 = 10 from rfl, bsD 10 (by decide)]; exact z4 _ _ y10
      · rw [show [t0, t1, t2, t3, t4, t5, t6, t7, t8].length + 2 = 11 from rfl, bsD 11 (by decide)]; exact z4 _ _ y11
    have S4 : Same H _ := S3.trans ((v9.trans (v10.trans (v11.trans w4))).trans z4)
    generalize hH4 : upd _ p4 _ = H4 at F4 S4 ⊢
    clear z4 y9 y10 y11 hH4
    have x5_0 : HeldD H4 C dd a (wrFields "badsixty" l p) := hE.same S4
    refine ⟨.ref p4, rfl, .ref a, rfl, a, C, dd, _, .ref (ca 13), .ref (ca 13), _, rfl, x5_0, X, rr _, hK 12 (by decide), n2, fun t12 nt12 => ?_⟩
    have v12 := same_upd (o := .tup [.str (Str.ofString "sixty"), .bl (row.getD 12 false)]) nt12
    have x5_1 := x5_0.same v12
    refine ⟨.ref a, rfl, a, C, dd, _, .ref (ca 14), .ref (ca 14), _, rfl, x5_1, X, rr _, hK 13 (by decide), n2, fun t13 nt13 => ?_⟩
    have v13 := same_upd (o := .tup [.str (Str.ofString "sixteens"), .bl (row.getD 13 false)]) nt13
    refine ⟨n2, fun l5 nl5 => ?_⟩
    have w5 := same_upd (o := .lst [V.ref t12, V.ref t13]) nl5
    have y12 := w5 t12 _ (v13 _ _ upd_same)
    have y13 := w5 t13 _ upd_same
    refine ⟨p4, l5, _, _, rfl, rfl, (v12.trans (v13.trans w5)) _ _ F4.1, upd_same, by rw [List.length_map, sizeLine_eq]; show 14 ≤ 16777216; decide, fun p5 np5 => ?_⟩
    have z5 := same_upd (o := .lst (([t0, t1, t2, t3, t4, t5, t6, t7, t8, t9, t10, t11] : List Addr).map V.ref ++ [V.ref t12, V.ref t13])) np5
    have F5 : Fnd _ p5 [t0, t1, t2, t3, t4, t5, t6, t7, t8, t9, t10, t11, t12, t13] (row ++ [true]) := F4.grow ((v12.trans (v13.trans w5)).trans z5) upd_same (us := [t12, t13]) fun j hj => by
      have : j = 0 ∨ j = 1 := by have : j < 2 := hj; omega
      rcases this with rfl | rfl
      · rw [show [t0, t1, t2, t3, t4, t5, t6, t7, t8, t9, t10, t11].length + 0 = 12 from rfl, bsD 12 (by decide)]; exact z5 _ _ y12
      · rw [show [t0, t1, t2, t3, t4, t5, t6, t7, t8, t9, t10, t11].length + 1 = 13 from rfl, bsD 13 (by decide)]; exact z5 _ _ y13
    have S5 : Same H _ := S4.trans ((v12.trans (v13.trans w5)).trans z5)
    generalize hH5 : upd _ p5 _ = H5 at F5 S5 ⊢
    clear z5 y12 y13 hH5
    have x6_0 : HeldD H5 C dd a (wrFields "badsixty" l p) := hE.same S5
    refine ⟨.ref p5, rfl, .ref a, rfl, a, C, dd, _, .ref (ca 15), .ref (ca 15), _, rfl, x6_0, X, rr _, hK 14 (by decide), n2, fun t14 nt14 => ?_⟩
    have v14 := same_upd (o := .tup [.str (Str.ofString "badtime"), .bl (row.getD 14 false)]) nt14
    have x6_1 := x6_0.same v14
    refine ⟨.ref a, rfl, a, C, dd, _, .ref (ca 16), .ref (ca 16), _, rfl, x6_1, X, rr _, hK 15 (by decide), n2, fun t15 nt15 => ?_⟩
    have v15 := same_upd (o := .tup [.str (Str.ofString "people"), .bl (row.getD 15 false)]) nt15
    refine ⟨n2, fun l6 nl6 => ?_⟩
    have w6 := same_upd (o := .lst [V.ref t14, V.ref t15]) nl6
    have y14 := w6 t14 _ (v15 _ _ upd_same)
    have y15 := w6 t15 _ upd_same
    refine ⟨p5, l6, _, _, rfl, rfl, (v14.trans (v15.trans w6)) _ _ F5.1, upd_same, by rw [List.length_map, sizeLine_eq]; show 16 ≤ 16777216; decide, fun p6 np6 => ?_⟩
    have z6 := same_upd (o := .lst (([t0, t1, t2, t3, t4, t5, t6, t7, t8, t9, t10, t11, t12, t13] : List Addr).map V.ref ++ [V.ref t14, V.ref t15])) np6
    have F6 : Fnd _ p6 [t0, t1, t2, t3, t4, t5, t6, t7, t8, t9, t10, t11, t12, t13, t14, t15] (row ++ [true]) := F5.grow ((v14.trans (v15.trans w6)).trans z6) upd_same (us := [t14, t15]) fun j hj => by
      have : j = 0 ∨ j = 1 := by have : j < 2 := hj; omega
      rcases this with rfl | rfl
      · rw [show [t0, t1, t2, t3, t4, t5, t6, t7, t8, t9, t10, t11, t12, t13].length + 0 = 14 from rfl, bsD 14 (by decide)]; exact z6 _ _ y14
      · rw [show [t0, t1, t2, t3, t4, t5, t6, t7, t8, t9, t10, t11, t12, t13].length + 1 = 15 from rfl, bsD 15 (by decide)]; exact z6 _ _ y15
    have S6 : Same H _ := S5.trans ((v14.trans (v15.trans w6)).trans z6)
    generalize hH6 : upd _ p6 _ = H6 at F6 S6 ⊢
    clear z6 y14 y15 hH6
    have x7_0 : HeldD H6 C dd a (wrFields "badsixty" l p) := hE.same S6
    refine ⟨.ref p6, rfl, .ref a, rfl, a, C, dd, _, .ref (ca 17), .ref (ca 17), _, rfl, x7_0, X, rr _, hK 16 (by decide), n2, fun t16 nt16 => ?_⟩
    have v16 := same_upd (o := .tup [.str (Str.ofString "header"), .bl (row.getD 16 false)]) nt16
    have x7_1 := x7_0.same v16
    refine ⟨.ref a, rfl, a, C, dd, _, .ref (ca 18), .ref (ca 18), _, rfl, x7_1, X, rr _, hK 17 (by decide), n2, fun t17 nt17 => ?_⟩
    have v17 := same_upd (o := .tup [.str (Str.ofString "body"), .bl (row.getD 17 false)]) nt17
    refine ⟨n2, fun l7 nl7 => ?_⟩
    have w7 := same_upd (o := .lst [V.ref t16, V.ref t17]) nl7
    have y16 := w7 t16 _ (v17 _ _ upd_same)
    have y17 := w7 t17 _ upd_same
    refine ⟨p6, l7, _, _, rfl, rfl, (v16.trans (v17.trans w7)) _ _ F6.1, upd_same, by rw [List.length_map, sizeLine_eq]; show 18 ≤ 16777216; decide, fun p7 np7 => ?_⟩
    have z7 := same_upd (o := .lst (([t0, t1, t2, t3, t4, t5, t6, t7, t8, t9, t10, t11, t12, t13, t14, t15] : List Addr).map V.ref ++ [V.ref t16, V.ref t17])) np7
    have F7 : Fnd _ p7 [t0, t1, t2, t3, t4, t5, t6, t7, t8, t9, t10, t11, t12, t13, t14, t15, t16, t17] (row ++ [true]) := F6.grow ((v16.trans (v17.trans w7)).trans z7) upd_same (us := [t16, t17]) fun j hj => by
      have : j = 0 ∨ j = 1 := by have : j < 2 := hj; omega
      rcases this with rfl | rfl
      · rw [show [t0, t1, t2, t3, t4, t5, t6, t7, t8, t9, t10, t11, t12, t13, t14, t15].length + 0 = 16 from rfl, bsD 16 (by decide)]; exact z7 _ _ y16
      · rw [show [t0, t1, t2, t3, t4, t5, t6, t7, t8, t9, t10, t11, t12, t13, t14, t15].length + 1 = 17 from rfl, bsD 17 (by decide)]; exact z7 _ _ y17
    have S7 : Same H _ := S6.trans ((v16.trans (v17.trans w7)).trans z7)
    generalize hH7 : upd _ p7 _ = H7 at F7 S7 ⊢
    clear z7 y16 y17 hH7
    have x8_0 : HeldD H7 C dd a (wrFields "badsixty" l p) := hE.same S7
    refine ⟨.ref p7, rfl, .ref a, rfl, a, C, dd, _, .ref (ca 19), .ref (ca 19), _, rfl, x8_0, X, rr _, hK 18 (by decide), n2, fun t18 nt18 => ?_⟩
    have v18 := same_upd (o := .tup [.str (Str.ofString "rule"), .bl (row.getD 18 false)]) nt18
    have x8_1 := x8_0.same v18
    refine ⟨.ref a, rfl, a, C, dd, _, .ty "ValueError", .type "ValueError", _, rfl, x8_1, X, rt, hR.base, n2, fun t19 nt19 => ?_⟩
    have v19 := same_upd (o := .tup [.str (Str.ofString "base"), .bl (true)]) nt19
    refine ⟨n2, fun l8 nl8 => ?_⟩
    have w8 := same_upd (o := .lst [V.ref t18, V.ref t19]) nl8
    have y18 := w8 t18 _ (v19 _ _ upd_same)
    have y19 := w8 t19 _ upd_same
    refine ⟨p7, l8, _, _, rfl, rfl, (v18.trans (v19.trans w8)) _ _ F7.1, upd_same, by rw [List.length_map, sizeLine_eq]; show 20 ≤ 16777216; decide, fun p8 np8 => ?_⟩
    have z8 := same_upd (o := .lst (([t0, t1, t2, t3, t4, t5, t6, t7, t8, t9, t10, t11, t12, t13, t14, t15, t16, t17] : List Addr).map V.ref ++ [V.ref t18, V.ref t19])) np8
    have F8 : Fnd _ p8 [t0, t1, t2, t3, t4, t5, t6, t7, t8, t9, t10, t11, t12, t13, t14, t15, t16, t17, t18, t19] (row ++ [true]) := F7.grow ((v18.trans (v19.trans w8)).trans z8) upd_same (us := [t18, t19]) fun j hj => by
      have : j = 0 ∨ j = 1 := by have : j < 2 := hj; omega
      rcases this with rfl | rfl
      · rw [show [t0, t1, t2, t3, t4, t5, t6, t7, t8, t9, t10, t11, t12, t13, t14, t15, t16, t17].length + 0 = 18 from rfl, bsD 18 (by decide)]; exact z8 _ _ y18
      · rw [show [t0, t1, t2, t3, t4, t5, t6, t7, t8, t9, t10, t11, t12, t13, t14, t15, t16, t17].length + 1 = 19 from rfl, bs19]; exact z8 _ _ y19
    have S8 : Same H _ := S7.trans ((v18.trans (v19.trans w8)).trans z8)
    generalize hH8 : upd _ p8 _ = H8 at F8 S8 ⊢
    clear z8 y18 y19 hH8
    generalize hts : [t0, t1, t2, t3, t4, t5, t6, t7, t8, t9, t10, t11, t12, t13, t14, t15, t16, t17, t18, t19] = ts at F8
    have htl : ts.length = 20 := by rw [← hts]; rfl
    refine ⟨.ref p8, rfl, p8, rfl, ⟨_, .inl (.inl F8.1)⟩, fun D hD => lc_pairs (ts := ts) (ps := fun i => (.str (nms.getD i Str.empty), .bl ((row ++ [true]).getD i false))) (fun i => .str (nms.getD i Str.empty)) (fun i => (row ++ [true]).getD i false) (by decide) (.inl (.inl F8.1)) (fun i hi => .inl (.inl (F8.2 i hi))) hD (by rw [htl]; exact Nat.le_of_lt (small1000 (by decide))) (fun i H9 Q9 hi sm q9 => ?_) (fun i H9 Q9 hi sm hb q9 => ?_) (fun H9 s9 e9 => ?_)⟩
    · exact ⟨.bl ((row ++ [true]).getD i false), rfl, _, rfl, q9 _ (Same.refl _)⟩
    · exact ⟨.str (nms.getD i Str.empty), rfl, q9 _ (Same.refl _)⟩
    · refine ⟨.ref a, rfl, a, C, dd, _, .ref (ca 11), .ref (ca 11), _, rfl, (hE.same S8).same s9, X, rr _, hK 10 (by decide), _, rfl, ?_⟩
      rw [hW]
      have hh := (hE.same S8).same s9
      rw [htl] at e9
      refine iteT ⟨.ref D, rfl, .ref a, rfl, a, C, dd, _, .int l, rfl, hh, X, hR.noL, rfl, .ref a, rfl, a, C, dd, _, .int p, rfl, hh, X, hR.noP, rfl, n2, fun l9 n9 => ?_⟩
      have sa := same_upd (o := .lst [V.int l, V.int p]) n9
      refine ⟨D, l9, _, _, rfl, rfl, sa _ _ e9, upd_same, ?_, fun r nr => ?_⟩
      · rw [List.length_map]
        have := List.length_filter_le (fun i => (row ++ [true]).getD i false) (List.range 20)
        rw [List.length_range] at this
        rw [sizeLine_eq]
        show _ + 2 ≤ 16777216
        omega
      have sb := same_upd (o := .lst (((List.range 20).filter fun i => (row ++ [true]).getD i false).map (fun i => V.str (nms.getD i Str.empty)) ++ [V.int l, V.int p])) nr
      refine ⟨.ref r, rfl, q _ r (S8.trans (s9.trans (sa.trans sb))) ((S8.trans (s9.trans sa)).free nr) ?_⟩
      rw [upd_same]
      unfold kindWords
      rw [List.map_map]
      rfl
end
end K06

namespace K06
open PySem PySem.Spec PyProof.Rows L2 LH
section
variable {P : Program} {w : World} {K : PySem.W.Frag} {mg : Str → Option Value} {base : Heap} {tk : Nat → Tok}
/-! ### _law_cell, _law_mixed, _law_next, _law_sixty -/
/-! ### _law_mixed -/
abbrev s__law_mixed : Stmt := topS 35
abbrev N__law_mixed : List Str := ["_law_cell", "_law_k"]
abbrev P__law_mixed : List Str := ["_law_cell", "_law_k"]
theorem sc__law_mixed : FnScope N__law_mixed ["_law_cell", "_law_k"] (defScope s__law_mixed) := ⟨rfl, rfl, rfl, by decide +kernel, rfl, by decide +kernel, by decide +kernel⟩
def mixed (c k : Int) : Int := (c * 48271 + 7919 * k * k * k + 104729) % 2147483647 * 16807 % 2147483629
theorem mixed_lt (c k : Int) : 0 ≤ mixed c k ∧ mixed c k < 2147483629 := ⟨Int.emod_nonneg _ (by decide), Int.emod_lt_of_pos _ (by decide)⟩
def sp_mixed : Sp := fun vs H Q _ => ∃ (c k : Int), vs = [.int c, .int k] ∧ 0 ≤ k ∧ k < 1000 ∧ Tell H (.int (mixed c k)) Q
theorem ok_mixed {f : Addr} {fd : FuncData} {k : Nat} (F : Fun K "_law_mixed" "_law_mixed" s__law_mixed f fd) : FnOk P w K mg base CX0 (k + 1) f fd P__law_mixed sp_mixed := by
  refine F.ok sc__law_mixed (fun vs H Q E h => ?_) (fun cdv A outer s H vs Q E hr h => ?_)
  · obtain ⟨c, j, rfl, _⟩ := h
    rfl
  · have nd := sc__law_mixed.nd
    obtain ⟨c, j, rfl, h0, h1, q⟩ := h
    refine ⟨_, (pss_one (ps_ret (pe_op op_mod (pe_op op_mul (pe_op op_mod (pe_op op_add (pe_op op_add (pe_op op_mul (pv 0) pe_int) (pe_op op_mul (pe_op op_mul (pe_op op_mul pe_int (pv 1)) (pv 1)) (pv 1))) pe_int) pe_int) pe_int) pe_int))), ?_⟩
    refine ⟨.int c, rfl, c, 48271, rfl, rfl, .inr (by decide), .int j, rfl, 7919, j, rfl, rfl, .inl (by decide), .int j, rfl, _, j, rfl, rfl, .inr ⟨by omega, by omega⟩, .int j, rfl, _, j, rfl, rfl, .inr ⟨by omega, by omega⟩, _, _, rfl, rfl, _, _, rfl, rfl, _, _, rfl, rfl, (show (0 : Int) < 2147483647 by decide), _, _, rfl, rfl, .inr (by decide), _, _, rfl, rfl, (show (0 : Int) < 2147483629 by decide), q _ (Same.refl _)⟩
/-! ### _law_next -/
abbrev s__law_next : Stmt := topS 36
abbrev N__law_next : List Str := ["_law_number_here", "_law_k"]
abbrev P__law_next : List Str := ["_law_number_here", "_law_k"]
theorem sc__law_next : FnScope N__law_next ["_law_number_here", "_law_k"] (defScope s__law_next) := ⟨rfl, rfl, rfl, by decide +kernel, rfl, by decide +kernel, by decide +kernel⟩
def nextN (n k : Int) : Int := (n * (k * k + 1) + 1009 * k + 11) * 69621 % 2147483629
theorem nextN_lt (c k : Int) : 0 ≤ nextN c k ∧ nextN c k < 2147483629 := ⟨Int.emod_nonneg _ (by decide), Int.emod_lt_of_pos _ (by decide)⟩
def sp_next : Sp := fun vs H Q _ => ∃ (c k : Int), vs = [.int c, .int k] ∧ 0 ≤ c ∧ c < 2147483648 ∧ 0 ≤ k ∧ k < 1000 ∧ Tell H (.int (nextN c k)) Q
theorem ok_next {f : Addr} {fd : FuncData} {k : Nat} (F : Fun K "_law_next" "_law_next" s__law_next f fd) : FnOk P w K mg base CX0 (k + 1) f fd P__law_next sp_next := by
  refine F.ok sc__law_next (fun vs H Q E h => ?_) (fun cdv A outer s H vs Q E hr h => ?_)
  · obtain ⟨c, j, rfl, _⟩ := h
    rfl
  · have nd := sc__law_next.nd
    obtain ⟨c, j, rfl, hc, hc1, h0, h1, q⟩ := h
    refine ⟨_, (pss_one (ps_ret (pe_op op_mod (pe_op op_mul (pe_op op_add (pe_op op_add (pe_op op_mul (pv 0) (pe_op op_add (pe_op op_mul (pv 1) (pv 1)) pe_int)) (pe_op op_mul pe_int (pv 1))) pe_int) pe_int) pe_int))), ?_⟩
    refine ⟨.int c, rfl, .int j, rfl, .int j, rfl, j, j, rfl, rfl, .inr ⟨by omega, by omega⟩, _, 1, rfl, rfl, c, _, rfl, rfl, .inl ⟨by omega, by omega⟩, .int j, rfl, 1009, j, rfl, rfl, .inl (by decide), _, _, rfl, rfl, _, _, rfl, rfl, _, _, rfl, rfl, .inr (by decide), _, _, rfl, rfl, (show (0 : Int) < 2147483629 by decide), q _ (Same.refl _)⟩
end
end K06

namespace K06
open PySem PySem.Spec PyProof.Rows L2 LH
section
variable {P : Program} {w : World} {K : PySem.W.Frag} {mg : Str → Option Value} {base : Heap} {tk : Nat → Tok} {ca : Nat → Addr}
theorem drop_cons {α : Type} {l : List α} {i : Nat} (h : i < l.length) : l.drop i = l[i] :: l.drop (i + 1) := List.drop_eq_getElem_cons h
/-- a thing that is no list -/
def NoList (K : PySem.W.Frag) (H : Hp) (x : V) : Prop := ∃ t, TyX K H x t ∧ PySem.W.kitOne K t (.type "list") = some false
/-- the number of the first thing that is no text, nought without one -/
def firstOdd : Nat → List V → Nat
  | _, [] => 0
  | n, .str _ :: r => firstOdd (n + 1) r
  | n, _ :: _ => n + 1
theorem firstOdd_odd {H : Hp} {n : Nat} {v : V} {r : List V} (h : Odd H v) : firstOdd n (v :: r) = n + 1 := by
  rcases h with rfl | ⟨i, rfl⟩ | ⟨b, rfl⟩ | ⟨a, rfl, _⟩ <;> rfl
/-! ### no_text_row -/
abbrev s_no_text_row : Stmt := topS 23
abbrev N_no_text_row : List Str := ["rows", "at"]
abbrev P_no_text_row : List Str := ["rows"]
theorem sc_no_text_row : FnScope N_no_text_row ["rows"] (defScope s_no_text_row) := ⟨rfl, rfl, rfl, by decide +kernel, rfl, by decide +kernel, by decide +kernel⟩
def sp_no_textX (K : PySem.W.Frag) : Sp := fun vs H Q _ => ∃ x : V, vs = [x] ∧
  ((NoList K H x ∧ Tell H (.int 1) Q) ∨ ∃ (a : Addr) (xs : List V), x = .ref a ∧ H a = some (.lst xs) ∧ xs.length ≤ 100000 ∧ (∀ v ∈ xs, (∃ z, v = .str z) ∨ Odd H v) ∧ Tell H (.int (firstOdd 0 xs : Nat)) Q)
theorem ok_no_textX {f : Addr} {fd : FuncData} {k : Nat} (F : Fun K "no_text_row" "no_text_row" s_no_text_row f fd) (T : Tx mg tk) : FnOk P w K mg base CX0 (k + 1) f fd P_no_text_row (sp_no_textX K) := by
  refine F.ok sc_no_text_row (fun vs H Q E h => ?_) (fun cdv A outer s H vs Q E hr h => ?_)
  · obtain ⟨x, rfl, _⟩ := h
    rfl
  · have nd := sc_no_text_row.nd
    obtain ⟨x, rfl, h⟩ := h
    refine ⟨_, (pss_cons (ps_if (pt_not (pt_val (pe_callB (cIsi K) (by rfl) T.n_isinstance (by decide +kernel) (pa_cons (pv 0) (pa_cons (pe_bltn (v := .ty "list") (by rfl) T.n_list (by decide +kernel) rfl) pa_nil)))))
        (pss_one (ps_ret pe_int))
        pss_nil)
      (pss_cons (ps_for PassesOwn.never rfl (pi_range1 (by rfl) T.n_range (pa_cons (pe_callB (cLen K) (by rfl) T.n_len (by decide +kernel) (pa_cons (pv 0) pa_nil)) pa_nil)) (pg_name (i := 1) nd rfl (Or.inl rfl))
        (pss_one (ps_if (pt_not (pt_val (pe_callB (cIsi K) (by rfl) T.n_isinstance (by decide +kernel) (pa_cons (pe_ix (ixL K) (pv 0) (pv 1) (fun _ _ => rfl)) (pa_cons (pe_bltn (v := .ty "str") (by rfl) T.n_str (by decide +kernel) rfl) pa_nil)))))
          (pss_one (ps_ret (pe_op op_add (pv 1) pe_int)))
          pss_nil)))
      (pss_one (ps_ret pe_int)))), ?_⟩
    rcases h with ⟨⟨t, ht, hk⟩, q⟩ | ⟨a, xs, rfl, hS, hl, hx, q⟩
    · exact ⟨x, rfl, x, .ty "list", _, _, false, rfl, .ty _, ht, hk, false, rfl, iteT (q H (Same.refl _))⟩
    refine ⟨.ref a, rfl, .ref a, .ty "list", _, _, true, rfl, .ty _, .base (.lst hS), kit_ty (by decide +kernel), true, rfl, iteF ?_⟩
    refine ⟨.ref a, rfl, a, _, rfl, .inl (.inl (.inl hS)), (xs.length : Nat), rfl, by omega, by omega, for_it walk_range (fun i σ H' => ∃ y1, σ = [some (.ref a), y1] ∧ Same H H' ∧ firstOdd 0 xs = firstOdd i (xs.drop i)) ⟨none, rfl, Same.refl _, rfl⟩
      (fun _ _ _ _ _ => trivial) (fun i x σ H1 H2 hi hP hy => ?_) (fun σ H1 hP => ?_)⟩
    · obtain ⟨y1, rfl, sm, e⟩ := hP
      obtain ⟨rfl, rfl⟩ := hy
      have hil : i < xs.length := by omega
      have hxi := hx xs[i] (List.getElem_mem hil)
      rw [drop_cons hil] at e
      have eS := sm _ _ hS
      have eat : atI xs (0 + (i : Int)) = some xs[i] := lat_of (j := i) (by omega) (List.getElem?_eq_getElem hil)
      generalize xs[i] = v at *
      refine ⟨.ref a, rfl, _, rfl, a, _, _, v, rfl, rfl, .inl (.inl eS), eat, ?_⟩
      rcases hxi with ⟨z, rfl⟩ | ho
      · refine ⟨_, .ty "str", _, _, true, rfl, .ty _, .base (.str _), kit_ty (by decide +kernel), true, rfl, iteF ?_⟩
        exact ⟨_, rfl, sm, e⟩
      · obtain ⟨t, ht, hk⟩ := (ho.same sm).ty (K := K)
        refine ⟨_, .ty "str", _, _, false, rfl, .ty _, ht, hk, false, rfl, iteT ⟨_, rfl, _, 1, rfl, rfl, ?_⟩⟩
        rw [firstOdd_odd ho] at e
        have : (0 : Int) + (i : Int) + 1 = ((firstOdd 0 xs : Nat) : Int) := by rw [e]; omega
        show Q (.int ((0 : Int) + (i : Int) + 1)) _
        rw [this]
        exact q _ sm
    · obtain ⟨y1, rfl, sm, e⟩ := hP
      have : xs.drop ((xs.length : Int).toNat) = [] := List.drop_of_length_le (by omega)
      rw [this] at e
      have e0 : firstOdd 0 xs = 0 := e
      rw [e0] at q
      exact q _ sm
end
end K06

namespace K06
open PySem PySem.Spec PyProof.Rows L2 LH
section
variable {P : Program} {w : World} {K : PySem.W.Frag} {mg : Str → Option Value} {base : Heap} {tk : Nat → Tok} {ca : Nat → Addr}
/-! ### bytes -/
def nb (l : List Nat) : List V := l.map fun b => .int (b : Nat)
def BytesN (l : List Nat) : Prop := ∀ b ∈ l, b < 256
theorem nb_len (l : List Nat) : (nb l).length = l.length := List.length_map ..
theorem nb_at (l : List Nat) {i : Nat} (h : i < l.length) : (nb l).getD i .non = .int (l.getD i 0 : Nat) := by
  unfold nb
  rw [List.getD_eq_getElem?_getD, List.getElem?_map, List.getElem?_eq_getElem h, List.getD_eq_getElem?_getD, List.getElem?_eq_getElem h]
  rfl
theorem getD_mem {α : Type} (l : List α) (d : α) {i : Nat} (h : i < l.length) : l.getD i d ∈ l := by
  rw [List.getD_eq_getElem?_getD, List.getElem?_eq_getElem h]
  exact List.getElem_mem h
def isSgn (b : Nat) : Bool := decide (32 ≤ b) && decide (b ≤ 126) && !decide (b = 37)
end
end K06

namespace K06
open PySem PySem.Spec PyProof.Rows L2 LH
section
variable {P : Program} {w : World} {K : PySem.W.Frag} {mg : Str → Option Value} {base : Heap} {tk : Nat → Tok} {ca : Nat → Addr}
/-! ### the sixty-four signs -/
theorem s64_len : (TL.tl S64).length = 64 := by decide +kernel
theorem s64_nodup : (TL.tl S64).Nodup := by decide +kernel
theorem s64_low : ∀ c ∈ TL.tl S64, c < 128 ∧ c ≠ 61 := by decide +kernel
def in64 (c : Nat) : Bool := decide (c ∈ TL.tl S64)
def ix64 (c : Nat) : Nat := (TL.tl S64).idxOf c
theorem ix64_lt {c : Nat} (h : in64 c = true) : ix64 c < 64 := by
  rw [← s64_len]
  exact List.idxOf_lt_length_iff.mpr (of_decide_eq_true h)
theorem ix64_at {c : Nat} (h : in64 c = true) : (TL.tl S64)[ix64 c]? = some c := by
  have := ix64_lt h
  rw [List.getElem?_eq_getElem (by rw [s64_len]; exact this)]
  exact congrArg some (List.getElem_idxOf _)
theorem find64 {c : Nat} (h : in64 c = true) : Txt.find S64 ⟨#[c]⟩ = (ix64 c : Int) ∧ ∃ rest, Builtin.Str.occurrences S64 ⟨#[c]⟩ 0 S64.length 1 = ix64 c :: rest := by
  have hl : ix64 c < (TL.tl S64).length := by rw [s64_len]; exact ix64_lt h
  have := find_at S64 (ix64 c) hl s64_nodup
  have e : (TL.tl S64)[ix64 c] = c := List.getElem_idxOf _
  rw [e] at this
  exact this
/-- the number of six bits of a sign, nought of any other one -/
def b64 (c : Nat) : Nat := if in64 c = true then ix64 c else 0
theorem b64_lt (c : Nat) : b64 c < 64 := by
  unfold b64
  split
  · exact ix64_lt (by assumption)
  · decide
/-! ### bits_of -/
abbrev s_bits_of : Stmt := topS 30
abbrev N_bits_of : List Str := ["sign"]
abbrev P_bits_of : List Str := ["sign"]
theorem sc_bits_of : FnScope N_bits_of ["sign"] (defScope s_bits_of) := ⟨rfl, rfl, rfl, by decide +kernel, rfl, by decide +kernel, by decide +kernel⟩
def sp_bits : Sp := fun vs H Q _ => ∃ c : Nat, vs = [.str ⟨#[c]⟩] ∧ Tell H (.int (b64 c : Nat)) Q
theorem ok_bits {f : Addr} {fd : FuncData} {k : Nat} (F : Fun K "bits_of" "bits_of" s_bits_of f fd) (T : Tx mg tk) : FnOk P w K mg base CX0 (k + 1) f fd P_bits_of sp_bits := by
  refine F.ok sc_bits_of (fun vs H Q E h => ?_) (fun cdv A outer s H vs Q E hr h => ?_)
  · obtain ⟨c, rfl, _⟩ := h
    rfl
  · have nd := sc_bits_of.nd
    obtain ⟨c, rfl, q⟩ := h
    refine ⟨_, (pss_one (ps_ret (pe_callB (call_max2 rfl) (by rfl) T.n_max (by decide +kernel) (pa_cons pe_int (pa_cons (pe_m1 PySem.F.slot_str_find PySem.F.type_str_find mt_find (pe_glob (v := .str S64) (by rfl) T.m_SIXTY_FOUR ⟨_, rfl⟩) (pv 0)) pa_nil))))), ?_⟩
    refine ⟨⟨_, rfl⟩, .str ⟨#[c]⟩, rfl, S64, ⟨#[c]⟩, rfl, rfl, 0, _, rfl, ?_⟩
    have e : (if Txt.find S64 ⟨#[c]⟩ > 0 then Txt.find S64 ⟨#[c]⟩ else (0 : Int)) = (b64 c : Nat) := by
      unfold b64
      by_cases h : in64 c = true
      · rw [(find64 h).1, if_pos h]
        split <;> omega
      · rw [find_miss S64 c (fun hm => h (decide_eq_true hm)), if_neg h]
        rfl
    show Q (.int (if Txt.find S64 ⟨#[c]⟩ > 0 then Txt.find S64 ⟨#[c]⟩ else (0 : Int))) _
    rw [e]
    exact q _ (Same.refl _)
/-! ### what may stand, what may end -/
def lastN (l : List Nat) : Nat := l.getLastD 0
def fillB (l : List Nat) : Bool := if l.length % 4 = 2 then decide (b64 (lastN l) % 16 = 0) else if l.length % 4 = 3 then decide (b64 (lastN l) % 4 = 0) else false
def standB (c : Nat) (l : List Nat) : Bool := if l.length = 60 then false else if c = 61 then fillB l else in64 c && !decide (l.getLast? = some 61)
def endB (l : List Nat) (last : Bool) : Bool := if last = true then decide (0 < l.length) && decide (l.length % 4 = 0) else decide (l.length = 60) && !decide (l.getLast? = some 61)
theorem last_at {l : List Nat} (h : l ≠ []) : l.getLast? = some (lastN l) ∧ atI l (-1) = some (lastN l) := by
  rcases List.eq_nil_or_concat l with h0 | ⟨L, x, h0⟩
  · exact absurd h0 h
  · rw [List.concat_eq_append] at h0
    subst h0
    unfold lastN
    rw [List.getLastD_concat, List.getLast?_concat]
    exact ⟨rfl, atI_last _ _⟩
theorem eqS : Str.ofString "=" = ⟨#[61]⟩ := TL.ext_tl (by decide +kernel)
theorem eqS_tl : TL.tl (Str.ofString "=") = [61] := by decide +kernel
/-! ### may_fill -/
abbrev s_may_fill : Stmt := topS 32
abbrev N_may_fill : List Str := ["ahead", "stand"]
abbrev P_may_fill : List Str := ["ahead"]
theorem sc_may_fill : FnScope N_may_fill ["ahead"] (defScope s_may_fill) := ⟨rfl, rfl, rfl, by decide +kernel, rfl, by decide +kernel, by decide +kernel⟩
def sp_fill : Sp := fun vs H Q _ => ∃ z : Str, vs = [.str z] ∧ z.length ≤ 100000 ∧ Tell H (.bl (fillB (TL.tl z))) Q
theorem ok_fill {f fB : Addr} {fd fdB : FuncData} (F : Fun K "may_fill" "may_fill" s_may_fill f fd) (T : Tx mg tk) (D_bits_of : Def P w K mg base "bits_of" 1 fB fdB P_bits_of sp_bits) : FnOk P w K mg base CX0 2 f fd P_may_fill sp_fill := by
  refine F.ok sc_may_fill (fun vs H Q E h => ?_) (fun cdv A outer s H vs Q E hr h => ?_)
  · obtain ⟨z, rfl, _⟩ := h
    rfl
  · have nd := sc_may_fill.nd
    obtain ⟨z, rfl, hz, q⟩ := h
    refine ⟨_, (pss_cons (ps_set (i := 1) nd rfl (.inl rfl) (pe_op op_mod (pe_callB call_len_str (by rfl) T.n_len (by decide +kernel) (pa_cons (pv 0) pa_nil)) pe_int))
      (pss_cons (ps_if (pt_cmpR op_eq (pv 1) pe_int (nomark _))
        (pss_one (ps_ret (pe_cmpR op_eq (pe_op op_and (pe_def D_bits_of (hr.mono (by decide)) (pa_cons (pe_ix ix_str (pv 0) (pe_un un_neg pe_int) (fun _ _ => rfl)) pa_nil)) pe_int) pe_int (nomark _))))
        pss_nil)
      (pss_cons (ps_if (pt_cmpR op_eq (pv 1) pe_int (nomark _))
        (pss_one (ps_ret (pe_cmpR op_eq (pe_op op_and (pe_def D_bits_of (hr.mono (by decide)) (pa_cons (pe_ix ix_str (pv 0) (pe_un un_neg pe_int) (fun _ _ => rfl)) pa_nil)) pe_int) pe_int (nomark _))))
        pss_nil)
      (pss_one (ps_ret pe_bl))))), ?_⟩
    have hzl : z.length = (TL.tl z).length := TL.len_tl z
    have hzs : z.length ≤ sizeLine := by rw [sizeLine_eq]; omega
    refine ⟨.str z, rfl, z, rfl, hzs, _, 4, rfl, rfl, (show (0 : Int) < 4 by decide), ?_⟩
    dsimp only [gName]
    unfold fillB at q
    rw [show ((z.length : Nat) : Int) % 4 = (((TL.tl z).length % 4 : Nat) : Int) by omega]
    generalize hm : (TL.tl z).length % 4 = m at *
    refine ifT (decide (m = 2)) (fun k q1 => ⟨_, rfl, rfl, _, rfl, TellB.eq (by rw [vint_dec]; exact decide_eq_decide.mpr (by omega)) q1 _ (Same.refl _)⟩) (fun hc H1 s1 => ?_) (fun hc H1 s1 => ?_)
    · have hc := of_decide_eq_true hc
      rw [if_pos hc] at q
      have hne : TL.tl z ≠ [] := fun h => by rw [h] at hm; simp at hm; omega
      refine ⟨.str z, rfl, 1, rfl, z, -1, lastN (TL.tl z), rfl, rfl, hzs, (last_at hne).2, lastN (TL.tl z), rfl, fun H2 s2 => ⟨_, 15, rfl, rfl, rfl, ?_⟩⟩
      show Q (.bl (decide (V.int (Builtin.bitAnd ((b64 (lastN (TL.tl z)) : Nat) : Int) 15) = V.int 0))) _
      rw [bitAnd_m4, vint_dec, show decide (((b64 (lastN (TL.tl z)) : Nat) : Int) % 16 = 0) = decide (b64 (lastN (TL.tl z)) % 16 = 0) from decide_eq_decide.mpr (by omega)]
      exact q _ (s1.trans s2)
    · have hc := of_decide_eq_false hc
      rw [if_neg hc] at q
      dsimp only [tNext, tSeq]
      refine ifT (decide (m = 3)) (fun k q1 => ⟨_, rfl, rfl, _, rfl, TellB.eq (by rw [vint_dec]; exact decide_eq_decide.mpr (by omega)) q1 _ (Same.refl _)⟩) (fun hc H2 s2 => ?_) (fun hc H2 s2 => ?_)
      · have hc := of_decide_eq_true hc
        rw [if_pos hc] at q
        have hne : TL.tl z ≠ [] := fun h => by rw [h] at hm; simp at hm; omega
        refine ⟨.str z, rfl, 1, rfl, z, -1, lastN (TL.tl z), rfl, rfl, hzs, (last_at hne).2, lastN (TL.tl z), rfl, fun H3 s3 => ⟨_, 3, rfl, rfl, rfl, ?_⟩⟩
        show Q (.bl (decide (V.int (Builtin.bitAnd ((b64 (lastN (TL.tl z)) : Nat) : Int) 3) = V.int 0))) _
        rw [bitAnd_m2, vint_dec, show decide (((b64 (lastN (TL.tl z)) : Nat) : Int) % 4 = 0) = decide (b64 (lastN (TL.tl z)) % 4 = 0) from decide_eq_decide.mpr (by omega)]
        exact q _ (s1.trans (s2.trans s3))
      · have hc := of_decide_eq_false hc
        rw [if_neg hc] at q
        exact q _ (s1.trans s2)
/-! ### may_stand -/
abbrev s_may_stand : Stmt := topS 31
abbrev N_may_stand : List Str := ["sign", "ahead"]
abbrev P_may_stand : List Str := ["sign", "ahead"]
theorem sc_may_stand : FnScope N_may_stand ["sign", "ahead"] (defScope s_may_stand) := ⟨rfl, rfl, rfl, by decide +kernel, rfl, by decide +kernel, by decide +kernel⟩
def sp_stand : Sp := fun vs H Q _ => ∃ (c : Nat) (z : Str), vs = [.str ⟨#[c]⟩, .str z] ∧ z.length ≤ 100000 ∧ Tell H (.bl (standB c (TL.tl z))) Q
theorem ok_stand {f fF : Addr} {fd fdF : FuncData} (F : Fun K "may_stand" "may_stand" s_may_stand f fd) (T : Tx mg tk) (D_may_fill : Def P w K mg base "may_fill" 2 fF fdF P_may_fill sp_fill) : FnOk P w K mg base CX0 3 f fd P_may_stand sp_stand := by
  refine F.ok sc_may_stand (fun vs H Q E h => ?_) (fun cdv A outer s H vs Q E hr h => ?_)
  · obtain ⟨c, z, rfl, _⟩ := h
    rfl
  · have nd := sc_may_stand.nd
    obtain ⟨c, z, rfl, hz, q⟩ := h
    refine ⟨_, (pss_cons (ps_if (pt_cmpR op_eq (pe_callB call_len_str (by rfl) T.n_len (by decide +kernel) (pa_cons (pv 1) pa_nil)) (pe_glob (v := .int 60) (by rfl) T.m_ROW_SIGNS ⟨_, rfl⟩) (nomark _))
        (pss_one (ps_ret pe_bl))
        pss_nil)
      (pss_cons (ps_if (pt_cmpR op_eq (pv 0) pe_str (nomark _))
        (pss_one (ps_ret (pe_def D_may_fill (hr.mono (by decide)) (pa_cons (pv 1) pa_nil))))
        pss_nil)
      (pss_one (ps_ret (pe_and (pe_cmpR op_in_sign (pv 0) (pe_glob (v := .str S64) (by rfl) T.m_SIXTY_FOUR ⟨_, rfl⟩) rfl) (pe_one (pe_not (pe_m1 PySem.F.slot_str_endswith PySem.F.type_str_endswith mt_endswith (pv 1) pe_str)))))))), ?_⟩
    have hzl : z.length = (TL.tl z).length := TL.len_tl z
    have hzs : z.length ≤ sizeLine := by rw [sizeLine_eq]; omega
    unfold standB at q
    refine ifT (decide ((TL.tl z).length = 60)) (fun k q1 => ⟨.str z, rfl, z, rfl, hzs, rfl, _, rfl, TellB.eq (by rw [vint_dec]; exact decide_eq_decide.mpr (by omega)) q1 _ (Same.refl _)⟩) (fun hc H1 s1 => ?_) (fun hc H1 s1 => ?_)
    · rw [if_pos (of_decide_eq_true hc)] at q
      exact q _ s1
    · rw [if_neg (of_decide_eq_false hc)] at q
      dsimp only [tNext, tSeq]
      refine ifT (decide (c = 61)) (fun k q1 => ⟨_, rfl, rfl, _, rfl, TellB.eq (by rw [vstr_dec, eqS]; refine decide_eq_decide.mpr ?_; rw [str_eq_iff]; exact ⟨fun h => (List.cons.inj h).1, fun h => by rw [h]⟩) q1 _ (Same.refl _)⟩) (fun hc H2 s2 => ?_) (fun hc H2 s2 => ?_)
      · rw [if_pos (of_decide_eq_true hc)] at q
        exact ⟨.str z, rfl, z, rfl, hz, fun H3 s3 => q _ (s1.trans (s2.trans s3))⟩
      · rw [if_neg (of_decide_eq_false hc)] at q
        dsimp only [tNext, tSeq]
        refine andV (in64 c) (!decide ((TL.tl z).getLast? = some 61)) (fun Q' q' => ⟨_, rfl, c, S64, rfl, rfl, q' _ (Same.refl _)⟩) (fun _ H3 Q' s3 q' => ⟨.str z, rfl, ⟨z, rfl⟩, z, Str.ofString "=", rfl, rfl, _, rfl, ?_⟩) (fun H3 s3 => q _ (s1.trans (s2.trans s3)))
        rw [ends_one z _ 61 eqS_tl]
        exact q' _ (Same.refl _)
/-! ### may_end -/
abbrev s_may_end : Stmt := topS 33
abbrev N_may_end : List Str := ["row", "last"]
abbrev P_may_end : List Str := ["row", "last"]
theorem sc_may_end : FnScope N_may_end ["row", "last"] (defScope s_may_end) := ⟨rfl, rfl, rfl, by decide +kernel, rfl, by decide +kernel, by decide +kernel⟩
def sp_end : Sp := fun vs H Q _ => ∃ (z : Str) (b : Bool), vs = [.str z, .bl b] ∧ z.length ≤ 100000 ∧ Tell H (.bl (endB (TL.tl z) b)) Q
theorem ok_end {f : Addr} {fd : FuncData} {k : Nat} (F : Fun K "may_end" "may_end" s_may_end f fd) (T : Tx mg tk) : FnOk P w K mg base CX0 (k + 1) f fd P_may_end sp_end := by
  refine F.ok sc_may_end (fun vs H Q E h => ?_) (fun cdv A outer s H vs Q E hr h => ?_)
  · obtain ⟨z, b, rfl, _⟩ := h
    rfl
  · have nd := sc_may_end.nd
    obtain ⟨z, b, rfl, hz, q⟩ := h
    refine ⟨_, (pss_cons (ps_if (pt_val (pv 1))
        (pss_one (ps_ret (pe_and (pe_cmpR op_gt (pe_callB call_len_str (by rfl) T.n_len (by decide +kernel) (pa_cons (pv 0) pa_nil)) pe_int (nomark _)) (pe_one (pe_cmpR op_eq (pe_op op_mod (pe_callB call_len_str (by rfl) T.n_len (by decide +kernel) (pa_cons (pv 0) pa_nil)) pe_int) pe_int (nomark _))))))
        pss_nil)
      (pss_one (ps_ret (pe_and (pe_cmpR op_eq (pe_callB call_len_str (by rfl) T.n_len (by decide +kernel) (pa_cons (pv 0) pa_nil)) (pe_glob (v := .int 60) (by rfl) T.m_ROW_SIGNS ⟨_, rfl⟩) (nomark _)) (pe_one (pe_not (pe_m1 PySem.F.slot_str_endswith PySem.F.type_str_endswith mt_endswith (pv 0) pe_str))))))), ?_⟩
    have hzl : z.length = (TL.tl z).length := TL.len_tl z
    have hzs : z.length ≤ sizeLine := by rw [sizeLine_eq]; omega
    unfold endB at q
    refine ifT b (fun k q1 => ⟨.bl b, rfl, b, rfl, q1 _ (Same.refl _)⟩) (fun hc H1 s1 => ?_) (fun hc H1 s1 => ?_)
    · rw [if_pos hc] at q
      refine andV _ _ (fun Q' q' => ⟨.str z, rfl, z, rfl, hzs, _, 0, rfl, rfl, ?_⟩) (fun _ H2 Q' s2 q' => ⟨.str z, rfl, z, rfl, hzs, _, 4, rfl, rfl, (show (0 : Int) < 4 by decide), rfl, ?_⟩) (fun H2 s2 => q _ (s1.trans s2))
      · show Q' (.bl (decide ((0 : Int) < (z.length : Nat)))) _
        rw [show decide ((0 : Int) < (z.length : Nat)) = decide (0 < (TL.tl z).length) from decide_eq_decide.mpr (by omega)]
        exact q' _ (Same.refl _)
      · show Q' (.bl (decide (V.int (((z.length : Nat) : Int) % 4) = V.int 0))) _
        rw [vint_dec, show decide (((z.length : Nat) : Int) % 4 = 0) = decide ((TL.tl z).length % 4 = 0) from decide_eq_decide.mpr (by omega)]
        exact q' _ (Same.refl _)
    · rw [if_neg (by rw [hc]; exact Bool.false_ne_true)] at q
      dsimp only [tNext, tSeq]
      refine andV _ _ (fun Q' q' => ⟨.str z, rfl, z, rfl, hzs, rfl, ?_⟩) (fun _ H2 Q' s2 q' => ⟨.str z, rfl, ⟨z, rfl⟩, z, Str.ofString "=", rfl, rfl, _, rfl, ?_⟩) (fun H2 s2 => q _ (s1.trans s2))
      · show Q' (.bl (decide (V.int ((z.length : Nat) : Int) = V.int 60))) _
        rw [vint_dec, show decide (((z.length : Nat) : Int) = 60) = decide ((TL.tl z).length = 60) from decide_eq_decide.mpr (by omega)]
        exact q' _ (Same.refl _)
      · rw [ends_one z _ 61 eqS_tl]
        exact q' _ (Same.refl _)
end
end K06

namespace K06
open PySem PySem.Spec PyProof.Rows L2 LH
section
variable {P : Program} {w : World} {K : PySem.W.Frag} {mg : Str → Option Value} {base : Heap} {tk : Nat → Tok} {ca : Nat → Addr}
/-! ### the first wrong sign of rows, by what may stand and what may end -/
/-- how many signs of r may stand, those of a ahead of it -/
def goodF (g : Nat → List Nat → Bool) : List Nat → List Nat → Nat
  | _, [] => 0
  | a, c :: r => if g c a = true then goodF g (a ++ [c]) r + 1 else 0
theorem goodF_le (g : Nat → List Nat → Bool) : ∀ (r a : List Nat), goodF g a r ≤ r.length
  | [], a => Nat.le_refl _
  | c :: r, a => by
    unfold goodF
    split
    · have := goodF_le g r (a ++ [c]); rw [List.length_cons]; omega
    · exact Nat.zero_le _
/-- the promise of what may stand -/
def spS (g : Nat → List Nat → Bool) : Sp := fun vs H Q _ => ∃ (c : Nat) (z : Str), vs = [.str ⟨#[c]⟩, .str z] ∧ z.length ≤ 100000 ∧ Tell H (.bl (g c (TL.tl z))) Q
def spE (e : List Nat → Bool → Bool) : Sp := fun vs H Q _ => ∃ (z : Str) (b : Bool), vs = [.str z, .bl b] ∧ z.length ≤ 100000 ∧ Tell H (.bl (e (TL.tl z) b)) Q
/-! ### good_signs -/
abbrev s_good_signs : Stmt := topS 25
abbrev N_good_signs : List Str := ["row", "may_stand", "at"]
abbrev P_good_signs : List Str := ["row", "may_stand"]
theorem sc_good_signs : FnScope N_good_signs ["row", "may_stand"] (defScope s_good_signs) := ⟨rfl, rfl, rfl, by decide +kernel, rfl, by decide +kernel, by decide +kernel⟩
def sp_good (P : Program) (w : World) (K : PySem.W.Frag) (mg : Str → Option Value) (base : Heap) : Sp := fun vs H Q _ => ∃ (z : Str) (f : Addr) (g : Nat → List Nat → Bool), vs = [.str z, .ref f] ∧ z.length ≤ 100000 ∧ FnV P w K mg base 3 f (spS g) ∧ Tell H (.int (goodF g [] (TL.tl z) : Nat)) Q
theorem ok_good {f : Addr} {fd : FuncData} (F : Fun K "good_signs" "good_signs" s_good_signs f fd) (T : Tx mg tk) : FnOk P w K mg base CX0 4 f fd P_good_signs (sp_good P w K mg base) := by
  refine F.ok sc_good_signs (fun vs H Q E h => ?_) (fun cdv A outer s H vs Q E hr h => ?_)
  · obtain ⟨z, f, g, rfl, _⟩ := h
    rfl
  · have nd := sc_good_signs.nd
    obtain ⟨z, fS, g, rfl, hz, hf, q⟩ := h
    refine ⟨_, (pss_cons (ps_for PassesOwn.never rfl (pi_range1 (by rfl) T.n_range (pa_cons (pe_callB call_len_str (by rfl) T.n_len (by decide +kernel) (pa_cons (pv 0) pa_nil)) pa_nil)) (pg_name (i := 2) nd rfl (Or.inl rfl))
        (pss_one (ps_if (pt_not (pt_val (pe_callV (k := 3) (hr.mono (by decide)) (pv 1) (pa_cons (pe_ix ix_str (pv 0) (pv 2) (fun _ _ => rfl)) (pa_cons (pe_slice sl_str (pv 0) po_none (po_some (pv 2))) pa_nil)))))
          (pss_one (ps_ret (pv 2)))
          pss_nil)))
      (pss_one (ps_ret (pe_callB call_len_str (by rfl) T.n_len (by decide +kernel) (pa_cons (pv 0) pa_nil))))), ?_⟩
    have hzl : z.length = (TL.tl z).length := TL.len_tl z
    have hzs : z.length ≤ sizeLine := by rw [sizeLine_eq]; omega
    refine ⟨.str z, rfl, z, rfl, hzs, z.length, rfl, by omega, by omega, for_it walk_range (fun i σ H' => ∃ y2 : Option V, σ = [some (.str z), some (.ref fS), y2] ∧ Same H H' ∧ goodF g [] (TL.tl z) = i + goodF g ((TL.tl z).take i) ((TL.tl z).drop i))
      ⟨none, rfl, Same.refl _, by simp⟩ (fun _ _ _ _ _ => trivial) (fun i x σ H1 H2 hi hP hy => ?_) (fun σ H1 hP => ?_)⟩
    · obtain ⟨y2, rfl, sm, e⟩ := hP
      obtain ⟨rfl, rfl⟩ := hy
      have hi : i < (TL.tl z).length := by omega
      have hd : (TL.tl z).drop i = (TL.tl z)[i] :: (TL.tl z).drop (i + 1) := List.drop_eq_getElem_cons hi
      have htk : (TL.tl z).take (i + 1) = (TL.tl z).take i ++ [(TL.tl z)[i]] := by
        rw [List.take_add_one, List.getElem?_eq_getElem hi]
        rfl
      rw [hd, goodF] at e
      dsimp only [gName]
      rw [show (0 : Int) + (i : Int) = (i : Int) by omega]
      have hat : atI z.cps.toList (i : Int) = some (TL.tl z)[i] := atI_nat (List.getElem?_eq_getElem hi)
      generalize (TL.tl z)[i] = c at *
      have hcut : TL.tl (cutS z none (some (i : Int))) = (TL.tl z).take i := by rw [cutS_to]
      have hcl := cutTo_len z i
      refine ifT (!g c ((TL.tl z).take i)) (fun k q1 => notT _ (fun k q2 => ⟨.ref fS, rfl, fS, spS g, rfl, hf, .str z, rfl, .int (i : Nat), rfl, z, _, c, rfl, rfl, hzs, hat, .str z, rfl, .int (i : Nat), rfl, _, rfl, z, rfl, hzs, c, cutS z none (some (i : Nat)), rfl, by rw [hcl]; omega, fun H3 s3 => ⟨_, rfl, ?_⟩⟩) q1) (fun hc H3 s3 => ?_) (fun hc H3 s3 => ?_)
      · rw [hcut]
        exact q2 _ s3
      · have hg : ¬ g c ((TL.tl z).take i) = true := by simpa using hc
        rw [if_neg hg, Nat.add_zero] at e
        rw [e] at q
        exact ⟨_, rfl, q _ (sm.trans s3)⟩
      · have hg : g c ((TL.tl z).take i) = true := by simpa using hc
        rw [if_pos hg] at e
        refine ⟨_, rfl, sm.trans s3, ?_⟩
        rw [htk, e]
        omega
    · obtain ⟨y2, rfl, sm, e⟩ := hP
      rw [hzl, Int.toNat_natCast, List.drop_of_length_le (Nat.le_refl _)] at e
      refine ⟨.str z, rfl, z, rfl, hzs, ?_⟩
      show Q (.int (z.length : Nat)) _
      rw [show goodF g [] (TL.tl z) = z.length by rw [e, hzl]; rfl] at q
      exact q _ sm
/-- the first wrong row and how many of its signs are good -/
def wrongF (g : Nat → List Nat → Bool) (e : List Nat → Bool → Bool) : Nat → List Str → Option (Nat × Nat)
  | _, [] => none
  | n, r :: R => if goodF g [] (TL.tl r) < (TL.tl r).length ∨ e (TL.tl r) (decide (R = [])) = false then some (n + 1, goodF g [] (TL.tl r) + 1) else wrongF g e (n + 1) R
def lineP : Option (Nat × Nat) → Nat × Nat := fun o => o.getD (0, 0)
/-- what rows are refused at, (0, 0) of good ones -/
def FirstAt (K : PySem.W.Frag) (H : Hp) (g : Nat → List Nat → Bool) (e : List Nat → Bool → Bool) (x : V) (l p : Nat) : Prop :=
  (NoList K H x ∧ l = 1 ∧ p = 1) ∨ ∃ (a : Addr) (xs : List V), x = .ref a ∧ H a = some (.lst xs) ∧ xs.length ≤ 10000 ∧ (∀ v ∈ xs, (∃ z, v = .str z) ∨ Odd H v) ∧
    ((0 < firstOdd 0 xs ∧ l = firstOdd 0 xs ∧ p = 1) ∨ ∃ R : List Str, xs = R.map V.str ∧ (∀ z ∈ R, z.length ≤ 1000) ∧ (l, p) = lineP (wrongF g e 0 R))
theorem firstOdd_texts : ∀ (R : List Str) (n : Nat), firstOdd n (R.map V.str) = 0
  | [], _ => rfl
  | _ :: R, n => firstOdd_texts R (n + 1)
/-! ### first_wrong -/
abbrev s_first_wrong : Stmt := topS 24
abbrev N_first_wrong : List Str := ["rows", "may_stand", "may_end", "number", "at", "good"]
abbrev P_first_wrong : List Str := ["rows", "may_stand", "may_end"]
theorem sc_first_wrong : FnScope N_first_wrong ["rows", "may_stand", "may_end"] (defScope s_first_wrong) := ⟨rfl, rfl, rfl, by decide +kernel, rfl, by decide +kernel, by decide +kernel⟩
def sp_first (P : Program) (w : World) (K : PySem.W.Frag) (mg : Str → Option Value) (base : Heap) : Sp := fun vs H Q _ => ∃ (x : V) (fS fE : Addr) (g : Nat → List Nat → Bool) (e : List Nat → Bool → Bool) (l p : Nat), vs = [x, .ref fS, .ref fE] ∧ FnV P w K mg base 3 fS (spS g) ∧ FnV P w K mg base 1 fE (spE e) ∧
  FirstAt K H g e x l p ∧ ∀ H' t, Same H H' → H t = none → H' t = some (.tup [.int (l : Nat), .int (p : Nat)]) → Q (.ref t) H'
theorem ok_first {f fN fG : Addr} {fd fdN fdG : FuncData} (F : Fun K "first_wrong" "first_wrong" s_first_wrong f fd) (T : Tx mg tk) (D_no_text_row : Def P w K mg base "no_text_row" 1 fN fdN P_no_text_row (sp_no_textX K)) (D_good_signs : Def P w K mg base "good_signs" 4 fG fdG P_good_signs (sp_good P w K mg base)) : FnOk P w K mg base CX0 5 f fd P_first_wrong (sp_first P w K mg base) := by
  refine F.ok sc_first_wrong (fun vs H Q E h => ?_) (fun cdv A outer s H vs Q E hr h => ?_)
  · obtain ⟨x, fS, fE, g, e, l, p, rfl, _⟩ := h
    rfl
  · have nd := sc_first_wrong.nd
    obtain ⟨x, fS, fE, g, e, l, p, rfl, hS, hE, hx, q⟩ := h
    refine ⟨_, (pss_cons (ps_set (i := 3) nd rfl (.inl rfl) (pe_def D_no_text_row (hr.mono (by decide)) (pa_cons (pv 0) pa_nil)))
      (pss_cons (ps_if (pt_cmpR op_gt (pv 3) pe_int (nomark _))
        (pss_one (ps_ret (pe_tup (pa_cons (pv 3) (pa_cons pe_int pa_nil)))))
        pss_nil)
      (pss_cons (ps_for PassesOwn.never rfl (pi_range1 (by rfl) T.n_range (pa_cons (pe_callB (cLen K) (by rfl) T.n_len (by decide +kernel) (pa_cons (pv 0) pa_nil)) pa_nil)) (pg_name (i := 4) nd rfl (Or.inl rfl))
        (pss_cons (ps_set (i := 5) nd rfl (.inl rfl) (pe_def D_good_signs (hr.mono (by decide)) (pa_cons (pe_ix (ixL K) (pv 0) (pv 4) (fun _ _ => rfl)) (pa_cons (pv 1) pa_nil))))
        (pss_one (ps_if (PW.pt (pw_or (pt_cmpR op_lt (pv 5) (pe_callB call_len_str (by rfl) T.n_len (by decide +kernel) (pa_cons (pe_ix (ixL K) (pv 0) (pv 4) (fun _ _ => rfl)) pa_nil)) (nomark _)) (pw_or1 (pt_not (pt_val (pe_callV (k := 1) (hr.mono (by decide)) (pv 2) (pa_cons (pe_ix (ixL K) (pv 0) (pv 4) (fun _ _ => rfl)) (pa_cons (pe_cmpR op_eq (pv 4) (pe_op op_sub (pe_callB (cLen K) (by rfl) T.n_len (by decide +kernel) (pa_cons (pv 0) pa_nil)) pe_int) (nomark _)) pa_nil))))))))
          (pss_one (ps_ret (pe_tup (pa_cons (pe_op op_add (pv 4) pe_int) (pa_cons (pe_op op_add (pv 5) pe_int) pa_nil)))))
          pss_nil))))
      (pss_one (ps_ret (pe_tup (pa_cons pe_int (pa_cons pe_int pa_nil)))))))), ?_⟩
    have n2 : 2 ≤ sizeLine := Nat.le_of_lt (small1000 (show 2 ≤ 1000 by decide))
    rcases hx with ⟨hn, rfl, rfl⟩ | ⟨a, xs, rfl, ea, hl, hv, hx⟩
    · refine ⟨x, rfl, x, rfl, .inl ⟨hn, fun H1 s1 => ?_⟩⟩
      dsimp only [gName]
      refine ifT true (fun k q1 => ⟨_, rfl, _, 0, rfl, rfl, _, rfl, TellB.eq (decide_eq_true (by decide)) q1 _ (Same.refl _)⟩) (fun _ H2 s2 => ?_) (fun h => nomatch h)
      exact ⟨_, rfl, n2, fun t nt => q _ t (s1.trans (s2.trans (same_upd nt))) ((s1.trans s2).free nt) upd_same⟩
    refine ⟨.ref a, rfl, .ref a, rfl, .inr ⟨a, xs, rfl, ea, by omega, hv, fun H1 s1 => ?_⟩⟩
    dsimp only [gName]
    rcases hx with ⟨h0, rfl, rfl⟩ | ⟨R, rfl, hz, hlp⟩
    · refine ifT true (fun k q1 => ⟨_, rfl, _, 0, rfl, rfl, _, rfl, TellB.eq (decide_eq_true (by omega)) q1 _ (Same.refl _)⟩) (fun _ H2 s2 => ?_) (fun h => nomatch h)
      exact ⟨_, rfl, n2, fun t nt => q _ t (s1.trans (s2.trans (same_upd nt))) ((s1.trans s2).free nt) upd_same⟩
    rw [firstOdd_texts]
    have hm : (R.map V.str).length = R.length := List.length_map ..
    refine ifT false (fun k q1 => ⟨_, rfl, _, 0, rfl, rfl, _, rfl, TellB.eq (decide_eq_false (by decide)) q1 _ (Same.refl _)⟩) (fun h => nomatch h) (fun _ H2 s2 => ?_)
    dsimp only [tNext, tSeq]
    have s12 := s1.trans s2
    rw [hm] at hl
    refine ⟨.ref a, rfl, a, _, rfl, .inl (.inl (.inl (s12 _ _ ea))), (R.map V.str).length, rfl, by omega, by rw [hm]; omega, ?_⟩
    rw [hm]
    refine for_it walk_range (fun i σ H' => ∃ y4 y5 : Option V, σ = [some (.ref a), some (.ref fS), some (.ref fE), some (.int (0 : Nat)), y4, y5] ∧ Same H H' ∧ wrongF g e 0 R = wrongF g e i (R.drop i)) ⟨none, none, rfl, s12, by simp⟩ (fun _ _ _ _ _ => trivial) (fun i x σ H3 H4 hi hP hy => ?_) (fun σ H3 hP => ?_)
    · obtain ⟨y4, y5, rfl, sm, ew⟩ := hP
      obtain ⟨rfl, rfl⟩ := hy
      rw [Int.toNat_natCast] at hi
      have hd : R.drop i = R[i] :: R.drop (i + 1) := List.drop_eq_getElem_cons hi
      have hzi := hz R[i] (List.getElem_mem hi)
      have hat : atI (R.map V.str) (i : Int) = some (.str R[i]) := atI_nat (by rw [List.getElem?_map, List.getElem?_eq_getElem hi]; rfl)
      have hlast : decide (R.drop (i + 1) = []) = decide (i = R.length - 1) := by
        refine decide_eq_decide.mpr ?_
        rw [List.drop_eq_nil_iff]
        omega
      rw [hd, wrongF, hlast] at ew
      dsimp only [gName]
      rw [show (0 : Int) + (i : Int) = (i : Int) by omega]
      generalize R[i] = r at *
      have hrl : r.length = (TL.tl r).length := TL.len_tl r
      have hrs : r.length ≤ sizeLine := by rw [sizeLine_eq]; omega
      have hS3 : SqL K H4 a (R.map V.str) := .inl (.inl (sm _ _ ea))
      refine ⟨.ref a, rfl, .int (i : Nat), rfl, a, _, _, .str r, rfl, rfl, hS3, hat, .ref fS, rfl, r, fS, g, rfl, by omega, hS, fun H5 s5 => ?_⟩
      have hG := goodF_le g (TL.tl r) []
      generalize goodF g [] (TL.tl r) = G at *
      dsimp only [gName]
      refine ifT (decide (G < (TL.tl r).length) || !e (TL.tl r) (decide (i = R.length - 1))) (fun k q1 => orT _ _ (fun k q2 => ⟨_, rfl, .ref a, rfl, .int (i : Nat), rfl, a, _, _, .str r, rfl, rfl, s5.seq hS3, hat, r, rfl, hrs, _, _, rfl, rfl, _, rfl, TellB.eq (decide_eq_decide.mpr (by omega)) q2 _ (Same.refl _)⟩)
        (fun _ H6 k s6 q2 => notT _ (fun k q3 => ⟨.ref fE, rfl, fE, spE e, rfl, hE, .ref a, rfl, .int (i : Nat), rfl, a, _, _, .str r, rfl, rfl, s6.seq (s5.seq hS3), hat, .int (i : Nat), rfl, .ref a, rfl, a, _, rfl, .inl (s6.seq (s5.seq hS3)), _, 1, rfl, rfl, rfl, r, _, rfl, by omega, fun H7 s7 => ⟨_, rfl, ?_⟩⟩) q2) q1) (fun hc H6 s6 => ?_) (fun hc H6 s6 => ?_)
      · have eb : decide (V.int ((i : Nat) : Int) = V.int (((R.map V.str).length : Nat) - 1)) = decide (i = R.length - 1) := by
          rw [vint_dec, hm]
          exact decide_eq_decide.mpr (by omega)
        show k (e (TL.tl r) (decide (V.int ((i : Nat) : Int) = V.int (((R.map V.str).length : Nat) - 1)))) H7
        rw [eb]
        exact q3 _ s7
      · have hcc : G < (TL.tl r).length ∨ e (TL.tl r) (decide (i = R.length - 1)) = false := by simpa using hc
        rw [if_pos hcc] at ew
        rw [ew] at hlp
        obtain ⟨rfl, rfl⟩ := Prod.mk.inj hlp
        refine ⟨_, rfl, _, 1, rfl, rfl, _, rfl, _, 1, rfl, rfl, n2, fun t nt => ?_⟩
        exact q _ t (sm.trans (s5.trans (s6.trans (same_upd nt)))) ((sm.trans (s5.trans s6)).free nt) upd_same
      · have hcc : ¬ (G < (TL.tl r).length ∨ e (TL.tl r) (decide (i = R.length - 1)) = false) := fun h => by
          have : (decide (G < (TL.tl r).length) || !e (TL.tl r) (decide (i = R.length - 1))) = true := by simpa using h
          rw [hc] at this
          exact nomatch this
        rw [if_neg hcc] at ew
        exact ⟨_, _, rfl, sm.trans (s5.trans s6), ew⟩
    · obtain ⟨y4, y5, rfl, sm, ew⟩ := hP
      rw [Int.toNat_natCast, List.drop_of_length_le (Nat.le_refl _)] at ew
      rw [ew] at hlp
      obtain ⟨rfl, rfl⟩ := Prod.mk.inj hlp
      exact ⟨n2, fun t nt => q _ t (sm.trans (same_upd nt)) (sm.free nt) upd_same⟩
end
end K06

namespace K06
open PySem PySem.Spec PyProof.Rows L2 LH
section
variable {P : Program} {w : World} {K : PySem.W.Frag} {mg : Str → Option Value} {base : Heap} {tk : Nat → Tok} {ca : Nat → Addr}
/-! ### the bytes of four signs -/
def val64 (l : List Nat) : Nat := l.foldl (fun n c => n * 64 + b64 c) 0
theorem val64_snoc (l : List Nat) (c : Nat) : val64 (l ++ [c]) = val64 l * 64 + b64 c := by
  unfold val64
  rw [List.foldl_append]
  rfl
theorem val64_gen : ∀ (l : List Nat) (n : Nat), l.foldl (fun n c => n * 64 + b64 c) n < (n + 1) * 64 ^ l.length
  | [], n => by simp
  | c :: r, n => by
    have h1 := val64_gen r (n * 64 + b64 c)
    have h2 := b64_lt c
    rw [List.foldl_cons, List.length_cons, Nat.pow_succ]
    refine Nat.lt_of_lt_of_le h1 ?_
    rw [show (n + 1) * (64 ^ r.length * 64) = ((n + 1) * 64) * 64 ^ r.length by rw [Nat.mul_comm (64 ^ r.length) 64, Nat.mul_assoc]]
    exact Nat.mul_le_mul_right _ (by omega)
theorem val64_lt (l : List Nat) : val64 l < 64 ^ l.length := by
  have := val64_gen l 0
  rwa [Nat.zero_add, Nat.one_mul] at this
def fourV (l : List Nat) : List V := cutV [.int ((val64 l / 65536 : Nat) : Int), .int ((val64 l / 256 % 256 : Nat) : Int), .int ((val64 l % 256 : Nat) : Int)] none (some (3 - (l.count 61 : Nat)))
/-! ### bytes_of_four -/
abbrev s_bytes_of_four : Stmt := topS 29
abbrev N_bytes_of_four : List Str := ["signs", "number", "sign", "row"]
abbrev P_bytes_of_four : List Str := ["signs"]
theorem sc_bytes_of_four : FnScope N_bytes_of_four ["signs"] (defScope s_bytes_of_four) := ⟨rfl, rfl, rfl, by decide +kernel, rfl, by decide +kernel, by decide +kernel⟩
def sp_four : Sp := fun vs H Q _ => ∃ z : Str, vs = [.str z] ∧ z.length ≤ 4 ∧ New H (fourV (TL.tl z)) Q
theorem ok_four {f fB : Addr} {fd fdB : FuncData} (F : Fun K "bytes_of_four" "bytes_of_four" s_bytes_of_four f fd) (T : Tx mg tk) (D_bits_of : Def P w K mg base "bits_of" 1 fB fdB P_bits_of sp_bits) : FnOk P w K mg base CX0 2 f fd P_bytes_of_four sp_four := by
  refine F.ok sc_bytes_of_four (fun vs H Q E h => ?_) (fun cdv A outer s H vs Q E hr h => ?_)
  · obtain ⟨z, rfl, _⟩ := h
    rfl
  · have nd := sc_bytes_of_four.nd
    obtain ⟨z, rfl, hz, q⟩ := h
    refine ⟨_, (pss_cons (ps_set (i := 1) nd rfl (.inl rfl) pe_int)
      (pss_cons (ps_for PassesOwn.never rfl (pi_str (pv 0)) (pg_name (i := 2) nd rfl (Or.inl rfl))
        (pss_one (ps_set (i := 1) nd rfl (.inl rfl) (pe_op op_or (pe_op op_shl (pv 1) pe_int) (pe_def D_bits_of (hr.mono (by decide)) (pa_cons (pv 2) pa_nil))))))
      (pss_cons (ps_set (i := 3) nd rfl (.inl rfl) (pe_lst (pa_cons (pe_op op_shr (pv 1) pe_int) (pa_cons (pe_op op_and (pe_op op_shr (pv 1) pe_int) pe_int) (pa_cons (pe_op op_and (pv 1) pe_int) pa_nil)))))
      (pss_one (ps_ret (pe_slice (slL K) (pv 3) po_none (po_some (pe_op op_sub pe_int (pe_m1 PySem.F.slot_str_count PySem.F.type_str_count mt_count (pv 0) pe_str))))))))), ?_⟩
    have hzl : z.length = (TL.tl z).length := TL.len_tl z
    refine ⟨.str z, rfl, z, rfl, for_it walk_strF (fun i σ H' => ∃ y2 : Option V, σ = [some (.str z), some (.int (val64 ((TL.tl z).take i) : Nat)), y2, none] ∧ Same H H') ⟨none, rfl, Same.refl _⟩ (fun _ _ _ _ _ => trivial) (fun i x σ H1 H2 hi hP hy => ?_) (fun σ H1 hP => ?_)⟩
    · obtain ⟨y2, rfl, sm⟩ := hP
      obtain ⟨rfl, rfl⟩ := hy
      have htk : (TL.tl z).take (i + 1) = (TL.tl z).take i ++ [(TL.tl z).getD i 0] := by
        rw [List.take_add_one, List.getElem?_eq_getElem hi, List.getD_eq_getElem?_getD, List.getElem?_eq_getElem hi]
        rfl
      rw [htk]
      have hv := val64_lt ((TL.tl z).take i)
      have hl : ((TL.tl z).take i).length ≤ 3 := by rw [List.length_take]; omega
      have hv2 : val64 ((TL.tl z).take i) < 262144 := Nat.lt_of_lt_of_le hv (Nat.le_trans (Nat.pow_le_pow_right (by decide) hl) (by decide))
      dsimp only [gName]
      generalize (TL.tl z).getD i 0 = c at *
      generalize (TL.tl z).take i = t at *
      have hb := b64_lt c
      refine ⟨_, rfl, _, 6, rfl, rfl, ⟨by decide, by decide, by omega⟩, .str ⟨#[c]⟩, rfl, c, rfl, fun H3 s3 => ⟨_, _, rfl, rfl, some (.str ⟨#[c]⟩), ?_, sm.trans s3⟩⟩
      · show [_, some (V.int (Builtin.bitOr ((val64 t : Nat) * 2 ^ 6) (b64 c : Nat))), some (V.str ⟨#[c]⟩), _] = _
        rw [val64_snoc, Bits.bitOr_join' (k := 6) (by omega) (by omega) (by omega)]
        rw [show ((b64 c : Nat) : Int) + (val64 t : Nat) * 2 ^ 6 = ((val64 t * 64 + b64 c : Nat) : Int) by omega]
    · obtain ⟨y2, rfl, sm⟩ := hP
      rw [List.take_length]
      have hv := val64_lt (TL.tl z)
      have hv2 : val64 (TL.tl z) < 16777216 := Nat.lt_of_lt_of_le hv (Nat.le_trans (Nat.pow_le_pow_right (by decide) (show (TL.tl z).length ≤ 4 by omega)) (by decide))
      unfold fourV at q
      have hcnt := count_one z 61
      generalize val64 (TL.tl z) = N at *
      refine ⟨_, rfl, _, 16, rfl, rfl, (by show (0 : Int) ≤ 16; decide), _, rfl, _, 8, rfl, rfl, (by show (0 : Int) ≤ 8; decide), _, 255, rfl, rfl, _, rfl, _, 255, rfl, rfl, Nat.le_of_lt (small1000 (show 3 ≤ 1000 by decide)), fun p np => ?_⟩
      dsimp only [gName]
      rw [bitAnd_m8, bitAnd_m8]
      rw [show ((N : Nat) : Int) / 2 ^ (16 : Int).toNat = ((N / 65536 : Nat) : Int) by show ((N : Nat) : Int) / 65536 = _; omega, show ((N : Nat) : Int) / 2 ^ (8 : Int).toNat % 256 = ((N / 256 % 256 : Nat) : Int) by show ((N : Nat) : Int) / 256 % 256 = _; omega, show ((N : Nat) : Int) % 256 = ((N % 256 : Nat) : Int) by omega]
      have s4 := same_upd (o := .lst [V.int ((N / 65536 : Nat) : Int), .int ((N / 256 % 256 : Nat) : Int), .int ((N % 256 : Nat) : Int)]) np
      refine ⟨.ref p, rfl, .str z, rfl, ⟨z, rfl⟩, z, Str.ofString "=", rfl, rfl, 3, _, rfl, rfl, _, rfl, p, _, rfl, .inl (.inl upd_same), fun g ng => ?_⟩
      rw [eqS, hcnt]
      exact q _ g (sm.trans (s4.trans (same_upd ng))) ((sm.trans s4).free ng) upd_same
/-- a refusal by the class at C, with its row and place -/
def RefuseW (H : Hp) (C : Addr) (l p : Nat) (E : XK) : Prop := ∀ H1 d, Same H H1 → H1 d = none → E (.ref C) (some d) (upd H1 d (.xd (wrFields "badsixty" l p)))
structure DefX (P : Program) (w : World) (K : PySem.W.Frag) (mg : Str → Option Value) (base : Heap) (x : Str) (k : Nat) (f : Addr) (fd : FuncData) (ps : List Str) (sp : Sp) : Prop where
  ok : FnOk P w K mg base (L2.CX P w) k f fd ps sp
  mg : mg x = some (.ref f)
  kp : PySem.W.keepIn K (.ref f) = true
  bd : Binds K fd ps []
theorem log_small {n : Nat} (h : n ≤ 100000) : ((n : Int)).natAbs.log2 < 1920 := by
  rw [Int.natAbs_natCast]
  by_cases h0 : n = 0
  · rw [h0]; decide
  · have : n.log2 < 20 := (Nat.log2_lt h0).mpr (Nat.lt_of_le_of_lt h (by decide))
    omega
theorem firstOdd_le : ∀ (xs : List V) (n : Nat), firstOdd n xs ≤ n + xs.length
  | [], n => Nat.zero_le _
  | v :: r, n => by
    have ih := firstOdd_le r (n + 1)
    rw [List.length_cons]
    cases v <;> (unfold firstOdd; omega)
theorem wrongF_le (g : Nat → List Nat → Bool) (e : List Nat → Bool → Bool) : ∀ (R : List Str) (n l p : Nat), (∀ z ∈ R, z.length ≤ 1000) → wrongF g e n R = some (l, p) → 1 ≤ l ∧ l ≤ n + R.length ∧ 1 ≤ p ∧ p ≤ 1001
  | [], n, l, p, _, h => nomatch h
  | r :: R, n, l, p, hz, h => by
    rw [wrongF] at h
    have hr := hz r (by simp)
    rw [TL.len_tl] at hr
    have hg := goodF_le g (TL.tl r) []
    split at h
    · have := Option.some.inj h
      obtain ⟨rfl, rfl⟩ := Prod.mk.inj this
      rw [List.length_cons]
      omega
    · have := wrongF_le g e R (n + 1) l p (fun z hz' => hz z (by simp [hz'])) h
      rw [List.length_cons]
      omega
/-- all signs of rows, one behind the other -/
def textR (R : List Str) : List Nat := (R.map TL.tl).flatten
def bytes64 (R : List Str) : List V := ((chunks 4 (textR R)).map fourV).flatten
theorem fourV_len (l : List Nat) : (fourV l).length ≤ 3 := cutV_length _ _ _
theorem textR_len {R : List Str} (h : ∀ z ∈ R, z.length ≤ 1000) : (textR R).length ≤ 1000 * R.length := by
  unfold textR
  induction R with
  | nil => exact Nat.le_refl _
  | cons r R ih =>
    have h1 := h r (by simp)
    have h2 := ih fun z hz => h z (by simp [hz])
    rw [TL.len_tl] at h1
    rw [List.map_cons, List.flatten_cons, List.length_append, List.length_cons]
    omega
theorem flat_le {α : Type} (ls : List (List α)) (k : Nat) (h : ∀ x ∈ ls, x.length ≤ k) : ls.flatten.length ≤ ls.length * k := by
  induction ls with
  | nil => exact Nat.zero_le _
  | cons x r ih =>
    have h1 := h x (by simp)
    have h2 := ih fun y hy => h y (by simp [hy])
    rw [List.flatten_cons, List.length_append, List.length_cons, Nat.succ_mul]
    omega
/-! ### bytes_of_sixty -/
abbrev s_bytes_of_sixty : Stmt := topS 28
abbrev N_bytes_of_sixty : List Str := ["rows", "text", "line", "place", "at", "byte"]
abbrev P_bytes_of_sixty : List Str := ["rows"]
theorem sc_bytes_of_sixty : FnScope N_bytes_of_sixty ["rows"] (defScope s_bytes_of_sixty) := ⟨rfl, rfl, rfl, by decide +kernel, rfl, by decide +kernel, by decide +kernel⟩
def sp_sixtyX (K : PySem.W.Frag) (C : Addr) : Sp := fun vs H Q E => ∃ (x : V) (l p : Nat), vs = [x] ∧ FirstAt K H standB endB x l p ∧
  ((0 < l ∧ RefuseW H C l p E) ∨ ∃ (a : Addr) (R : List Str), l = 0 ∧ x = .ref a ∧ H a = some (.lst (R.map V.str)) ∧ R.length ≤ 10000 ∧ (∀ z ∈ R, z.length ≤ 1000) ∧ New H (bytes64 R) Q)
theorem first_small {K : PySem.W.Frag} {H : Hp} {g : Nat → List Nat → Bool} {e : List Nat → Bool → Bool} {x : V} {l p : Nat} (h : FirstAt K H g e x l p) : l ≤ 20000 ∧ p ≤ 20000 := by
  rcases h with ⟨_, rfl, rfl⟩ | ⟨a, xs, _, _, hl, _, ⟨_, rfl, rfl⟩ | ⟨R, rfl, hz, hlp⟩⟩
  · exact ⟨by decide, by decide⟩
  · have := firstOdd_le xs 0
    omega
  · cases hw : wrongF g e 0 R with
    | none =>
      rw [hw] at hlp
      obtain ⟨rfl, rfl⟩ := Prod.mk.inj hlp
      exact ⟨by decide, by decide⟩
    | some lp =>
      rw [hw] at hlp
      obtain ⟨l', p'⟩ := lp
      obtain ⟨rfl, rfl⟩ := Prod.mk.inj hlp
      have := wrongF_le g e R 0 _ _ hz hw
      rw [List.length_map] at hl
      omega
theorem ok_sixtyX {f fF f4 fS fE D fI cc cda BH fH ccH cdaH : Addr} {fd fdF fd4 fdS fdE : FuncData} (F : Fun K "bytes_of_sixty" "bytes_of_sixty" s_bytes_of_sixty f fd) (T : Tx mg tk) (W_BadSixty : WrC P K mg "BadSixty" (ca 13) D fI cc cda BH fH ccH cdaH "badsixty") (D_first_wrong : Def P w K mg base "first_wrong" 5 fF fdF P_first_wrong (sp_first P w K mg base)) (D_bytes_of_four : Def P w K mg base "bytes_of_four" 2 f4 fd4 P_bytes_of_four sp_four)
    (D_may_stand : Def P w K mg base "may_stand" 3 fS fdS P_may_stand sp_stand) (D_may_end : Def P w K mg base "may_end" 1 fE fdE P_may_end sp_end) : FnOk P w K mg base (L2.CX P w) 6 f fd P_bytes_of_sixty (sp_sixtyX K (ca 13)) := by
  refine F.okX sc_bytes_of_sixty (fun vs H Q E h => ?_) (fun cdv A outer s H vs Q E hr h => ?_)
  · obtain ⟨x, l, p, rfl, _⟩ := h
    rfl
  · have nd := sc_bytes_of_sixty.nd
    obtain ⟨x, l, p, rfl, hx, h⟩ := h
    refine ⟨_, (pss_cons (ps_asg (pe_def D_first_wrong (hr.mono (by decide)) (pa_cons (pv 0) (pa_cons (pe_glob (v := .ref _) (by rfl) D_may_stand.mg rfl) (pa_cons (pe_glob (v := .ref _) (by rfl) D_may_end.mg rfl) pa_nil)))) (pg_tup rfl (pgs_cons (pg_name (i := 2) nd rfl (Or.inl rfl)) (pgs_cons (pg_name (i := 3) nd rfl (Or.inl rfl)) pgs_nil))))
      (pss_cons (ps_if (pt_cmpR op_gt (pv 2) pe_int (nomark _))
        (pss_one (ps_raiseW rfl W_BadSixty hr (takes_of rfl rfl rfl rfl) (by exact (pa_cons (pv 2) (pa_cons (pv 3) pa_nil)))))
        pss_nil)
      (PSs.nox (pss_cons (ps_set (i := 1) nd rfl (.inr rfl) (pe_join pe_str (pv 0)))
      (pss_one (ps_ret (pe_lc2 (own := [("at", 4), ("byte", 5)]) (vs1 := [5]) (g := gName 4) (g1 := gName 5) (by rfl) nd (pi_range3 (by rfl) T.n_range (pa_cons pe_int (pa_cons (pe_callB call_len_str (by rfl) T.n_len (by decide +kernel) (pa_cons (pv 1) pa_nil)) (pa_cons pe_int pa_nil)))) (blkOk_by (N := N_bytes_of_sixty) (sc := defScope s_bytes_of_sixty) (by decide +kernel)) (by decide) (fun _ _ _ _ _ => (pg_name (i := 4) nd rfl (Or.inl rfl))) (fun _ _ _ _ _ => pts_nil) (fun _ _ _ _ _ => by exact (pi_listK K (pe_def D_bytes_of_four (hr.mono (by decide)) (pa_cons (pe_slice sl_str (pv 1) (po_some (pv 4)) (po_some (pe_op op_add (pv 4) pe_int))) pa_nil)))) (fun _ _ _ _ _ => (pg_name (i := 5) nd rfl (Or.inl rfl))) (fun _ _ _ _ _ => pts_nil) (fun _ _ _ _ _ => (pv 5))))))))), ?_⟩
    have hsm := first_small hx
    refine ⟨x, rfl, x, fS, fE, standB, endB, l, p, rfl, FnV.of D_may_stand, FnV.of D_may_end, hx, fun H1 t s1 nt et => ⟨t, _, rfl, .inl (.inl et), rfl, _, _, rfl, _, _, rfl, rfl, ?_⟩⟩
    dsimp only [gName]
    rcases h with ⟨h0, r⟩ | ⟨a, R, rfl, rfl, ea, hRl, hz, q⟩
    · refine ifT true (fun k q1 => ⟨_, rfl, _, 0, rfl, rfl, _, rfl, TellB.eq (decide_eq_true (by omega)) q1 _ (Same.refl _)⟩) (fun _ H2 s2 => ?_) (fun h => nomatch h)
      exact ⟨_, rfl, _, rfl, (l : Nat), (p : Nat), rfl, log_small (by omega), log_small (by omega), fun d hd => r H2 d (s1.trans s2) hd⟩
    · refine ifT false (fun k q1 => ⟨_, rfl, _, 0, rfl, rfl, _, rfl, TellB.eq (decide_eq_false (by decide)) q1 _ (Same.refl _)⟩) (fun h => nomatch h) (fun _ H2 s2 => ?_)
      dsimp only [tNext, tSeq]
      have ea2 := s2 _ _ (s1 _ _ ea)
      have htl := textR_len hz
      have hsum : (R.map (·.length)).sum = (textR R).length := sum_len R
      refine ⟨⟨_, rfl⟩, .ref a, rfl, Str.ofString "", a, R, rfl, rfl, .inl (.inl (.inl ea2)), by rw [hsum, show (Str.ofString "").length = 0 by decide +kernel]; omega, ?_⟩
      have ej : TL.tl (Txt.join (Str.ofString "") R) = textR R := tl_join0 R
      generalize Txt.join (Str.ofString "") R = z at *
      have hzl : z.length = (textR R).length := by rw [TL.len_tl, ej]
      have hzs : z.length ≤ sizeLine := by rw [sizeLine_eq]; omega
      dsimp only [gName]
      have hch : chunks 4 (textR R) = (List.range ((z.length + 3) / 4)).map fun i => ((textR R).drop (i * 4)).take 4 := by
        unfold chunks
        rw [hzl]
      have hck : ∀ i, TL.tl (cutS z (some (0 + ((i : Nat) : Int) * 4)) (some (0 + ((i : Nat) : Int) * 4 + 4))) = ((textR R).drop (i * 4)).take 4 := fun i => by
        rw [show (0 : Int) + ((i : Nat) : Int) * 4 = ((i * 4 : Nat) : Int) by omega, show ((i * 4 : Nat) : Int) + 4 = ((i * 4 + 4 : Nat) : Int) by omega, cutS_at, ej, Nat.add_sub_cancel_left]
      have hrow : ∀ n, (((List.range n).map fun i => (List.range (fourV (((textR R).drop (i * 4)).take 4)).length).map fun j => (fourV (((textR R).drop (i * 4)).take 4)).getD j .non).flatten) = ((List.range n).map fun i => fourV (((textR R).drop (i * 4)).take 4)).flatten := fun n => by
        congr 1
        exact List.map_congr_left fun x _ => LH.range_getD _ _
      refine ⟨.str z, rfl, z, rfl, hzs, 0, _, 4, (z.length + 3) / 4, rfl, rgC z.length 4 (by decide) (by decide) (by omega), fun D hD => lc_two (K := K) (fun i => .int (0 + ((i : Nat) : Int) * 4)) (fun i => fourV (((textR R).drop (i * 4)).take 4)) (fun i j => (fourV (((textR R).drop (i * 4)).take 4)).getD j .non) (by decide) walk_rangeC (fun _ _ => trivial) hD (fun i hi => ?_) (fun i H3 Rr hi s3 hR => ?_) (fun i j H3 Q3 hi hj s3 q3 => ?_) (fun H3 s3 e => ?_)⟩
      · rw [hrow]
        have h1 := flat_le ((List.range i).map fun i => fourV (((textR R).drop (i * 4)).take 4)) 3 fun x hx => by
          obtain ⟨j, _, rfl⟩ := List.mem_map.mp hx
          exact fourV_len _
        rw [List.length_map, List.length_range] at h1
        rw [sizeLine_eq]
        omega
      · have hl4 : (((textR R).drop (i * 4)).take 4).length ≤ 4 := by rw [List.length_take]; omega
        refine ⟨.str z, rfl, .int (0 + ((i : Nat) : Int) * 4), rfl, _, rfl, .int (0 + ((i : Nat) : Int) * 4), rfl, _, 4, rfl, rfl, _, rfl, z, rfl, hzs, _, rfl, by rw [TL.len_tl, hck]; exact hl4, ?_⟩
        intro H4 p4 s4 n4 e4
        rw [hck] at e4
        exact ⟨p4, rfl, ⟨_, .inl (.inl e4)⟩, hR H4 p4 s4 n4 e4⟩
      · exact ⟨_, rfl, q3 _ (Same.refl _)⟩
      · refine q H3 D (s1.trans (s2.trans s3)) ((s1.trans s2).free hD) ?_
        rw [e, hrow]
        unfold bytes64
        rw [hch, List.map_map]
        rfl
end
end K06

namespace K06
open PySem PySem.Spec PyProof.Rows L2 LH
section
variable {P : Program} {w : World} {K : PySem.W.Frag} {mg : Str → Option Value} {base : Heap} {tk : Nat → Tok} {ca : Nat → Addr}
def sixRow : List Bool := [false, false, false, false, false, false, false, false, false, false, true, false, true, false, false, false, false, false, false]
theorem kw_six : kindWords sixRow = [Str.ofString "wrong", Str.ofString "sixty", Str.ofString "base"] := by decide +kernel
/-- the words of a refusal by BadSixty at l, p -/
def wrongV (l p : Int) : List V := [.str (Str.ofString "wrong"), .str (Str.ofString "sixty"), .str (Str.ofString "base"), .int l, .int p]
/-! ### _law_told -/
abbrev s__law_told : Stmt := topS 49
abbrev N__law_told : List Str := ["_law_rows", "_law_refusal", "_law_found", "_law_e"]
abbrev P__law_told : List Str := ["_law_rows"]
theorem sc__law_told : FnScope N__law_told ["_law_rows"] (defScope s__law_told) := ⟨rfl, rfl, rfl, by decide +kernel, rfl, by decide +kernel, by decide +kernel⟩
/-- what the law is told of any rows -/
def sp_toldW (K : PySem.W.Frag) : Sp := fun vs H Q _ => ∃ (x : V) (l p : Nat), vs = [x] ∧ FirstAt K H standB endB x l p ∧
  ((0 < l ∧ New H (wrongV (l : Nat) (p : Nat)) Q) ∨ ∃ (a : Addr) (R : List Str), l = 0 ∧ x = .ref a ∧ H a = some (.lst (R.map V.str)) ∧ R.length ≤ 10000 ∧ (∀ z ∈ R, z.length ≤ 1000) ∧ New H (bytes64 R) Q)
theorem ok_toldW {f fF fK : Addr} {fd fdF fdK : FuncData} (F : Fun K "_law_told" "_law_told" s__law_told f fd) (T : Tx mg tk) (E : Ex K mg ca) (R0 : RaiseW K (ca 0) (ca 13)) (R1 : KitRow K ca (ca 13) sixRow) (D_bytes_of_sixty : DefX P w K mg base "bytes_of_sixty" 6 fF fdF P_bytes_of_sixty (sp_sixtyX K (ca 13))) (D__law_kind : Def P w K mg base "_law_kind" 1 fK fdK P__law_kind (sp_kind K ca)) : FnOk P w K mg base CX0 7 f fd P__law_told (sp_toldW K) := by
  refine F.ok sc__law_told (fun vs H Q _ h => ?_) (fun cdv A outer s H vs Q _ hr h => ?_)
  · obtain ⟨x, l, p, rfl, _⟩ := h
    rfl
  · have nd := sc__law_told.nd
    obtain ⟨x, l, p, rfl, hx, h⟩ := h
    refine ⟨_, (pss_cons (ps_set (i := 1) nd rfl (.inl rfl) pe_non)
      (pss_cons (ps_set (i := 2) nd rfl (.inl rfl) pe_non)
      (pss_cons (ps_try_hold (i := 3) rfl rfl rfl nd rfl rfl ⟨rfl, by decide, .inl E.m_HouseError⟩ (fun W pn xe tk _ => (pss_one (ps_set (i := 2) nd rfl (.inl rfl) (pe_callS D_bytes_of_sixty.ok (hr.mono (by decide)) (by rfl) D_bytes_of_sixty.mg D_bytes_of_sixty.kp D_bytes_of_sixty.bd (fun σ => L2.passAt tk σ) (pa_cons (pv 0) pa_nil))))) (fun a oe pn => (pss_one (ps_set (i := 1) nd rfl (.inl rfl) (pv 3)))))
      (pss_cons (ps_if (pt_cmpR op_isN (pv 1) pe_non (nomark _))
        (pss_one (ps_ret (pv 2)))
        pss_nil)
      (pss_one (ps_ret (pe_def D__law_kind (hr.mono (by decide)) (pa_cons (pv 1) pa_nil)))))))), ?_⟩
    have held : ∀ (H1 : Hp) (d a : Addr) (l p : Nat), H1 d = none → (upd H1 d (.xd (wrFields "badsixty" l p))) a = none → HeldD (upd (upd H1 d (.xd (wrFields "badsixty" l p))) a (ExH (.ref (ca 13)) (some d) a)) (ca 13) d a (wrFields "badsixty" l p) := fun H1 d a l p hd ha => by
      refine ⟨upd_same, ?_⟩
      have : d ≠ a := fun e => by
        rw [← e, upd_same] at ha
        exact nomatch ha
      rw [upd_ne this, upd_same]
    rcases h with ⟨h0, q⟩ | ⟨a, R, rfl, rfl, ea, hRl, hz, q⟩
    · refine ⟨_, rfl, x, l, p, rfl, hx, .inl ⟨h0, fun H1 d s1 hd => ⟨R0.fits, fun a na => ⟨.ref a, rfl, fun n1 => ⟨.ref a, rfl, rfl, _, rfl, ?_⟩⟩⟩⟩⟩
      rw [decide_eq_false (fun h => nomatch h)]
      have s2 := (same_upd (o := .xd (wrFields "badsixty" ((l : Nat) : Int) ((p : Nat) : Int))) hd).trans (same_upd (o := ExH (.ref (ca 13)) (some d) a) n1)
      refine iteF ⟨.ref a, rfl, a, ca 13, d, _, _, sixRow, rfl, held H1 d a l p hd n1, R0, R1, rfl, fun H2 r s3 nr e2 => ?_⟩
      rw [kw_six] at e2
      exact q H2 r (s1.trans (s2.trans s3)) ((s1.trans s2).free nr) e2
    · refine ⟨_, rfl, .ref a, 0, p, rfl, hx, .inr ⟨a, R, rfl, rfl, ea, hRl, hz, fun H1 r s1 nr e1 => ?_⟩⟩
      exact ⟨.non, rfl, rfl, _, rfl, iteT ⟨.ref r, rfl, q H1 r s1 nr e1⟩⟩
end
end K06

namespace K06
open PySem PySem.Spec PyProof.Rows L2 LH
section
variable {P : Program} {w : World} {K : PySem.W.Frag} {mg : Str → Option Value} {base : Heap} {tk : Nat → Tok} {ca : Nat → Addr}
/-! ### bits -/
def bitsN (n m : Nat) : List Nat := (List.range m).map fun k => n / 2 ^ (m - 1 - k) % 2
def numB (l : List Nat) : Nat := l.foldl (fun a b => 2 * a + b) 0
theorem bitsN_len (n m : Nat) : (bitsN n m).length = m := by unfold bitsN; rw [List.length_map, List.length_range]
/-! ### _law_sixty -/
abbrev s__law_sixty : Stmt := topS 39
abbrev N__law_sixty : List Str := []
abbrev P__law_sixty : List Str := []
theorem sc__law_sixty : FnScope N__law_sixty [] (defScope s__law_sixty) := ⟨rfl, rfl, rfl, by decide +kernel, rfl, by decide +kernel, by decide +kernel⟩
def sp_lsixty : Sp := fun vs H Q _ => vs = [] ∧ Q (.str S64) H
theorem ok_lsixty {f : Addr} {fd : FuncData} {k : Nat} (F : Fun K "_law_sixty" "_law_sixty" s__law_sixty f fd) : FnOk P w K mg base CX0 (k + 1) f fd P__law_sixty sp_lsixty := by
  refine F.ok sc__law_sixty (fun vs H Q E h => ?_) (fun cdv A outer s H vs Q E hr h => ?_)
  · obtain ⟨rfl, _⟩ := h
    rfl
  · have nd := sc__law_sixty.nd
    obtain ⟨rfl, q⟩ := h
    refine ⟨_, (pss_one (ps_ret pe_str)), ?_⟩
    exact q
/-! ### _law_bits -/
abbrev s__law_bits : Stmt := topS 40
abbrev N__law_bits : List Str := ["_law_number_here", "_law_many", "_law_k"]
abbrev P__law_bits : List Str := ["_law_number_here", "_law_many"]
theorem sc__law_bits : FnScope N__law_bits ["_law_number_here", "_law_many"] (defScope s__law_bits) := ⟨rfl, rfl, rfl, by decide +kernel, rfl, by decide +kernel, by decide +kernel⟩
theorem tab_at : ∀ j : Fin 8, ([V.int 1, .int 2, .int 4, .int 8, .int 16, .int 32, .int 64, .int 128] : List V)[j.val]? = some (.int ((2 ^ j.val : Nat) : Int)) := fun j => by
  obtain ⟨j, hj⟩ := j
  have : j = 0 ∨ j = 1 ∨ j = 2 ∨ j = 3 ∨ j = 4 ∨ j = 5 ∨ j = 6 ∨ j = 7 := by omega
  rcases this with rfl | rfl | rfl | rfl | rfl | rfl | rfl | rfl <;> rfl
def sp_lbits : Sp := fun vs H Q _ => ∃ n m : Nat, vs = [.int (n : Nat), .int (m : Nat)] ∧ m ≤ 8 ∧ New H (nb (bitsN n m)) Q
theorem ok_lbits {f : Addr} {fd : FuncData} {k : Nat} (F : Fun K "_law_bits" "_law_bits" s__law_bits f fd) (T : Tx mg tk) : FnOk P w K mg base CX0 (k + 1) f fd P__law_bits sp_lbits := by
  refine F.ok sc__law_bits (fun vs H Q E h => ?_) (fun cdv A outer s H vs Q E hr h => ?_)
  · obtain ⟨n, m, rfl, _⟩ := h
    rfl
  · have nd := sc__law_bits.nd
    obtain ⟨n, m, rfl, hm, q⟩ := h
    refine ⟨_, (pss_one (ps_ret (pe_lc (own := [("_law_k", 2)]) (g := gName 2) (by rfl) nd (pi_range1 (by rfl) T.n_range (pa_cons (pv 1) pa_nil)) (blkOk_by (N := N__law_bits) (sc := defScope s__law_bits) (by decide +kernel)) (fun _ _ _ _ _ => (pg_name (i := 2) nd rfl (Or.inl rfl))) (fun _ _ _ _ _ => pts_nil) (fun _ _ _ _ _ => (pe_op op_mod (pe_op op_fdiv (pv 0) (pe_ix (ixL K) (pe_lst (pa_cons pe_int (pa_cons pe_int (pa_cons pe_int (pa_cons pe_int (pa_cons pe_int (pa_cons pe_int (pa_cons pe_int (pa_cons pe_int pa_nil))))))))) (pe_op op_sub (pe_op op_sub (pv 1) pe_int) (pv 2)) (fun _ _ => rfl))) pe_int))))), ?_⟩
    refine ⟨_, rfl, m, rfl, by omega, by omega, fun D hD => lc_pure (n := m) (fun i => .int (0 + (i : Int))) (fun i => .int ((n / 2 ^ (m - 1 - i) % 2 : Nat) : Int)) walk_range (fun _ _ => trivial) hD (by rw [sizeLine_eq]; omega) (fun i H1 Q1 hi sm q1 => ?_) (fun H3 sm3 e => ?_)⟩
    · have ht := tab_at ⟨m - 1 - i, by omega⟩
      refine ⟨_, rfl, Nat.le_of_lt (small1000 (show 8 ≤ 1000 by decide)), fun p np => ⟨_, rfl, _, 1, rfl, rfl, _, rfl, _, _, rfl, rfl, p, _, _, .int ((2 ^ (m - 1 - i) : Nat) : Int), rfl, rfl, .inl (.inl upd_same), ?_, _, _, rfl, rfl, ?_, _, 2, rfl, rfl, (show (0 : Int) < 2 by decide), ?_⟩⟩
      · rw [show ((m : Nat) : Int) - 1 - (0 + (i : Int)) = ((m - 1 - i : Nat) : Int) by omega]
        exact atI_nat ht
      · have h1 : 0 < 2 ^ (m - 1 - i) := Nat.two_pow_pos _
        have h2 : 2 ^ (m - 1 - i) ≤ 2 ^ 8 := Nat.pow_le_pow_right (by decide) (by omega)
        exact ⟨by omega, by omega⟩
      · show Q1 (.int (((n : Nat) : Int) / ((2 ^ (m - 1 - i) : Nat) : Int) % 2)) _
        rw [show ((n : Nat) : Int) / ((2 ^ (m - 1 - i) : Nat) : Int) % 2 = ((n / 2 ^ (m - 1 - i) % 2 : Nat) : Int) by rw [Int.natCast_emod, Int.natCast_ediv]; rfl]
        exact q1 _ (same_upd np)
    · refine q H3 D sm3 hD ?_
      rw [e]
      unfold bitsN nb
      rw [List.map_map]
      rfl
/-! ### _law_number -/
abbrev s__law_number : Stmt := topS 41
abbrev N__law_number : List Str := ["_law_bits_here", "_law_found", "_law_bit"]
abbrev P__law_number : List Str := ["_law_bits_here"]
theorem sc__law_number : FnScope N__law_number ["_law_bits_here"] (defScope s__law_number) := ⟨rfl, rfl, rfl, by decide +kernel, rfl, by decide +kernel, by decide +kernel⟩
def sp_lnumber : Sp := fun vs H Q _ => ∃ (a : Addr) (l : List Nat), vs = [.ref a] ∧ H a = some (.lst (nb l)) ∧ Tell H (.int (numB l : Nat)) Q
theorem ok_lnumber {f : Addr} {fd : FuncData} {k : Nat} (F : Fun K "_law_number" "_law_number" s__law_number f fd) (T : Tx mg tk) : FnOk P w K mg base CX0 (k + 1) f fd P__law_number sp_lnumber := by
  refine F.ok sc__law_number (fun vs H Q E h => ?_) (fun cdv A outer s H vs Q E hr h => ?_)
  · obtain ⟨a, l, rfl, _⟩ := h
    rfl
  · have nd := sc__law_number.nd
    obtain ⟨a, l, rfl, hS, q⟩ := h
    refine ⟨_, (pss_cons (ps_set (i := 1) nd rfl (.inl rfl) pe_int)
      (pss_cons (ps_for PassesOwn.never rfl (pi_list (pv 0)) (pg_name (i := 2) nd rfl (Or.inl rfl))
        (pss_one (ps_set (i := 1) nd rfl (.inl rfl) (pe_op op_add (pe_op op_mul pe_int (pv 1)) (pv 2)))))
      (pss_one (ps_ret (pv 1))))), ?_⟩
    refine ⟨.ref a, rfl, a, rfl, ⟨_, .inl (.inl hS)⟩, for_it (walk_listF (xs := nb l)) (fun i σ H' => ∃ y2 : Option V, σ = [some (.ref a), some (.int (numB (l.take i) : Nat)), y2] ∧ Same H H') ⟨none, rfl, Same.refl _⟩ (fun i σ H' _ h => by obtain ⟨_, rfl, sm⟩ := h; exact .inl (.inl (sm _ _ hS))) (fun i x σ H1 H2 hi hP hy => ?_) (fun σ H1 hP => ?_)⟩
    · obtain ⟨y2, rfl, sm⟩ := hP
      obtain ⟨rfl, rfl⟩ := hy
      rw [nb_len] at hi
      dsimp only [gName]
      rw [nb_at l hi]
      have htk : l.take (i + 1) = l.take i ++ [l.getD i 0] := by
        rw [List.take_add_one, List.getElem?_eq_getElem hi, List.getD_eq_getElem?_getD, List.getElem?_eq_getElem hi]
        rfl
      have e : numB (l.take (i + 1)) = 2 * numB (l.take i) + l.getD i 0 := by
        rw [htk]
        unfold numB
        rw [List.foldl_append]
        rfl
      rw [e]
      refine ⟨_, rfl, 2, _, rfl, rfl, .inl (by decide), _, rfl, _, _, rfl, rfl, some (.int (l.getD i 0 : Nat)), ?_, sm⟩
      show [_, some (V.int (2 * ((numB (l.take i) : Nat) : Int) + (l.getD i 0 : Nat))), _] = _
      rw [show 2 * ((numB (l.take i) : Nat) : Int) + (l.getD i 0 : Nat) = ((2 * numB (l.take i) + l.getD i 0 : Nat) : Int) by omega]
    · obtain ⟨y2, rfl, sm⟩ := hP
      rw [nb_len, List.take_length]
      exact ⟨_, rfl, q _ sm⟩
end
end K06

namespace K06
open PySem PySem.Spec PyProof.Rows L2 LH
section
variable {P : Program} {w : World} {K : PySem.W.Frag} {mg : Str → Option Value} {base : Heap} {tk : Nat → Tok} {ca : Nat → Addr}
/-! ### the law's look at beginnings -/
def leftM (b : List Nat) : Nat := if b.length % 4 = 2 then 16 else if b.length % 4 = 3 then 4 else 1
def All64 (b : List Nat) : Prop := ∀ x ∈ b, in64 x = true
theorem in64_no {c : Nat} (h : in64 c = true) : c < 128 ∧ c ≠ 61 := s64_low c (of_decide_eq_true h)
theorem all64_last {b : List Nat} (h : All64 b) (hne : b ≠ []) : in64 (lastN b) = true := h _ (List.mem_of_getLast? (last_at hne).1)
theorem all64_no61 {b : List Nat} (h : All64 b) : b.getLast? ≠ some 61 := fun e => (in64_no (h _ (List.mem_of_getLast? e))).2 rfl
theorem all64_mem {b : List Nat} (h : All64 b) : 61 ∉ b := fun e => (in64_no (h _ e)).2 rfl
theorem cutS_one {z : Str} (hne : TL.tl z ≠ []) : cutS z (some (-1)) none = ⟨#[lastN (TL.tl z)]⟩ := by
  refine TL.ext_tl ?_
  rw [cutS_last]
  exact (drop_last_eq _ _).mpr (last_at hne).1
/-! ### _law_left -/
abbrev s__law_left : Stmt := topS 43
abbrev N__law_left : List Str := ["_law_body", "_law_left_here"]
abbrev P__law_left : List Str := ["_law_body"]
theorem sc__law_left : FnScope N__law_left ["_law_body"] (defScope s__law_left) := ⟨rfl, rfl, rfl, by decide +kernel, rfl, by decide +kernel, by decide +kernel⟩
def sp_lleft : Sp := fun vs H Q _ => ∃ z : Str, vs = [.str z] ∧ z.length ≤ 1000 ∧ TL.tl z ≠ [] ∧ All64 (TL.tl z) ∧ Tell H (.int (b64 (lastN (TL.tl z)) % leftM (TL.tl z) : Nat)) Q
theorem ok_lleft {f fS : Addr} {fd fdS : FuncData} (F : Fun K "_law_left" "_law_left" s__law_left f fd) (T : Tx mg tk) (D__law_sixty : Def P w K mg base "_law_sixty" 1 fS fdS P__law_sixty sp_lsixty) : FnOk P w K mg base CX0 2 f fd P__law_left sp_lleft := by
  refine F.ok sc__law_left (fun vs H Q E h => ?_) (fun cdv A outer s H vs Q E hr h => ?_)
  · obtain ⟨z, rfl, _⟩ := h
    rfl
  · have nd := sc__law_left.nd
    obtain ⟨z, rfl, hz, hne, hA, q⟩ := h
    refine ⟨_, (pss_cons (ps_set (i := 1) nd rfl (.inl rfl) (pe_dget2 (LH.unit1 hr) (pe_disp (pps_cons pe_int pe_int (pps_cons pe_int pe_int pps_nil)) (by rfl) (by rfl) (fun z => by cases z) (by decide)) (pe_op op_mod (pe_callB call_len_str (by rfl) T.n_len (by decide +kernel) (pa_cons (pv 0) pa_nil)) pe_int) pe_int ⟨by rfl, by rfl, by rfl, by rfl⟩))
      (pss_one (ps_ret (pe_op op_mod (pe_m1 PySem.F.slot_str_find PySem.F.type_str_find mt_find (pe_def0 D__law_sixty (hr.mono (by decide))) (pe_slice sl_str (pv 0) (po_some (pe_un un_neg pe_int)) po_none)) (pv 1))))), ?_⟩
    have hzl : z.length = (TL.tl z).length := TL.len_tl z
    have hzs : z.length ≤ sizeLine := by rw [sizeLine_eq]; omega
    have hin := all64_last hA hne
    refine fun p np => ⟨upd_same, [(Sum.inl 2, .int 16), (Sum.inl 3, .int 4)], rfl, by decide, p, rfl, .inl ⟨_, .inl upd_same⟩, .str z, rfl, z, rfl, hzs, _, 4, rfl, rfl, (show (0 : Int) < 4 by decide), _, DGet.k (k := Sum.inl (((TL.tl z).length % 4 : Nat) : Int)) upd_same, ?_⟩
    have hv : ∀ m, m < 4 → (valV (mergeK [] [(Sum.inl 2, V.int 16), (Sum.inl 3, V.int 4)]) (Sum.inl ((m : Nat) : Int))).getD (V.int 1) = .int ((if m = 2 then 16 else if m = 3 then 4 else 1 : Nat) : Int) := fun m hm => by
      have : m = 0 ∨ m = 1 ∨ m = 2 ∨ m = 3 := by omega
      rcases this with rfl | rfl | rfl | rfl <;> rfl
    dsimp only [gName]
    rw [hv _ (Nat.mod_lt _ (by decide))]
    have hm0 : 0 < leftM (TL.tl z) := by unfold leftM; split <;> (try split) <;> decide
    refine ⟨rfl, ⟨S64, rfl⟩, .str z, rfl, 1, rfl, -1, rfl, z, rfl, hzs, S64, _, rfl, rfl, _, rfl, _, _, rfl, rfl, ?_, ?_⟩
    · show (0 : Int) < ((leftM (TL.tl z) : Nat) : Int)
      omega
    · show Q (.int (Txt.find S64 (cutS z (some (-1)) none) % ((leftM (TL.tl z) : Nat) : Int))) _
      rw [cutS_one hne, (find64 hin).1]
      have hb : b64 (lastN (TL.tl z)) = ix64 (lastN (TL.tl z)) := if_pos hin
      rw [← hb, ← Int.natCast_emod]
      exact q _ fun b x e => by
        have hb : b ≠ p := ne_of_none e np
        rw [upd_ne hb, upd_ne hb]
        exact e
theorem or_false_iff' {a b : Bool} : (a || b) = false ↔ a = false ∧ b = false := by cases a <;> cases b <;> simp
theorem in_ways : ∀ m n : Nat, m < 4 → 1 ≤ n → n ≤ 3 → (([.tuple [.int 2, .int 1], .tuple [.int 2, .int 2], .tuple [.int 3, .int 1]] : List PyData).any fun z => PyData.eqv z (.tuple [.int ((m : Nat) : Int), .int ((n : Nat) : Int)])) = (decide (m = 2 ∧ n ≤ 2) || decide (m = 3 ∧ n = 1)) := fun m n hm h1 h3 => by
  have hm' : m = 0 ∨ m = 1 ∨ m = 2 ∨ m = 3 := by omega
  have : n = 1 ∨ n = 2 ∨ n = 3 := by omega
  rcases hm' with rfl | rfl | rfl | rfl <;> rcases this with rfl | rfl | rfl <;> decide +kernel
/-! ### _law_begins -/
abbrev s__law_begins : Stmt := topS 44
abbrev N__law_begins : List Str := ["_law_row", "_law_body", "_law_pads"]
abbrev P__law_begins : List Str := ["_law_row"]
theorem sc__law_begins : FnScope N__law_begins ["_law_row"] (defScope s__law_begins) := ⟨rfl, rfl, rfl, by decide +kernel, rfl, by decide +kernel, by decide +kernel⟩
/-- signs that may all stand -/
def Val64 (b : List Nat) (k : Nat) : Prop := All64 b ∧ b.length + k ≤ 60 ∧ (k = 0 ∨ (b.length % 4 = 2 ∧ k ≤ 2 ∧ b64 (lastN b) % 16 = 0) ∨ (b.length % 4 = 3 ∧ k = 1 ∧ b64 (lastN b) % 4 = 0))
def sp_lbegins : Sp := fun vs H Q _ => ∃ (z : Str) (b : List Nat) (k c : Nat), vs = [.str z] ∧ TL.tl z = b ++ List.replicate k 61 ++ [c] ∧ Val64 b k ∧ Tell H (.bl (standB c (b ++ List.replicate k 61))) Q
theorem ok_lbegins {f fS fL : Addr} {fd fdS fdL : FuncData} (F : Fun K "_law_begins" "_law_begins" s__law_begins f fd) (T : Tx mg tk) (D__law_sixty : Def P w K mg base "_law_sixty" 1 fS fdS P__law_sixty sp_lsixty) (D__law_left : Def P w K mg base "_law_left" 2 fL fdL P__law_left sp_lleft) : FnOk P w K mg base CX0 3 f fd P__law_begins sp_lbegins := by
  refine F.ok sc__law_begins (fun vs H Q E h => ?_) (fun cdv A outer s H vs Q E hr h => ?_)
  · obtain ⟨z, b, k, c, rfl, _⟩ := h
    rfl
  · have nd := sc__law_begins.nd
    obtain ⟨z, b, k, c, rfl, hz, ⟨hA, hl, hk⟩, q⟩ := h
    refine ⟨_, (pss_cons (ps_set (i := 1) nd rfl (.inl rfl) (pe_m1 PySem.F.slot_str_rstrip PySem.F.type_str_rstrip mt_rstripChars (pv 0) pe_str))
      (pss_cons (ps_set (i := 2) nd rfl (.inl rfl) (pe_op op_sub (pe_callB call_len_str (by rfl) T.n_len (by decide +kernel) (pa_cons (pv 0) pa_nil)) (pe_callB call_len_str (by rfl) T.n_len (by decide +kernel) (pa_cons (pv 1) pa_nil))))
      (pss_cons (ps_if (PW.pt (pw_or (pt_cmpR op_gt (pe_callB call_len_str (by rfl) T.n_len (by decide +kernel) (pa_cons (pv 0) pa_nil)) pe_int (nomark _)) (pw_or (pt_cmpR op_notIn_sign (pe_ix ix_str (pv 0) (pe_un un_neg pe_int) (fun _ _ => rfl)) (pe_op op_add_str (pe_def0 D__law_sixty (hr.mono (by decide))) pe_str) rfl) (pw_or1 (pt_cmpR op_in_sign pe_str (pv 1) rfl)))))
        (pss_one (ps_ret pe_bl))
        pss_nil)
      (pss_cons (ps_if (pt_cmpR op_eq (pv 2) pe_int (nomark _))
        (pss_one (ps_ret pe_bl))
        pss_nil)
      (pss_one (ps_ret (pe_and (pe_cmpR (op_inT K (LH.room65 hr)) (pe_tup (pa_cons (pe_op op_mod (pe_callB call_len_str (by rfl) T.n_len (by decide +kernel) (pa_cons (pv 1) pa_nil)) pe_int) (pa_cons (pv 2) pa_nil))) (pe_tup (pa_cons (pe_tup (pa_cons pe_int (pa_cons pe_int pa_nil))) (pa_cons (pe_tup (pa_cons pe_int (pa_cons pe_int pa_nil))) (pa_cons (pe_tup (pa_cons pe_int (pa_cons pe_int pa_nil))) pa_nil)))) (by rfl)) (pe_one (pe_cmpR op_eq (pe_def D__law_left (hr.mono (by decide)) (pa_cons (pv 1) pa_nil)) pe_int (nomark _)))))))))), ?_⟩
    have hS6 : TL.tl (S64 ++ Str.ofString "=") = TL.tl S64 ++ [61] := by rw [TL.tl_append, eqS_tl]
    have hzl : z.length = b.length + k + 1 := by rw [TL.len_tl, hz, List.length_append, List.length_append, List.length_replicate]; rfl
    have hzs : z.length ≤ sizeLine := by rw [sizeLine_eq]; omega
    have hn1 : 1 ≤ sizeLine := Nat.le_of_lt (small1000 (show 1 ≤ 1000 by decide))
    have n2 : 2 ≤ sizeLine := Nat.le_of_lt (small1000 (show 2 ≤ 1000 by decide))
    have n3 : 3 ≤ sizeLine := Nat.le_of_lt (small1000 (show 3 ≤ 1000 by decide))
    have hat : atI z.cps.toList (-1) = some c := by
      show atI (TL.tl z) (-1) = some c
      rw [hz]
      exact atI_last _ _
    have hpl : (b ++ List.replicate k 61).length = b.length + k := by simp
    have hplast : 0 < k → (b ++ List.replicate k 61).getLast? = some 61 := fun h => by
      obtain ⟨j, rfl⟩ : ∃ j, k = j + 1 := ⟨k - 1, by omega⟩
      rw [List.replicate_succ', ← List.append_assoc, List.getLast?_concat]
    have hB : TL.tl (Txt.rstripChars z (Str.ofString "=")) = if c = 61 then b else TL.tl z := by
      by_cases h : c = 61
      · rw [if_pos h]
        refine rstrip_app z _ 61 b (k + 1) eqS_tl ?_ (all64_no61 hA)
        rw [hz, h, List.append_assoc, List.replicate_succ']
      · rw [if_neg h]
        refine rstrip_app z _ 61 (TL.tl z) 0 eqS_tl (by simp) ?_
        rw [hz, List.getLast?_concat]
        exact fun e => h (Option.some.inj e)
    have hBl : (Txt.rstripChars z (Str.ofString "=")).length = if c = 61 then b.length else z.length := by
      rw [TL.len_tl, hB]
      split <;> simp [TL.len_tl]
    refine ⟨.str z, rfl, ⟨z, rfl⟩, z, Str.ofString "=", rfl, rfl, hzs, ?_⟩
    generalize Txt.rstripChars z (Str.ofString "=") = B at *
    have hBs : B.length ≤ sizeLine := by
      rw [sizeLine_eq, hBl]
      split <;> omega
    dsimp only [gName]
    refine ⟨.str z, rfl, z, rfl, hzs, .str B, rfl, B, rfl, hBs, _, _, rfl, rfl, ?_⟩
    dsimp only [gName]
    have hm64 : decide (c ∈ (S64 ++ Str.ofString "=").cps.toList) = (in64 c || decide (c = 61)) := by
      show decide (c ∈ TL.tl (S64 ++ Str.ofString "=")) = _
      rw [hS6, Bool.eq_iff_iff, decide_eq_true_eq, Bool.or_eq_true, decide_eq_true_eq, List.mem_append, List.mem_singleton]
      unfold in64
      rw [decide_eq_true_eq]
    refine ifT (decide (60 < z.length) || (!(in64 c || decide (c = 61)) || decide (61 ∈ TL.tl B))) (fun k' q1 => orT _ _ (fun k' q2 => ⟨.str z, rfl, z, rfl, hzs, _, 60, rfl, rfl, _, rfl, TellB.eq (decide_eq_decide.mpr (by omega)) q2 _ (Same.refl _)⟩)
      (fun _ H1 k' s1 q2 => orT _ _ (fun k' q3 => ⟨.str z, rfl, 1, rfl, z, -1, c, rfl, rfl, hzs, hat, rfl, S64, _, rfl, rfl, by decide +kernel, c, _, rfl, rfl, _, rfl, TellB.eq (by rw [hm64]) q3 _ (Same.refl _)⟩)
        (fun _ H2 k' s2 q3 => ⟨_, rfl, 61, B, by rw [eqS], rfl, _, rfl, q3 _ (Same.refl _)⟩) q2) q1) (fun hc H1 s1 => ?_) (fun hc H1 s1 => ?_)
    · have : standB c (b ++ List.replicate k 61) = false := by
        unfold standB
        rw [hpl]
        rw [Bool.or_eq_true, Bool.or_eq_true, decide_eq_true_eq, decide_eq_true_eq, Bool.not_eq_true', or_false_iff'] at hc
        rcases hc with h | ⟨h1, h2⟩ | h
        · rw [if_pos (by omega)]
        · have h2 := of_decide_eq_false h2
          split
          · rfl
          · simp [h1, h2]
        · rw [hB] at h
          by_cases h61 : c = 61
          · rw [if_pos h61] at h
            exact absurd h (all64_mem hA)
          · rw [if_neg h61, hz] at h
            have hk0 : 0 < k := by
              rcases List.mem_append.mp h with h | h
              · rcases List.mem_append.mp h with h | h
                · exact absurd h (all64_mem hA)
                · have := List.mem_replicate.mp h; omega
              · exact absurd (List.mem_singleton.mp h).symm h61
            split
            · rfl
            · simp [h61, hplast hk0]
      rw [this] at q
      exact q _ s1
    · obtain ⟨h1, h2, h3⟩ : z.length ≤ 60 ∧ (in64 c = true ∨ c = 61) ∧ 61 ∉ TL.tl B := by
        have a1 := or_false' hc
        have a2 := or_false' a1.2
        refine ⟨by have := of_decide_eq_false a1.1; omega, ?_, of_decide_eq_false a2.2⟩
        have : (in64 c || decide (c = 61)) = true := by
          have := a2.1
          generalize (in64 c || decide (c = 61)) = y at *
          cases y
          · exact nomatch this
          · rfl
        rwa [Bool.or_eq_true, decide_eq_true_eq] at this
      dsimp only [tNext, tSeq]
      unfold standB at q
      rw [hpl, if_neg (show ¬ b.length + k = 60 by omega)] at q
      by_cases h61 : c = 61
      · rw [if_pos h61] at q hB hBl
        refine ifT false (fun k' q1 => ⟨_, rfl, rfl, _, rfl, TellB.eq (by rw [vint_dec]; exact decide_eq_false (by omega)) q1 _ (Same.refl _)⟩) (fun h => nomatch h) (fun _ H2 s2 => ?_)
        dsimp only [tNext, tSeq]
        have hk3 : k + 1 ≤ 3 := by omega
        refine andV (decide (b.length % 4 = 2 ∧ k + 1 ≤ 2) || decide (b.length % 4 = 3 ∧ k + 1 = 1)) (decide (b64 (lastN b) % leftM b = 0)) (fun Q' q' => ?_) (fun hw H3 Q' s3 q' => ?_) (fun H3 s3 => ?_)
        · refine ⟨.str B, rfl, B, rfl, hBs, _, 4, rfl, rfl, (show (0 : Int) < 4 by decide), _, rfl, n2, fun t nt => ?_⟩
          refine ⟨n2, fun t1 n1 => ⟨n2, fun t2 n2' => ⟨n2, fun t3 n3' => ⟨n3, fun t4 n4 => ?_⟩⟩⟩⟩
          have S1 := same_upd (o := HO.tup [V.int ((B.length : Nat) % 4), V.int ((z.length : Nat) - (B.length : Nat))]) nt
          have S2 := same_upd (o := HO.tup [V.int 2, V.int 1]) n1
          have S3 := same_upd (o := HO.tup [V.int 2, V.int 2]) n2'
          have S4 := same_upd (o := HO.tup [V.int 3, V.int 1]) n3'
          have S5 := same_upd (o := HO.tup [V.ref t1, V.ref t2, V.ref t3]) n4
          refine ⟨.tuple [.int ((B.length : Nat) % 4), .int ((z.length : Nat) - (B.length : Nat))], [.tuple [.int 2, .int 1], .tuple [.int 2, .int 2], .tuple [.int 3, .int 1]], ?_, ?_, rfl, rfl, ?_⟩
          · exact .tup (.inl (.inl (S5 _ _ (S4 _ _ (S3 _ _ (S2 _ _ upd_same)))))) (.cons (.int _) (.cons (.int _) .nil))
          · exact .tup (.inl (.inl upd_same)) (.cons (.tup (.inl (.inl (S5 _ _ (S4 _ _ (S3 _ _ upd_same))))) (.cons (.int _) (.cons (.int _) .nil))) (.cons (.tup (.inl (.inl (S5 _ _ (S4 _ _ upd_same)))) (.cons (.int _) (.cons (.int _) .nil))) (.cons (.tup (.inl (.inl (S5 _ _ upd_same))) (.cons (.int _) (.cons (.int _) .nil))) .nil)))
          · have e1 : ((B.length : Nat) : Int) % 4 = ((b.length % 4 : Nat) : Int) := by omega
            have e2 : ((z.length : Nat) : Int) - ((B.length : Nat) : Int) = ((k + 1 : Nat) : Int) := by omega
            have hany : (([.tuple [.int 2, .int 1], .tuple [.int 2, .int 2], .tuple [.int 3, .int 1]] : List PyData).any fun x => PyData.eqv x (.tuple [.int (((B.length : Nat) : Int) % 4), .int (((z.length : Nat) : Int) - ((B.length : Nat) : Int))])) = (decide (b.length % 4 = 2 ∧ k + 1 ≤ 2) || decide (b.length % 4 = 3 ∧ k + 1 = 1)) := by
              rw [e1, e2]
              exact in_ways (b.length % 4) (k + 1) (Nat.mod_lt _ (by decide)) (by omega) hk3
            rw [hany]
            exact q' _ (S1.trans (S2.trans (S3.trans (S4.trans S5))))
        · have hw' : b.length % 4 = 2 ∨ b.length % 4 = 3 := by
            rw [Bool.or_eq_true, decide_eq_true_eq, decide_eq_true_eq] at hw
            omega
          have hbne : b ≠ [] := fun h => by rw [h] at hw'; simp at hw'
          refine ⟨.str B, rfl, B, rfl, by omega, by rw [hB]; exact hbne, by rw [hB]; exact hA, fun H4 s4 => ?_⟩
          rw [hB]
          refine ⟨rfl, ?_⟩
          show Q' (.bl (decide (V.int ((b64 (lastN b) % leftM b : Nat) : Int) = V.int 0))) _
          rw [vint_dec, show decide (((b64 (lastN b) % leftM b : Nat) : Int) = 0) = decide (b64 (lastN b) % leftM b = 0) from decide_eq_decide.mpr (by omega)]
          exact q' _ s4
        · have : ((decide (b.length % 4 = 2 ∧ k + 1 ≤ 2) || decide (b.length % 4 = 3 ∧ k + 1 = 1)) && decide (b64 (lastN b) % leftM b = 0)) = fillB (b ++ List.replicate k 61) := by
            have hlast : lastN (b ++ List.replicate k 61) = if k = 0 then lastN b else 61 := by
              split
              · rename_i h; rw [h]; simp
              · exact (Option.some.inj ((last_at (l := b ++ List.replicate k 61) (by intro h; have := congrArg List.length h; rw [hpl] at this; simp at this; omega)).1.symm.trans (hplast (by omega))))
            have h610 : b64 61 = 0 := by decide +kernel
            unfold fillB leftM
            rw [hpl, hlast]
            rcases hk with rfl | ⟨h1, h2, h3⟩ | ⟨h1, h2, h3⟩
            · simp only [Nat.add_zero, if_pos]
              have : b.length % 4 = 0 ∨ b.length % 4 = 1 ∨ b.length % 4 = 2 ∨ b.length % 4 = 3 := by omega
              rcases this with h | h | h | h <;> simp [h]
            · rcases (show k = 0 ∨ k = 1 ∨ k = 2 by omega) with rfl | rfl | rfl
              · simp [h1, h3]
              · simp [h1, h3, show (b.length + 1) % 4 = 3 by omega, h610]
              · simp [h1, show (b.length + 2) % 4 = 0 by omega]
            · subst h2
              simp [h1, show (b.length + 1) % 4 = 0 by omega]
          rw [this]
          exact q _ (s1.trans (s2.trans s3))
      · rw [if_neg h61] at q hB hBl
        have hc64 : in64 c = true := h2.resolve_right h61
        have hk0 : k = 0 := by
          rcases Nat.eq_zero_or_pos k with h | h
          · exact h
          · refine absurd ?_ h3
            rw [hB, hz]
            exact List.mem_append_left _ (List.mem_append_right _ (List.mem_replicate.mpr ⟨by omega, rfl⟩))
        subst hk0
        have hb61 : decide ((b ++ List.replicate 0 61).getLast? = some 61) = false := decide_eq_false (by rw [List.replicate_zero, List.append_nil]; exact all64_no61 hA)
        rw [hc64, hb61] at q
        refine ifT true (fun k' q1 => ⟨_, rfl, rfl, _, rfl, TellB.eq (by rw [vint_dec]; exact decide_eq_true (by omega)) q1 _ (Same.refl _)⟩) (fun _ H2 s2 => ?_) (fun h => nomatch h)
        exact q _ (s1.trans s2)
end
end K06

namespace K06
open PySem PySem.Spec PyProof.Rows L2 LH
section
variable {P : Program} {w : World} {K : PySem.W.Frag} {mg : Str → Option Value} {base : Heap} {tk : Nat → Tok} {ca : Nat → Addr}
/-! ### the law's first wrong sign -/
theorem rep_last {b : List Nat} {k : Nat} (h : 0 < k) : (b ++ List.replicate k 61).getLast? = some 61 := by
  obtain ⟨j, rfl⟩ : ∃ j, k = j + 1 := ⟨k - 1, by omega⟩
  rw [List.replicate_succ', ← List.append_assoc, List.getLast?_concat]
theorem rep_len (b : List Nat) (k : Nat) : (b ++ List.replicate k 61).length = b.length + k := by simp
theorem b64_61 : b64 61 = 0 := by decide +kernel
/-- what may stand behind good signs makes good signs -/
theorem val_step {b : List Nat} {k c : Nat} (h : Val64 b k) (hs : standB c (b ++ List.replicate k 61) = true) : ∃ b' k', b ++ List.replicate k 61 ++ [c] = b' ++ List.replicate k' 61 ∧ Val64 b' k' := by
  obtain ⟨hA, hl, hk⟩ := h
  unfold standB at hs
  rw [rep_len] at hs
  by_cases h60 : b.length + k = 60
  · rw [if_pos h60] at hs; exact nomatch hs
  rw [if_neg h60] at hs
  by_cases h61 : c = 61
  · rw [if_pos h61] at hs
    refine ⟨b, k + 1, by rw [h61, List.append_assoc, List.replicate_succ'], hA, by omega, ?_⟩
    unfold fillB at hs
    rw [rep_len] at hs
    rcases hk with rfl | ⟨h1, h2, h3⟩ | ⟨h1, h2, h3⟩
    · rw [List.replicate_zero, List.append_nil, Nat.add_zero] at hs
      by_cases h2 : b.length % 4 = 2
      · rw [if_pos h2] at hs
        exact .inr (.inl ⟨h2, by decide, of_decide_eq_true hs⟩)
      · rw [if_neg h2] at hs
        by_cases h3 : b.length % 4 = 3
        · rw [if_pos h3] at hs
          exact .inr (.inr ⟨h3, rfl, of_decide_eq_true hs⟩)
        · rw [if_neg h3] at hs; exact nomatch hs
    · refine .inr (.inl ⟨h1, ?_, h3⟩)
      rcases (show k ≤ 1 ∨ k = 2 by omega) with h | h
      · omega
      · rw [h, if_neg (by omega), if_neg (by omega)] at hs; exact nomatch hs
    · rw [h2, if_neg (by omega), if_neg (by omega)] at hs; exact nomatch hs
  · rw [if_neg h61, Bool.and_eq_true] at hs
    have hk0 : k = 0 := by
      rcases Nat.eq_zero_or_pos k with h | h
      · exact h
      · have := hs.2
        rw [rep_last h] at this
        simp at this
    subst hk0
    refine ⟨b ++ [c], 0, by simp, fun x hx => ?_, by rw [List.length_append]; show b.length + 1 + 0 ≤ 60; omega, .inl rfl⟩
    rcases List.mem_append.mp hx with h | h
    · exact hA x h
    · rw [List.mem_singleton.mp h]; exact hs.1
/-- rows' ends, as the law says it -/
theorem end_flag {b : List Nat} {k : Nat} (h : Val64 b k) (l : Bool) : (decide (b ++ List.replicate k 61 = []) || (decide (0 < (b ++ List.replicate k 61).length % 4) || (!l && (decide ((b ++ List.replicate k 61).length < 60) || decide (61 ∈ b ++ List.replicate k 61))))) = !endB (b ++ List.replicate k 61) l := by
  obtain ⟨hA, hl, hk⟩ := h
  have hmem : decide (61 ∈ b ++ List.replicate k 61) = decide ((b ++ List.replicate k 61).getLast? = some 61) := by
    rcases Nat.eq_zero_or_pos k with h | h
    · subst h
      rw [List.replicate_zero, List.append_nil, decide_eq_false (all64_mem hA), decide_eq_false (all64_no61 hA)]
    · rw [rep_last h, decide_eq_true rfl]
      exact decide_eq_true (List.mem_append_right _ (List.mem_replicate.mpr ⟨by omega, rfl⟩))
  rw [hmem]
  have hnil : decide (b ++ List.replicate k 61 = []) = decide ((b ++ List.replicate k 61).length = 0) := decide_eq_decide.mpr List.length_eq_zero_iff.symm
  rw [hnil, rep_len]
  unfold endB
  rw [rep_len]
  generalize decide ((b ++ List.replicate k 61).getLast? = some 61) = e
  generalize hn : b.length + k = n at *
  have hn4 : (n = 0 ∨ 0 < n) := by omega
  cases l
  · by_cases h60 : n = 60
    · subst h60; cases e <;> rfl
    · have h1 : decide (n = 60) = false := decide_eq_false h60
      have h2 : decide (n < 60) = true := decide_eq_true (by omega)
      rw [h1, h2]
      cases e <;> simp
  · rcases hn4 with h | h
    · subst h; rfl
    · have h1 : decide (n = 0) = false := decide_eq_false (by omega)
      have h2 : decide (0 < n) = true := decide_eq_true h
      have h3 : decide (0 < n % 4) = !decide (n % 4 = 0) := by
        rw [Bool.eq_iff_iff]
        simp
        omega
      rw [h1, h2, h3]
      simp
def wrongL (o : Option (Nat × Nat)) : List Nat := match o with | none => [] | some (i, p) => [i, p]
theorem str_nil (z : Str) : decide (V.str z = V.str (Str.ofString "")) = decide (TL.tl z = []) := decide_eq_decide.mpr ⟨fun h => by rw [V.str.inj h]; decide +kernel, fun h => congrArg _ (TL.ext_tl (by rw [h]; decide +kernel))⟩
/-! ### _law_wrong -/
abbrev s__law_wrong : Stmt := topS 45
abbrev N__law_wrong : List Str := ["_law_rows", "_law_number_here", "_law_row", "_law_at", "_law_is_last"]
abbrev P__law_wrong : List Str := ["_law_rows"]
theorem sc__law_wrong : FnScope N__law_wrong ["_law_rows"] (defScope s__law_wrong) := ⟨rfl, rfl, rfl, by decide +kernel, rfl, by decide +kernel, by decide +kernel⟩
def sp_lwrong : Sp := fun vs H Q _ => ∃ (a : Addr) (R : List Str), vs = [.ref a] ∧ H a = some (.lst (R.map V.str)) ∧ R.length ≤ 10000 ∧ (∀ z ∈ R, z.length ≤ 1000) ∧ New H (nb (wrongL (wrongF standB endB 0 R))) Q
theorem ok_lwrong {f fB : Addr} {fd fdB : FuncData} (F : Fun K "_law_wrong" "_law_wrong" s__law_wrong f fd) (T : Tx mg tk) (D__law_begins : Def P w K mg base "_law_begins" 3 fB fdB P__law_begins sp_lbegins) : FnOk P w K mg base CX0 4 f fd P__law_wrong sp_lwrong := by
  refine F.ok sc__law_wrong (fun vs H Q E h => ?_) (fun cdv A outer s H vs Q E hr h => ?_)
  · obtain ⟨a, R, rfl, _⟩ := h
    rfl
  · have nd := sc__law_wrong.nd
    obtain ⟨a, R, rfl, hS, hl, hR, q⟩ := h
    refine ⟨_, (pss_cons (ps_for PassesOwn.never rfl (pi_enum (by rfl) T.n_enumerate (pa_cons (pv 0) pa_nil)) (pg_tup rfl (pgs_cons (pg_name (i := 1) nd rfl (Or.inl rfl)) (pgs_cons (pg_name (i := 2) nd rfl (Or.inl rfl)) pgs_nil)))
        (pss_cons (ps_for PassesOwn.never rfl (pi_range1 (by rfl) T.n_range (pa_cons (pe_callB call_len_str (by rfl) T.n_len (by decide +kernel) (pa_cons (pv 2) pa_nil)) pa_nil)) (pg_name (i := 3) nd rfl (Or.inl rfl))
          (pss_one (ps_if (pt_not (pt_val (pe_def D__law_begins (hr.mono (by decide)) (pa_cons (pe_slice sl_str (pv 2) po_none (po_some (pe_op op_add (pv 3) pe_int))) pa_nil))))
            (pss_one (ps_ret (pe_lst (pa_cons (pe_op op_add (pv 1) pe_int) (pa_cons (pe_op op_add (pv 3) pe_int) pa_nil)))))
            pss_nil)))
        (pss_cons (ps_set (i := 4) nd rfl (.inl rfl) (pe_cmpR op_eq (pv 1) (pe_op op_sub (pe_callB (cLen K) (by rfl) T.n_len (by decide +kernel) (pa_cons (pv 0) pa_nil)) pe_int) (nomark _)))
        (pss_one (ps_if (PW.pt (pw_or (pt_cmpR op_eq (pv 2) pe_str (nomark _)) (pw_or (pt_cmpR op_gt (pe_op op_mod (pe_callB call_len_str (by rfl) T.n_len (by decide +kernel) (pa_cons (pv 2) pa_nil)) pe_int) pe_int (nomark _)) (pw_or1 (PW.pt (pw_and (pt_not (pt_val (pv 4))) (pw_and1 (PW.pt (pw_or (pt_cmpR op_lt (pe_callB call_len_str (by rfl) T.n_len (by decide +kernel) (pa_cons (pv 2) pa_nil)) pe_int (nomark _)) (pw_or1 (pt_cmpR op_in_sign pe_str (pv 2) rfl)))))))))))
          (pss_one (ps_ret (pe_lst (pa_cons (pe_op op_add (pv 1) pe_int) (pa_cons (pe_op op_add (pe_callB call_len_str (by rfl) T.n_len (by decide +kernel) (pa_cons (pv 2) pa_nil)) pe_int) pa_nil)))))
          pss_nil)))))
      (pss_one (ps_ret (pe_lst pa_nil)))), ?_⟩
    have hm : (R.map V.str).length = R.length := List.length_map ..
    have n2 : 2 ≤ sizeLine := Nat.le_of_lt (small1000 (show 2 ≤ 1000 by decide))
    refine ⟨.ref a, rfl, a, _, rfl, .inl (.inl hS), for_it walk_enum (fun i σ H' => ∃ y1 y2 y3 y4, σ = [some (.ref a), y1, y2, y3, y4] ∧ Same H H' ∧ wrongF standB endB 0 R = wrongF standB endB i (R.drop i)) ⟨none, none, none, none, rfl, Same.refl _, rfl⟩
      (fun i σ H' _ h => by obtain ⟨_, _, _, _, rfl, sm, _⟩ := h; exact .inl (.inl (sm _ _ hS))) (fun i x σ H1 H2 hi hP hy => ?_) (fun σ H1 hP => ?_)⟩
    · obtain ⟨y1, y2, y3, y4, rfl, sm, e⟩ := hP
      obtain ⟨U, x1, x2, rfl, nU, rfl, f1, f2⟩ := hy
      rw [hm] at hi
      have f2 : (R.map V.str)[i]? = some x2 := f2
      rw [List.getElem?_map, List.getElem?_eq_getElem hi] at f2
      obtain rfl := Option.some.inj f1
      obtain rfl := Option.some.inj f2
      have hz := hR R[i] (List.getElem_mem hi)
      have hlast : decide (R.drop (i + 1) = []) = decide (i = R.length - 1) := by
        refine decide_eq_decide.mpr ?_
        rw [List.drop_eq_nil_iff]
        omega
      rw [drop_cons hi, wrongF, hlast] at e
      generalize R[i] = z at *
      have sU := same_upd (o := .tup [.int (i : Nat), .str z]) nU
      have hzl : z.length = (TL.tl z).length := TL.len_tl z
      have hzs : z.length ≤ sizeLine := by rw [sizeLine_eq]; omega
      refine ⟨U, _, rfl, .inl (.inl upd_same), rfl, _, _, rfl, _, _, rfl, rfl, ?_⟩
      refine ⟨.str z, rfl, z, rfl, hzs, z.length, rfl, by omega, by omega, for_it walk_range (fun j σ H' => ∃ y3 : Option V, σ = [some (.ref a), some (.int (i : Nat)), some (.str z), y3, y4] ∧ Same H H' ∧ goodF standB [] (TL.tl z) = j + goodF standB ((TL.tl z).take j) ((TL.tl z).drop j) ∧ ∃ b k, (TL.tl z).take j = b ++ List.replicate k 61 ∧ Val64 b k)
        ⟨y3, rfl, sm.trans sU, by simp, [], 0, rfl, (fun _ h => nomatch h), by decide, .inl rfl⟩ (fun _ _ _ _ _ => trivial) (fun j x σ H3 H4 hj hP hy => ?_) (fun σ H3 hP => ?_)⟩
      · obtain ⟨y3, rfl, sA, eg, b, k, ebk, hV⟩ := hP
        obtain ⟨rfl, rfl⟩ := hy
        have hj : j < (TL.tl z).length := by omega
        have hd : (TL.tl z).drop j = (TL.tl z)[j] :: (TL.tl z).drop (j + 1) := List.drop_eq_getElem_cons hj
        have htk : (TL.tl z).take (j + 1) = (TL.tl z).take j ++ [(TL.tl z)[j]] := by
          rw [List.take_add_one, List.getElem?_eq_getElem hj]
          rfl
        rw [hd, goodF] at eg
        rw [ebk] at htk eg
        dsimp only [gName]
        rw [show (0 : Int) + (j : Int) = (j : Int) by omega]
        generalize (TL.tl z)[j] = c at *
        have hcut : TL.tl (cutS z none (some (j + 1 : Int))) = b ++ List.replicate k 61 ++ [c] := by
          rw [show ((j : Nat) : Int) + 1 = ((j + 1 : Nat) : Int) by omega, cutS_to]
          exact htk
        refine ifT (!standB c (b ++ List.replicate k 61)) (fun k' q1 => notT _ (fun k' q2 => ⟨.str z, rfl, _, rfl, _, 1, rfl, rfl, _, rfl, z, rfl, hzs, _, b, k, c, rfl, hcut, hV, fun H5 s5 => ⟨_, rfl, q2 _ s5⟩⟩) q1) (fun hc H5 s5 => ?_) (fun hc H5 s5 => ?_)
        · have hg : ¬ standB c (b ++ List.replicate k 61) = true := by simpa using hc
          rw [if_neg hg, Nat.add_zero] at eg
          refine ⟨_, rfl, _, 1, rfl, rfl, _, rfl, _, 1, rfl, rfl, n2, fun g ng => ?_⟩
          refine q _ g ((sA.trans s5).trans (same_upd ng)) ((sA.trans s5).free ng) ?_
          rw [e, eg, if_pos (Or.inl hj), upd_same]
          rfl
        · have hg : standB c (b ++ List.replicate k 61) = true := by simpa using hc
          rw [if_pos hg] at eg
          obtain ⟨b', k', e', hV'⟩ := val_step hV hg
          refine ⟨_, rfl, sA.trans s5, ?_, b', k', by rw [htk, e'], hV'⟩
          rw [htk, eg]
          omega
      · obtain ⟨y3, rfl, sA, eg, b, k, ebk, hV⟩ := hP
        rw [hzl, Int.toNat_natCast, List.drop_of_length_le (Nat.le_refl _)] at eg
        rw [hzl, Int.toNat_natCast, List.take_of_length_le (Nat.le_refl _)] at ebk
        have eg : goodF standB [] (TL.tl z) = (TL.tl z).length := by rw [eg]; rfl
        rw [eg] at e
        have hE := end_flag hV (decide (i = R.length - 1))
        rw [← ebk] at hE
        refine ⟨_, rfl, .ref a, rfl, a, _, rfl, .inl (.inl (.inl (sA _ _ hS))), _, 1, rfl, rfl, rfl, ?_⟩
        have eb : decide (V.int ((i : Nat) : Int) = V.int (((R.map V.str).length : Nat) - 1)) = decide (i = R.length - 1) := by
          rw [vint_dec, hm]
          exact decide_eq_decide.mpr (by omega)
        rw [eb]
        generalize decide (i = R.length - 1) = lst at *
        dsimp only [gName]
        refine ifT (!endB (TL.tl z) lst) (fun k' q1 => orT _ _ (fun k' q2 => ⟨_, rfl, rfl, _, rfl, TellB.eq (str_nil z) q2 _ (Same.refl _)⟩)
          (fun _ H5 k' s5 q2 => orT _ _ (fun k' q3 => ⟨.str z, rfl, z, rfl, hzs, _, 4, rfl, rfl, (show (0 : Int) < 4 by decide), _, 0, rfl, rfl, _, rfl, TellB.eq (decide_eq_decide.mpr (by omega)) q3 _ (Same.refl _)⟩)
            (fun _ H6 k' s6 q3 => andT _ _ (fun k' q4 => notT _ (fun k' q5 => ⟨_, rfl, lst, rfl, q5 _ (Same.refl _)⟩) q4)
              (fun _ H7 k' s7 q4 => orT _ _ (fun k' q5 => ⟨.str z, rfl, z, rfl, hzs, _, 60, rfl, rfl, _, rfl, TellB.eq (decide_eq_decide.mpr (by omega)) q5 _ (Same.refl _)⟩)
                (fun _ H8 k' s8 q5 => ⟨_, rfl, 61, z, by rw [eqS], rfl, _, rfl, q5 _ (Same.refl _)⟩) q4) q3) q2) (TellB.eq hE q1)) (fun hc H5 s5 => ?_) (fun hc H5 s5 => ?_)
        · have hc : endB (TL.tl z) lst = false := by simpa using hc
          refine ⟨_, rfl, _, 1, rfl, rfl, .str z, rfl, z, rfl, hzs, _, 1, rfl, rfl, n2, fun g ng => ?_⟩
          refine q _ g ((sA.trans s5).trans (same_upd ng)) ((sA.trans s5).free ng) ?_
          rw [e, if_pos (Or.inr hc), upd_same, hzl]
          rfl
        · have hc : endB (TL.tl z) lst = true := by simpa using hc
          rw [if_neg (by rw [hc]; simp)] at e
          exact ⟨_, _, _, _, rfl, sA.trans s5, e⟩
    · obtain ⟨y1, y2, y3, y4, rfl, sm, e⟩ := hP
      rw [hm, List.drop_of_length_le (Nat.le_refl _)] at e
      refine ⟨Nat.zero_le _, fun g ng => ?_⟩
      refine q _ g (sm.trans (same_upd ng)) (sm.free ng) ?_
      rw [e, upd_same]
      rfl
end
end K06

namespace K06
open PySem PySem.Spec PyProof.Rows L2 LH
section
variable {P : Program} {w : World} {K : PySem.W.Frag} {mg : Str → Option Value} {base : Heap} {tk : Nat → Tok} {ca : Nat → Addr}
/-! ### the law's reading: bits of the signs, eight by eight -/
def eights (l : List Nat) : List Nat := (List.range (l.length / 8)).map fun i => numB ((l.drop (8 * i)).take 8)
theorem eights_cons (x y : List Nat) (h : x.length = 8) : eights (x ++ y) = numB x :: eights y := by
  unfold eights
  rw [List.length_append, h, show (8 + y.length) / 8 = y.length / 8 + 1 by omega, List.range_succ_eq_map, List.map_cons, List.map_map]
  congr 1
  · rw [Nat.mul_zero, List.drop_zero, List.take_left' h]
  · refine List.map_congr_left fun i _ => ?_
    show numB (((x ++ y).drop (8 * (i + 1))).take 8) = _
    rw [show 8 * (i + 1) = x.length + 8 * i by omega, ← List.drop_drop, List.drop_left]
theorem eights_small {l : List Nat} (h : l.length < 8) : eights l = [] := by
  unfold eights
  rw [Nat.div_eq_of_lt h]
  rfl
def bits6 (b : List Nat) : List Nat := (b.map fun c => bitsN (b64 c) 6).flatten
theorem six (n : Nat) : bitsN n 6 = [n / 32 % 2, n / 16 % 2, n / 8 % 2, n / 4 % 2, n / 2 % 2, n / 1 % 2] := rfl
theorem bits6_len (b : List Nat) : (bits6 b).length = 6 * b.length := by
  unfold bits6
  induction b with
  | nil => rfl
  | cons c r ih => rw [List.map_cons, List.flatten_cons, List.length_append, ih, bitsN_len, List.length_cons]; omega
theorem eights_two (c0 c1 : Nat) : eights (bits6 [c0, c1]) = [val64 [c0, c1, 61, 61] / 65536] := by
  have h0 := b64_lt c0
  have h1 := b64_lt c1
  unfold bits6 val64
  simp only [List.map_cons, List.map_nil, List.flatten_cons, List.flatten_nil, six, List.foldl_cons, List.foldl_nil, b64_61, List.cons_append, List.nil_append]
  generalize b64 c0 = a at *
  generalize b64 c1 = b at *
  rw [show ([a / 32 % 2, a / 16 % 2, a / 8 % 2, a / 4 % 2, a / 2 % 2, a / 1 % 2, b / 32 % 2, b / 16 % 2, b / 8 % 2, b / 4 % 2, b / 2 % 2, b / 1 % 2] : List Nat) = [a / 32 % 2, a / 16 % 2, a / 8 % 2, a / 4 % 2, a / 2 % 2, a / 1 % 2, b / 32 % 2, b / 16 % 2] ++ [b / 8 % 2, b / 4 % 2, b / 2 % 2, b / 1 % 2] from rfl, eights_cons _ _ rfl, eights_small (by show 4 < 8; decide)]
  unfold numB
  simp only [List.foldl_cons, List.foldl_nil]
  congr 1
  omega
theorem eights_three (c0 c1 c2 : Nat) : eights (bits6 [c0, c1, c2]) = [val64 [c0, c1, c2, 61] / 65536, val64 [c0, c1, c2, 61] / 256 % 256] := by
  have h0 := b64_lt c0
  have h1 := b64_lt c1
  have h2 := b64_lt c2
  unfold bits6 val64
  simp only [List.map_cons, List.map_nil, List.flatten_cons, List.flatten_nil, six, List.foldl_cons, List.foldl_nil, b64_61, List.cons_append, List.nil_append]
  generalize b64 c0 = a at *
  generalize b64 c1 = b at *
  generalize b64 c2 = c at *
  rw [show ([a / 32 % 2, a / 16 % 2, a / 8 % 2, a / 4 % 2, a / 2 % 2, a / 1 % 2, b / 32 % 2, b / 16 % 2, b / 8 % 2, b / 4 % 2, b / 2 % 2, b / 1 % 2, c / 32 % 2, c / 16 % 2, c / 8 % 2, c / 4 % 2, c / 2 % 2, c / 1 % 2] : List Nat) = [a / 32 % 2, a / 16 % 2, a / 8 % 2, a / 4 % 2, a / 2 % 2, a / 1 % 2, b / 32 % 2, b / 16 % 2] ++ ([b / 8 % 2, b / 4 % 2, b / 2 % 2, b / 1 % 2, c / 32 % 2, c / 16 % 2, c / 8 % 2, c / 4 % 2] ++ [c / 2 % 2, c / 1 % 2]) from rfl, eights_cons _ _ rfl, eights_cons _ _ rfl, eights_small (by show 2 < 8; decide)]
  unfold numB
  simp only [List.foldl_cons, List.foldl_nil]
  congr 1
  · omega
  · congr 1
    omega
theorem eights_four (c0 c1 c2 c3 : Nat) (r : List Nat) : eights (bits6 (c0 :: c1 :: c2 :: c3 :: r)) = val64 [c0, c1, c2, c3] / 65536 :: val64 [c0, c1, c2, c3] / 256 % 256 :: val64 [c0, c1, c2, c3] % 256 :: eights (bits6 r) := by
  have h0 := b64_lt c0
  have h1 := b64_lt c1
  have h2 := b64_lt c2
  have h3 := b64_lt c3
  have e : bits6 (c0 :: c1 :: c2 :: c3 :: r) = bitsN (b64 c0) 6 ++ (bitsN (b64 c1) 6 ++ (bitsN (b64 c2) 6 ++ (bitsN (b64 c3) 6 ++ bits6 r))) := rfl
  rw [e]
  unfold val64
  simp only [six, List.foldl_cons, List.foldl_nil]
  generalize bits6 r = y
  generalize b64 c0 = a at *
  generalize b64 c1 = b at *
  generalize b64 c2 = c at *
  generalize b64 c3 = d at *
  rw [show ([a / 32 % 2, a / 16 % 2, a / 8 % 2, a / 4 % 2, a / 2 % 2, a / 1 % 2] ++ ([b / 32 % 2, b / 16 % 2, b / 8 % 2, b / 4 % 2, b / 2 % 2, b / 1 % 2] ++ ([c / 32 % 2, c / 16 % 2, c / 8 % 2, c / 4 % 2, c / 2 % 2, c / 1 % 2] ++ ([d / 32 % 2, d / 16 % 2, d / 8 % 2, d / 4 % 2, d / 2 % 2, d / 1 % 2] ++ y))) : List Nat) = [a / 32 % 2, a / 16 % 2, a / 8 % 2, a / 4 % 2, a / 2 % 2, a / 1 % 2, b / 32 % 2, b / 16 % 2] ++ ([b / 8 % 2, b / 4 % 2, b / 2 % 2, b / 1 % 2, c / 32 % 2, c / 16 % 2, c / 8 % 2, c / 4 % 2] ++ ([c / 2 % 2, c / 1 % 2, d / 32 % 2, d / 16 % 2, d / 8 % 2, d / 4 % 2, d / 2 % 2, d / 1 % 2] ++ y)) from rfl, eights_cons _ _ rfl, eights_cons _ _ rfl, eights_cons _ _ rfl]
  unfold numB
  simp only [List.foldl_cons, List.foldl_nil]
  congr 1
  · omega
  · congr 1
    · omega
    · congr 1
      omega
end
end K06

namespace K06
open PySem PySem.Spec PyProof.Rows L2 LH
section
variable {P : Program} {w : World} {K : PySem.W.Frag} {mg : Str → Option Value} {base : Heap} {tk : Nat → Tok} {ca : Nat → Addr}
/-- the shape of whole rows: signs, then what fills them up -/
def Shape64 (b : List Nat) (k : Nat) : Prop := (k = 0 ∧ b.length % 4 = 0) ∨ (k = 1 ∧ b.length % 4 = 3) ∨ (k = 2 ∧ b.length % 4 = 2)
theorem fours : ∀ (b : List Nat) (k : Nat), All64 b → Shape64 b k → ((chunks 4 (b ++ List.replicate k 61)).map fourV).flatten = nb (eights (bits6 b))
  | [], k, hA, h => by
    have : k = 0 := by
      unfold Shape64 at h
      rw [List.length_nil] at h
      omega
    subst this
    rfl
  | [c], k, hA, h => by
    unfold Shape64 at h
    rw [show ([c] : List Nat).length = 1 from rfl] at h
    omega
  | [c0, c1], k, hA, h => by
    have : k = 2 := by
      unfold Shape64 at h
      rw [show ([c0, c1] : List Nat).length = 2 from rfl] at h
      omega
    subst this
    have hc : ([c0, c1, 61, 61] : List Nat).count 61 = 2 := by
      have h0 := (in64_no (hA c0 (by simp))).2
      have h1 := (in64_no (hA c1 (by simp))).2
      simp [List.count_cons, h0, h1]
    show ((chunks 4 [c0, c1, 61, 61]).map fourV).flatten = _
    rw [chunks_cons (by decide) (by simp), show ([c0, c1, 61, 61] : List Nat).drop 4 = [] from rfl, show ([c0, c1, 61, 61] : List Nat).take 4 = [c0, c1, 61, 61] from rfl, chunks_nil (by decide), eights_two]
    unfold fourV
    rw [List.map_cons, hc]
    rw [show (3 : Int) - ((2 : Nat) : Int) = ((1 : Nat) : Int) by decide, cutV_to]
    rfl
  | [c0, c1, c2], k, hA, h => by
    have : k = 1 := by
      unfold Shape64 at h
      rw [show ([c0, c1, c2] : List Nat).length = 3 from rfl] at h
      omega
    subst this
    have hc : ([c0, c1, c2, 61] : List Nat).count 61 = 1 := by
      have h0 := (in64_no (hA c0 (by simp))).2
      have h1 := (in64_no (hA c1 (by simp))).2
      have h2 := (in64_no (hA c2 (by simp))).2
      simp [List.count_cons, h0, h1, h2]
    show ((chunks 4 [c0, c1, c2, 61]).map fourV).flatten = _
    rw [chunks_cons (by decide) (by simp), show ([c0, c1, c2, 61] : List Nat).drop 4 = [] from rfl, show ([c0, c1, c2, 61] : List Nat).take 4 = [c0, c1, c2, 61] from rfl, chunks_nil (by decide), eights_three]
    unfold fourV
    rw [List.map_cons, hc]
    rw [show (3 : Int) - ((1 : Nat) : Int) = ((2 : Nat) : Int) by decide, cutV_to]
    rfl
  | c0 :: c1 :: c2 :: c3 :: r, k, hA, h => by
    have hr := fours r k (fun x hx => hA x (by simp [hx])) (by
      unfold Shape64 at *
      simp only [List.length_cons] at h
      omega)
    have hc : ([c0, c1, c2, c3] : List Nat).count 61 = 0 := by
      have h0 := (in64_no (hA c0 (by simp))).2
      have h1 := (in64_no (hA c1 (by simp))).2
      have h2 := (in64_no (hA c2 (by simp))).2
      have h3 := (in64_no (hA c3 (by simp))).2
      simp [List.count_cons, h0, h1, h2, h3]
    show ((chunks 4 (c0 :: c1 :: c2 :: c3 :: (r ++ List.replicate k 61))).map fourV).flatten = _
    rw [chunks_cons (by decide) (by simp), show (c0 :: c1 :: c2 :: c3 :: (r ++ List.replicate k 61)).drop 4 = r ++ List.replicate k 61 from rfl, show (c0 :: c1 :: c2 :: c3 :: (r ++ List.replicate k 61)).take 4 = [c0, c1, c2, c3] from rfl, List.map_cons, List.flatten_cons, hr, eights_four]
    unfold fourV
    rw [hc]
    rw [show (3 : Int) - ((0 : Nat) : Int) = ((3 : Nat) : Int) by decide, cutV_to]
    rfl
/-- good signs make such a row -/
theorem goodF_val : ∀ (r b : List Nat) (k : Nat), Val64 b k → goodF standB (b ++ List.replicate k 61) r = r.length → ∃ b' k', b ++ List.replicate k 61 ++ r = b' ++ List.replicate k' 61 ∧ Val64 b' k'
  | [], b, k, h, _ => ⟨b, k, by simp, h⟩
  | c :: r, b, k, h, hg => by
    rw [goodF] at hg
    have hs : standB c (b ++ List.replicate k 61) = true := by
      by_cases hh : standB c (b ++ List.replicate k 61) = true
      · exact hh
      · rw [if_neg hh, List.length_cons] at hg; omega
    rw [if_pos hs, List.length_cons] at hg
    obtain ⟨b1, k1, e1, h1⟩ := val_step h hs
    rw [e1] at hg
    obtain ⟨b2, k2, e2, h2⟩ := goodF_val r b1 k1 h1 (by omega)
    refine ⟨b2, k2, ?_, h2⟩
    rw [← e2, ← e1]
    simp
theorem rows_shape : ∀ (R : List Str) (n : Nat), wrongF standB endB n R = none → ∃ b k, textR R = b ++ List.replicate k 61 ∧ All64 b ∧ b.length + k ≤ 60 * R.length ∧ Shape64 b k
  | [], n, h => ⟨[], 0, rfl, (fun _ h => nomatch h), by simp, .inl ⟨rfl, rfl⟩⟩
  | r :: R, n, h => by
    rw [wrongF] at h
    split at h
    · exact nomatch h
    rename_i hg
    have hg1 := goodF_le standB (TL.tl r) []
    have hg2 : goodF standB [] (TL.tl r) = (TL.tl r).length := by
      rcases Nat.lt_or_ge (goodF standB [] (TL.tl r)) (TL.tl r).length with h | h
      · exact absurd (Or.inl h) hg
      · omega
    have he : endB (TL.tl r) (decide (R = [])) = true := by
      cases hh : endB (TL.tl r) (decide (R = []))
      · exact absurd (Or.inr hh) hg
      · rfl
    obtain ⟨b, k, e, hV⟩ := goodF_val (TL.tl r) [] 0 ⟨(fun _ h => nomatch h), by decide, .inl rfl⟩ hg2
    have e : TL.tl r = b ++ List.replicate k 61 := e
    have eT : textR (r :: R) = TL.tl r ++ textR R := rfl
    obtain ⟨hA, hl, hk⟩ := hV
    unfold endB at he
    rw [e, rep_len] at he
    cases R with
    | nil =>
      rw [decide_eq_true rfl, if_pos rfl, Bool.and_eq_true, decide_eq_true_eq, decide_eq_true_eq] at he
      refine ⟨b, k, by rw [eT, e]; exact List.append_nil _, hA, by simp; omega, ?_⟩
      unfold Shape64
      omega
    | cons r2 R2 =>
      rw [decide_eq_false (by simp), if_neg (by simp), Bool.and_eq_true, decide_eq_true_eq] at he
      have hk0 : k = 0 := by
        rcases Nat.eq_zero_or_pos k with h | h
        · exact h
        · have := he.2
          rw [rep_last h] at this
          simp at this
      subst hk0
      obtain ⟨b2, k2, e2, hA2, hl2, hs2⟩ := rows_shape (r2 :: R2) (n + 1) h
      refine ⟨b ++ b2, k2, by rw [eT, e, e2]; simp, fun x hx => (List.mem_append.mp hx).elim (hA x) (hA2 x), ?_, ?_⟩
      · rw [List.length_append, List.length_cons]
        omega
      · have := he.1
        unfold Shape64 at *
        rw [List.length_append]
        omega
theorem bytes_read {R : List Str} (h : wrongF standB endB 0 R = none) {b : List Nat} {k : Nat} (e : textR R = b ++ List.replicate k 61) (hA : All64 b) (hs : Shape64 b k) : bytes64 R = nb (eights (bits6 b)) := by
  unfold bytes64
  rw [e]
  exact fours b k hA hs
theorem rg8 (n : Nat) (h : n < 2 ^ 30) : RgC 0 ((n : Int) - 7) 8 (n / 8) := by
  rcases Nat.lt_or_ge n 7 with h7 | h7
  · have : n = 0 ∨ n = 1 ∨ n = 2 ∨ n = 3 ∨ n = 4 ∨ n = 5 ∨ n = 6 := by omega
    rcases this with rfl | rfl | rfl | rfl | rfl | rfl | rfl <;> exact ⟨by decide, by decide, by decide +kernel, by decide +kernel⟩
  · have := rgC (n - 7) 8 (by decide) (by decide) (by omega)
    rw [show ((n - 7 : Nat) : Int) = (n : Int) - 7 by omega, show (n - 7 + (8 - 1)) / 8 = n / 8 by omega] at this
    exact this
theorem nb_cut (l : List Nat) (i : Nat) : cutV (nb l) (some (0 + ((i : Nat) : Int) * 8)) (some (0 + ((i : Nat) : Int) * 8 + 8)) = nb ((l.drop (8 * i)).take 8) := by
  rw [show (0 : Int) + ((i : Nat) : Int) * 8 = ((8 * i : Nat) : Int) by omega, show ((8 * i : Nat) : Int) + 8 = ((8 * i + 8 : Nat) : Int) by omega, cutV_at, Nat.add_sub_cancel_left]
  unfold nb
  rw [List.map_take, List.map_drop]
/-! ### _law_read -/
abbrev s__law_read : Stmt := topS 46
abbrev N__law_read : List Str := ["_law_rows", "_law_body", "_law_bits_here", "_law_sign", "_law_at"]
abbrev P__law_read : List Str := ["_law_rows"]
theorem sc__law_read : FnScope N__law_read ["_law_rows"] (defScope s__law_read) := ⟨rfl, rfl, rfl, by decide +kernel, rfl, by decide +kernel, by decide +kernel⟩
def sp_lread : Sp := fun vs H Q _ => ∃ (a : Addr) (R : List Str) (b : List Nat) (k : Nat), vs = [.ref a] ∧ H a = some (.lst (R.map V.str)) ∧ R.length ≤ 10000 ∧ textR R = b ++ List.replicate k 61 ∧ All64 b ∧ b.length + k ≤ 60 * R.length ∧ New H (nb (eights (bits6 b))) Q
theorem ok_lread {f fS fB fN : Addr} {fd fdS fdB fdN : FuncData} (F : Fun K "_law_read" "_law_read" s__law_read f fd) (T : Tx mg tk) (D__law_sixty : Def P w K mg base "_law_sixty" 1 fS fdS P__law_sixty sp_lsixty) (D__law_bits : Def P w K mg base "_law_bits" 1 fB fdB P__law_bits sp_lbits) (D__law_number : Def P w K mg base "_law_number" 1 fN fdN P__law_number sp_lnumber) : FnOk P w K mg base CX0 2 f fd P__law_read sp_lread := by
  refine F.ok sc__law_read (fun vs H Q E h => ?_) (fun cdv A outer s H vs Q E hr h => ?_)
  · obtain ⟨a, R, b, k, rfl, _⟩ := h
    rfl
  · have nd := sc__law_read.nd
    obtain ⟨a, R, b, k, rfl, ha, hl, hR, hA, hbl, q⟩ := h
    refine ⟨_, (pss_cons (ps_set (i := 1) nd rfl (.inl rfl) (pe_m1 PySem.F.slot_str_rstrip PySem.F.type_str_rstrip mt_rstripChars (pe_join pe_str (pv 0)) pe_str))
      (pss_cons (ps_set (i := 2) nd rfl (.inr rfl) (pe_lst pa_nil))
      (pss_cons (ps_for PassesOwn.never rfl (pi_str (pv 1)) (pg_name (i := 3) nd rfl (Or.inl rfl))
        (pss_one (ps_expr (pe_bm PySem.F.plainAttrs_list PySem.F.slot_list_extend PySem.F.type_list_extend mt_extend (pv 2) (pa_cons (pe_def D__law_bits (hr.mono (by decide)) (pa_cons (pe_m1 PySem.F.slot_str_index PySem.F.type_str_index mt_sindex (pe_def0 D__law_sixty (hr.mono (by decide))) (pv 3)) (pa_cons pe_int pa_nil))) pa_nil)))))
      (pss_one (ps_ret (pe_lc (own := [("_law_at", 4)]) (g := gName 4) (by rfl) nd (pi_range3 (by rfl) T.n_range (pa_cons pe_int (pa_cons (pe_op op_sub (pe_callB (cLen K) (by rfl) T.n_len (by decide +kernel) (pa_cons (pv 2) pa_nil)) pe_int) (pa_cons pe_int pa_nil)))) (blkOk_by (N := N__law_read) (sc := defScope s__law_read) (by decide +kernel)) (fun _ _ _ _ _ => (pg_name (i := 4) nd rfl (Or.inl rfl))) (fun _ _ _ _ _ => pts_nil) (fun _ _ _ _ _ => (pe_def D__law_number (hr.mono (by decide)) (pa_cons (pe_slice (slL K) (pv 2) (po_some (pv 4)) (po_some (pe_op op_add (pv 4) pe_int))) pa_nil))))))))), ?_⟩
    have hsum : (R.map (·.length)).sum = (textR R).length := sum_len R
    have htl : (textR R).length = b.length + k := by rw [hR, rep_len]
    refine ⟨⟨_, rfl⟩, .ref a, rfl, Str.ofString "", a, R, rfl, rfl, .inl (.inl (.inl ha)), by rw [hsum, show (Str.ofString "").length = 0 by decide +kernel]; omega, ?_⟩
    have ej : TL.tl (Txt.join (Str.ofString "") R) = textR R := tl_join0 R
    generalize Txt.join (Str.ofString "") R = z at *
    have hzl : z.length = (textR R).length := by rw [TL.len_tl, ej]
    have hzs : z.length ≤ sizeLine := by rw [sizeLine_eq]; omega
    refine ⟨⟨_, rfl⟩, z, Str.ofString "=", rfl, rfl, hzs, ?_⟩
    have hB : TL.tl (Txt.rstripChars z (Str.ofString "=")) = b := rstrip_app z _ 61 b k eqS_tl (by rw [ej, hR]) (all64_no61 hA)
    generalize Txt.rstripChars z (Str.ofString "=") = B at *
    dsimp only [gName]
    refine ⟨Nat.zero_le _, fun o no => ?_⟩
    dsimp only [gName]
    have s0 := same_upd (o := .lst []) no
    have h6 := bits6_len b
    refine ⟨.str B, rfl, B, rfl, for_it walk_strF (fun i σ H' => ∃ y3 : Option V, σ = [some (.ref a), some (.str B), some (.ref o), y3, none] ∧ Same H H' ∧ H' o = some (.lst (nb (bits6 (b.take i))))) ⟨none, rfl, s0, upd_same⟩ (fun _ _ _ _ _ => trivial) (fun i x σ H1 H2 hi hP hy => ?_) (fun σ H1 hP => ?_)⟩
    · obtain ⟨y3, rfl, sm, eo⟩ := hP
      obtain ⟨rfl, rfl⟩ := hy
      rw [hB] at hi ⊢
      dsimp only [gName]
      have hc : in64 b[i] = true := hA _ (List.getElem_mem hi)
      have htk : bits6 (b.take (i + 1)) = bits6 (b.take i) ++ bitsN (b64 b[i]) 6 := by
        unfold bits6
        rw [List.take_add_one, List.getElem?_eq_getElem hi, Option.toList_some, List.map_append, List.flatten_append]
        simp
      have hl6 := bits6_len (b.take i)
      rw [List.length_take] at hl6
      rw [List.getD_eq_getElem?_getD, List.getElem?_eq_getElem hi, Option.getD_some]
      generalize b[i] = c at *
      obtain ⟨rest, hocc⟩ := (find64 hc).2
      have hb : b64 c = ix64 c := if_pos hc
      rw [← hb] at hocc
      refine ⟨.ref o, rfl, .inl ⟨rfl, _, .inl (.inl eo)⟩, rfl, ⟨S64, rfl⟩, .str ⟨#[c]⟩, rfl, S64, ⟨#[c]⟩, b64 c, rest, rfl, rfl, hocc, b64 c, 6, rfl, by decide, fun H5 p5 s5 n5 e5 => ⟨o, p5, _, _, rfl, rfl, s5 _ _ eo, e5, ?_, ?_⟩⟩
      · unfold nb
        rw [List.length_map, List.length_map, hl6, bitsN_len, sizeLine_eq]
        omega
      · refine ⟨_, rfl, fun d x e => ?_, ?_⟩
        · rw [upd_ne (ne_of_none e no)]
          exact s5 _ _ (sm _ _ e)
        · rw [upd_same, htk]
          unfold nb
          rw [List.map_append]
    · obtain ⟨y3, rfl, sm, eo⟩ := hP
      rw [hB, List.take_length] at eo
      have hnb : (nb (bits6 b)).length = (bits6 b).length := by unfold nb; rw [List.length_map]
      refine ⟨.ref o, rfl, o, _, rfl, .inl (.inl (.inl eo)), _, 7, rfl, rfl, 0, _, 8, (bits6 b).length / 8, rfl, by rw [hnb]; exact rg8 _ (by omega), fun D hD => lc_pure (fun i => .int (0 + ((i : Nat) : Int) * 8)) (fun i => .int (numB (((bits6 b).drop (8 * i)).take 8) : Nat)) walk_rangeC (fun _ _ => trivial) hD (by rw [sizeLine_eq]; omega) (fun i H3 Q3 hi s3 q3 => ?_) (fun H3 s3 e => ?_)⟩
      · refine ⟨.ref o, rfl, .int (0 + ((i : Nat) : Int) * 8), rfl, _, rfl, .int (0 + ((i : Nat) : Int) * 8), rfl, _, 8, rfl, rfl, _, rfl, o, _, rfl, .inl (.inl (s3 _ _ eo)), fun g ng => ⟨g, _, rfl, by rw [upd_same, nb_cut], fun H4 s4 => q3 _ ((same_upd ng).trans s4)⟩⟩
      · refine q H3 D (sm.trans s3) (sm.free hD) ?_
        rw [e]
        unfold eights nb
        rw [List.map_map]
        rfl
end
end K06

namespace K06
open PySem PySem.Spec PyProof.Rows L2 LH
section
variable {P : Program} {w : World} {K : PySem.W.Frag} {mg : Str → Option Value} {base : Heap} {tk : Nat → Tok} {ca : Nat → Addr}
/-! ### the law's bytes -/
def Bytes (bs : List Int) : Prop := ∀ b ∈ bs, 0 ≤ b ∧ b < 256
theorem bytes_nat {bs : List Int} (h : Bytes bs) : bs.map V.int = nb (bs.map Int.toNat) := by
  unfold nb
  rw [List.map_map]
  refine List.map_congr_left fun x hx => ?_
  show V.int x = V.int ((x.toNat : Nat) : Int)
  rw [Int.toNat_of_nonneg (h x hx).1]
/-! ### _law_bytes -/
abbrev s__law_bytes : Stmt := topS 38
abbrev N__law_bytes : List Str := ["_law_script", "_law_found", "_law_k", "_law_cell", "_law_number_here", "_law_j", "_law_more"]
abbrev P__law_bytes : List Str := ["_law_script"]
theorem sc__law_bytes : FnScope N__law_bytes ["_law_script"] (defScope s__law_bytes) := ⟨rfl, rfl, rfl, by decide +kernel, rfl, by decide +kernel, by decide +kernel⟩
def sp_lbytes (K : PySem.W.Frag) : Sp := fun vs H Q _ => ∃ (a : Addr) (ns : List Int), vs = [.ref a] ∧ SqL K H a (ns.map V.int) ∧ ns.length ≤ 63 ∧ ∀ l : List Nat, (∀ x ∈ l, x < 256) → l.length ≤ 252 → ns.length ≤ l.length → New H (nb l) Q
theorem pick_at (x : Int) : ∀ m : Int, 0 ≤ m → m < 4 → ∃ b : Int, atI [V.int (x / 4 % 256), .int 255, .int 0, .int (x / 4 % 256)] m = some (.int b) ∧ 0 ≤ b ∧ b < 256 := by
  intro m h0 h1
  have h3 : 0 ≤ x / 4 % 256 ∧ x / 4 % 256 < 256 := ⟨Int.emod_nonneg _ (by decide), Int.emod_lt_of_pos _ (by decide)⟩
  have : m = 0 ∨ m = 1 ∨ m = 2 ∨ m = 3 := by omega
  rcases this with rfl | rfl | rfl | rfl
  · exact ⟨_, rfl, h3⟩
  · exact ⟨255, rfl, by decide⟩
  · exact ⟨0, rfl, by decide⟩
  · exact ⟨_, rfl, h3⟩
theorem ok_lbytes {f fM fN : Addr} {fd fdM fdN : FuncData} (F : Fun K "_law_bytes" "_law_bytes" s__law_bytes f fd) (T : Tx mg tk) (D__law_mixed : Def P w K mg base "_law_mixed" 1 fM fdM P__law_mixed sp_mixed) (D__law_next : Def P w K mg base "_law_next" 1 fN fdN P__law_next sp_next) :
    FnOk P w K mg base CX0 2 f fd P__law_bytes (sp_lbytes K) := by
  refine F.ok sc__law_bytes (fun vs H Q E h => ?_) (fun cdv A outer s H vs Q E hr h => ?_)
  · obtain ⟨a, ns, rfl, _⟩ := h
    rfl
  · have nd := sc__law_bytes.nd
    obtain ⟨a, ns, rfl, hS, hlen, q⟩ := h
    refine ⟨_, (pss_cons (ps_set (i := 1) nd rfl (.inl rfl) (pe_lst pa_nil))
      (pss_cons (ps_for PassesOwn.never rfl (pi_enum (by rfl) T.n_enumerate (pa_cons (pe_slice (slL K) (pv 0) po_none (po_some pe_int)) pa_nil)) (pg_tup rfl (pgs_cons (pg_name (i := 2) nd rfl (Or.inl rfl)) (pgs_cons (pg_name (i := 3) nd rfl (Or.inl rfl)) pgs_nil)))
        (pss_cons (ps_set (i := 4) nd rfl (.inl rfl) (pe_def D__law_mixed (hr.mono (by decide)) (pa_cons (pv 3) (pa_cons (pv 2) pa_nil))))
        (pss_one (ps_for PassesOwn.never rfl (pi_range1 (by rfl) T.n_range (pa_cons (pe_op op_add pe_int (pe_op op_mod (pv 4) pe_int)) pa_nil)) (pg_name (i := 5) nd rfl (Or.inl rfl))
          (pss_cons (ps_set (i := 6) nd rfl (.inl rfl) (pe_def D__law_next (hr.mono (by decide)) (pa_cons (pv 4) (pa_cons (pv 5) pa_nil))))
          (pss_one (ps_expr (pe_bm PySem.F.plainAttrs_list PySem.F.slot_list_append PySem.F.type_list_append mt_append (pv 1) (pa_cons (pe_ix (ixL K) (pe_lst (pa_cons (pe_op op_mod (pe_op op_fdiv (pv 6) pe_int) pe_int) (pa_cons pe_int (pa_cons pe_int (pa_cons (pe_op op_mod (pe_op op_fdiv (pv 6) pe_int) pe_int) pa_nil))))) (pe_op op_mod (pv 6) pe_int) (fun _ _ => rfl)) pa_nil)))))))))
      (pss_one (ps_ret (pv 1))))), ?_⟩
    refine ⟨Nat.zero_le _, fun o no => ?_⟩
    have s1 : Same H (upd H o (.lst [])) := same_upd no
    refine ⟨.ref a, rfl, 63, rfl, a, _, rfl, s1.seq hS, fun c nc => ?_⟩
    have s2 : Same (upd H o (.lst [])) (upd (upd H o (.lst [])) c (.lst (cutV (ns.map V.int) none (some 63)))) := same_upd nc
    have nco : c ≠ o := fun e => by
      rw [e, upd_same] at nc
      cases nc
    have ecut : cutV (ns.map V.int) none (some 63) = ns.map V.int := by
      rw [show (63 : Int) = ((63 : Nat) : Int) from rfl, cutV_to, List.take_of_length_le (by rw [List.length_map]; exact hlen)]
    rw [ecut] at s2 ⊢
    refine ⟨c, ns.map V.int, rfl, .inl (.inl upd_same), for_it walk_enum (fun i σ H' => ∃ y2 y3 y4 y5 y6 bs, σ = [some (.ref a), some (.ref o), y2, y3, y4, y5, y6] ∧ Same H H' ∧ H' c = some (.lst (ns.map V.int)) ∧ H' o = some (.lst (bs.map V.int)) ∧ Bytes bs ∧ bs.length ≤ 4 * i ∧ i ≤ bs.length)
      ⟨none, none, none, none, none, [], rfl, s1.trans s2, upd_same, by rw [upd_ne nco.symm, upd_same]; rfl, (fun b hb => by cases hb), Nat.le_refl _, Nat.le_refl _⟩
      (fun i σ H' _ h => by obtain ⟨_, _, _, _, _, _, rfl, _, e, _⟩ := h; exact .inl (.inl e)) (fun i x σ H' H'' hi hP hy => ?_) (fun σ H' hP => ?_)⟩
    · obtain ⟨y2, y3, y4, y5, y6, bs, rfl, sm, ec, eo, hb, hl, hlo⟩ := hP
      obtain ⟨U, x1, x2, rfl, nU, rfl, f1, f2⟩ := hy
      rw [List.length_map] at hi
      have f2 : (ns.map V.int)[i]? = some x2 := f2
      rw [List.getElem?_map, List.getElem?_eq_getElem hi] at f2
      obtain rfl := Option.some.inj f1
      obtain rfl := Option.some.inj f2
      have sU : Same H' (upd H' U (.tup [.int (i : Nat), .int ns[i]])) := same_upd nU
      refine ⟨U, _, rfl, .inl (.inl upd_same), rfl, _, _, rfl, _, _, rfl, rfl, ?_⟩
      refine ⟨_, rfl, _, rfl, ns[i], (i : Int), rfl, by omega, by omega, fun H2 sm2 => ?_⟩
      have hM := mixed_lt ns[i] (i : Int)
      generalize mixed ns[i] (i : Int) = M at hM
      have hm4 : 0 ≤ M % 4 ∧ M % 4 < 4 := ⟨Int.emod_nonneg _ (by decide), Int.emod_lt_of_pos _ (by decide)⟩
      refine ⟨.int M, rfl, M, 4, rfl, rfl, (show (0 : Int) < 4 by decide), 1, _, rfl, rfl, 1 + M % 4, rfl, by omega, by omega, ?_⟩
      have eo2 : H2 o = some (.lst (bs.map V.int)) := sm2 _ _ (sU _ _ eo)
      have ec2 := sm2 _ _ (sU _ _ ec)
      have smm : Same H H2 := (sm.trans sU).trans sm2
      refine for_it walk_range (fun j σ H' => ∃ y5 y6 bs, σ = [some (.ref a), some (.ref o), some (.int (i : Nat)), some (.int ns[i]), some (.int M), y5, y6] ∧ Same H H' ∧ H' c = some (.lst (ns.map V.int)) ∧ H' o = some (.lst (bs.map V.int)) ∧ Bytes bs ∧ bs.length ≤ 4 * i + j ∧ i + j ≤ bs.length)
        ⟨y5, y6, bs, rfl, smm, ec2, eo2, hb, hl, hlo⟩ (fun _ _ _ _ _ => trivial) (fun j x σ H3 H4 hj hP hy => ?_) (fun σ H3 hP => ?_)
      · obtain ⟨y5, y6, bs, rfl, sm3, ec3, eo3, hb, hl, hlo⟩ := hP
        obtain ⟨rfl, rfl⟩ := hy
        refine ⟨_, rfl, _, rfl, M, 0 + (j : Int), rfl, by omega, by omega, by omega, by omega, fun H5 sm5 => ?_⟩
        have hN := nextN_lt M (0 + (j : Int))
        generalize nextN M (0 + (j : Int)) = R at hN
        have hr4 : 0 ≤ R % 4 ∧ R % 4 < 4 := ⟨Int.emod_nonneg _ (by decide), Int.emod_lt_of_pos _ (by decide)⟩
        obtain ⟨b, eb, hb0, hb1⟩ := pick_at R (R % 4) hr4.1 hr4.2
        have eo5 := sm5 _ _ eo3
        refine ⟨.ref o, rfl, .inl ⟨rfl, _, .inl (.inl eo5)⟩, ?_⟩
        refine ⟨.int R, rfl, R, 4, rfl, rfl, ⟨by decide, by decide⟩, _, 256, rfl, rfl, (show (0 : Int) < 256 by decide), .int R, rfl, R, 4, rfl, rfl, ⟨by decide, by decide⟩, _, 256, rfl, rfl, (show (0 : Int) < 256 by decide), Nat.le_of_lt (small1000 (show 4 ≤ 1000 by decide)), fun p np => ?_⟩
        have npo : o ≠ p := ne_of_none eo5 np
        have sp := same_upd (o := .lst [V.int (R / 4 % 256), .int 255, .int 0, .int (R / 4 % 256)]) np
        have eop : (upd H5 p (.lst [V.int (R / 4 % 256), .int 255, .int 0, .int (R / 4 % 256)])) o = some (.lst (bs.map V.int)) := sp _ _ eo5
        refine ⟨.int R, rfl, R, 4, rfl, rfl, (show (0 : Int) < 4 by decide), p, _, _, .int b, rfl, rfl, .inl (.inl upd_same), eb, o, _, _, rfl, rfl, eop, ?_, ?_⟩
        · rw [List.length_map]
          exact small1000 (by omega)
        · refine ⟨some (.int (0 + (j : Int))), some (.int R), bs ++ [b], rfl, fun b' z e => ?_, ?_, ?_, ?_, ?_, ?_⟩
          · rw [upd_ne (ne_of_none e no)]
            exact sp _ _ (sm5 _ _ (sm3 _ _ e))
          · rw [upd_ne nco]
            exact sp _ _ (sm5 _ _ ec3)
          · rw [upd_same, List.map_append]
            rfl
          · intro b' hb'
            rcases List.mem_append.mp hb' with h | h
            · exact hb b' h
            · rw [List.mem_singleton.mp h]
              exact ⟨hb0, hb1⟩
          · rw [List.length_append]
            simp only [List.length_cons, List.length_nil]
            omega
          · rw [List.length_append]
            simp only [List.length_cons, List.length_nil]
            omega
      · obtain ⟨y5, y6, bs, rfl, sm3, ec3, eo3, hb, hl, hlo⟩ := hP
        exact ⟨_, _, _, y5, y6, bs, rfl, sm3, ec3, eo3, hb, by omega, by omega⟩
    · obtain ⟨y2, y3, y4, y5, y6, bs, rfl, sm, ec, eo, hb, hl, hlo⟩ := hP
      rw [List.length_map] at hl hlo
      refine ⟨.ref o, rfl, q (bs.map Int.toNat) (fun x hx => ?_) (by rw [List.length_map]; omega) (by rw [List.length_map]; exact hlo) H' o sm no (by rw [eo, bytes_nat hb])⟩
      obtain ⟨y, hy, rfl⟩ := List.mem_map.mp hx
      have := hb y hy
      omega
end
end K06

namespace K06
open PySem PySem.Spec PyProof.Rows L2 LH
section
variable {P : Program} {w : World} {K : PySem.W.Frag} {mg : Str → Option Value} {base : Heap} {tk : Nat → Tok} {ca : Nat → Addr}
/-! ### the law's own sixty-four signs of bytes -/
theorem nb_app (a b : List Nat) : nb (a ++ b) = nb a ++ nb b := by unfold nb; rw [List.map_append]
theorem nb_zeros (n : Nat) : (List.replicate n [V.int 0]).flatten = nb (List.replicate n 0) := by
  induction n with
  | zero => rfl
  | succ n ih => rw [List.replicate_succ, List.replicate_succ, List.flatten_cons, ih]; rfl
theorem sum_len' (ys : List Str) : (ys.map (·.length)).sum = ((ys.map TL.tl).flatten).length := sum_len ys
def lbits (bs : List Nat) : List Nat := (bs.map fun b => bitsN b 8).flatten
def padded (bs : List Nat) : List Nat := lbits bs ++ List.replicate ((-((lbits bs).length : Int)) % 6).toNat 0
def sgn (n : Nat) : Nat := (TL.tl S64).getD n 0
def lt0 (bs : List Nat) : List Nat := (chunks 6 (padded bs)).map fun c => sgn (numB c)
def ltext (bs : List Nat) : List Nat := lt0 bs ++ List.replicate ((-((lt0 bs).length : Int)) % 4).toNat 61
theorem lbits_len : ∀ bs : List Nat, (lbits bs).length = 8 * bs.length := fun bs => by
  unfold lbits
  induction bs with
  | nil => rfl
  | cons c r ih => rw [List.map_cons, List.flatten_cons, List.length_append, ih, bitsN_len, List.length_cons]; omega
theorem padded_len (bs : List Nat) : (padded bs).length ≤ 8 * bs.length + 5 := by
  unfold padded
  rw [List.length_append, List.length_replicate, lbits_len]
  omega
theorem lt0_len (bs : List Nat) : (lt0 bs).length ≤ 8 * bs.length + 5 := by
  unfold lt0
  rw [List.length_map, chunks_len]
  have := padded_len bs
  omega
theorem ltext_len (bs : List Nat) : (ltext bs).length ≤ 8 * bs.length + 8 := by
  unfold ltext
  rw [List.length_append, List.length_replicate]
  have := lt0_len bs
  omega
def Bits01 (l : List Nat) : Prop := ∀ b ∈ l, b < 2
theorem bitsN_01 (n m : Nat) : Bits01 (bitsN n m) := fun b hb => by
  unfold bitsN at hb
  obtain ⟨k, _, rfl⟩ := List.mem_map.mp hb
  exact Nat.mod_lt _ (by decide)
theorem padded_01 (bs : List Nat) : Bits01 (padded bs) := fun b hb => by
  unfold padded lbits at hb
  rcases List.mem_append.mp hb with h | h
  · obtain ⟨l, hl, hb⟩ := List.mem_flatten.mp h
    obtain ⟨x, _, rfl⟩ := List.mem_map.mp hl
    exact bitsN_01 _ _ b hb
  · rw [(List.mem_replicate.mp h).2]; decide
theorem numB_snoc (l : List Nat) (b : Nat) : numB (l ++ [b]) = 2 * numB l + b := by
  unfold numB
  rw [List.foldl_append]
  rfl
theorem numB_gen : ∀ (l : List Nat) (n : Nat), Bits01 l → l.foldl (fun a b => 2 * a + b) n < (n + 1) * 2 ^ l.length
  | [], n, _ => by simp
  | c :: r, n, h => by
    have h1 := numB_gen r (2 * n + c) (fun x hx => h x (by simp [hx]))
    have h2 := h c (by simp)
    rw [List.foldl_cons, List.length_cons, Nat.pow_succ]
    refine Nat.lt_of_lt_of_le h1 ?_
    rw [show (n + 1) * (2 ^ r.length * 2) = ((n + 1) * 2) * 2 ^ r.length by rw [Nat.mul_comm (2 ^ r.length) 2, Nat.mul_assoc]]
    exact Nat.mul_le_mul_right _ (by omega)
theorem numB_lt64 (l : List Nat) (h : Bits01 l) (hl : l.length ≤ 6) : numB l < 64 := by
  have := numB_gen l 0 h
  rw [Nat.zero_add, Nat.one_mul] at this
  exact Nat.lt_of_lt_of_le this (Nat.le_trans (Nat.pow_le_pow_right (by decide) hl) (by decide))
theorem sgn_at {n : Nat} (h : n < 64) : atI (TL.tl S64) (n : Int) = some (sgn n) := by
  have h' : n < (TL.tl S64).length := by rw [s64_len]; exact h
  refine atI_nat ?_
  unfold sgn
  rw [List.getD_eq_getElem?_getD, List.getElem?_eq_getElem h']
  rfl
theorem tl_rep_eq (k : Int) : TL.tl (repS (Str.ofString "=") k) = List.replicate k.toNat 61 := by
  show (List.replicate k.toNat (TL.tl (Str.ofString "="))).flatten = _
  rw [show TL.tl (Str.ofString "=") = [61] by decide +kernel]
  generalize k.toNat = n
  induction n with
  | zero => rfl
  | succ n ih => rw [List.replicate_succ, List.flatten_cons, ih, List.replicate_succ]; rfl
def rowsS (t : List Nat) : List Str := (chunks 60 t).map fun l => ⟨l.toArray⟩
def rowsV (t : List Nat) : List V := (rowsS t).map V.str
theorem rowsV_nil : rowsV [] = [] := by
  unfold rowsV rowsS
  rw [chunks_nil (by decide)]
  rfl
theorem rowsV_cons {t : List Nat} (h : t ≠ []) : rowsV t = .str ⟨(t.take 60).toArray⟩ :: rowsV (t.drop 60) := by
  unfold rowsV rowsS
  rw [chunks_cons (by decide) h]
  rfl
theorem rowsV_len (t : List Nat) : (rowsV t).length ≤ t.length := by
  unfold rowsV rowsS
  rw [List.length_map, List.length_map, chunks_len]
  omega
theorem lbits_snoc (l : List Nat) (b : Nat) : lbits (l ++ [b]) = lbits l ++ bitsN b 8 := by
  unfold lbits
  simp
/-- the length of the text in slot i -/
def lenAt (i : Nat) (σ : L2.St) : Nat := match σ[i]? with
  | some (some (.str z)) => z.length
  | _ => 0
/-! ### _law_in_sixty -/
abbrev s__law_in_sixty : Stmt := topS 42
abbrev N__law_in_sixty : List Str := ["_law_row", "_law_bits_here", "_law_byte", "_law_text", "_law_rows", "_law_at"]
abbrev P__law_in_sixty : List Str := ["_law_row"]
theorem sc__law_in_sixty : FnScope N__law_in_sixty ["_law_row"] (defScope s__law_in_sixty) := ⟨rfl, rfl, rfl, by decide +kernel, rfl, by decide +kernel, by decide +kernel⟩
def sp_in_sixty : Sp := fun vs H Q _ => ∃ (a : Addr) (bs : List Nat), vs = [.ref a] ∧ H a = some (.lst (nb bs)) ∧ bs.length ≤ 1000 ∧ New H (rowsV (ltext bs)) Q
theorem ok_in_sixty {f fB fN fS : Addr} {fd fdB fdN fdS : FuncData} (F : Fun K "_law_in_sixty" "_law_in_sixty" s__law_in_sixty f fd) (T : Tx mg tk) (D__law_bits : Def P w K mg base "_law_bits" 1 fB fdB P__law_bits sp_lbits) (D__law_number : Def P w K mg base "_law_number" 1 fN fdN P__law_number sp_lnumber) (D__law_sixty : Def P w K mg base "_law_sixty" 1 fS fdS P__law_sixty sp_lsixty) : FnOk P w K mg base CX0 2 f fd P__law_in_sixty sp_in_sixty := by
  refine F.ok sc__law_in_sixty (fun vs H Q E h => ?_) (fun cdv A outer s H vs Q E hr h => ?_)
  · obtain ⟨a, bs, rfl, _⟩ := h
    rfl
  · have nd := sc__law_in_sixty.nd
    obtain ⟨a, bs, rfl, hS, hlen, q⟩ := h
    refine ⟨_, (pss_cons (ps_set (i := 1) nd rfl (.inr rfl) (pe_lst pa_nil))
      (pss_cons (ps_for PassesOwn.never rfl (pi_list (pv 0)) (pg_name (i := 2) nd rfl (Or.inl rfl))
        (pss_one (ps_expr (pe_bm PySem.F.plainAttrs_list PySem.F.slot_list_extend PySem.F.type_list_extend mt_extend (pv 1) (pa_cons (pe_def D__law_bits (hr.mono (by decide)) (pa_cons (pv 2) (pa_cons pe_int pa_nil))) pa_nil)))))
      (pss_cons (ps_set (i := 1) nd rfl (.inr rfl) (pe_op op_cat (pv 1) (pe_op op_rep (pe_lst (pa_cons pe_int pa_nil)) (pe_op op_mod (pe_un un_neg (pe_callB (cLen K) (by rfl) T.n_len (by decide +kernel) (pa_cons (pv 1) pa_nil))) pe_int))))
      (pss_cons (ps_set (i := 3) nd rfl (.inl rfl) (pe_join pe_str (pe_lc (own := [("_law_at", 5)]) (g := gName 5) (by rfl) nd (pi_range3 (by rfl) T.n_range (pa_cons pe_int (pa_cons (pe_callB (cLen K) (by rfl) T.n_len (by decide +kernel) (pa_cons (pv 1) pa_nil)) (pa_cons pe_int pa_nil)))) (blkOk_by (N := N__law_in_sixty) (sc := defScope s__law_in_sixty) (by decide +kernel)) (fun _ _ _ _ _ => (pg_name (i := 5) nd rfl (Or.inl rfl))) (fun _ _ _ _ _ => pts_nil) (fun _ _ _ _ _ => (pe_ix ix_str (pe_def0 D__law_sixty (hr.mono (by decide))) (pe_def D__law_number (hr.mono (by decide)) (pa_cons (pe_slice (slL K) (pv 1) (po_some (pv 5)) (po_some (pe_op op_add (pv 5) pe_int))) pa_nil)) (fun _ _ => rfl))))))
      (pss_cons (ps_set (i := 3) nd rfl (.inl rfl) (pe_op op_add_str (pv 3) (pe_op op_mul_str pe_str (pe_op op_mod (pe_un un_neg (pe_callB call_len_str (by rfl) T.n_len (by decide +kernel) (pa_cons (pv 3) pa_nil))) pe_int))))
      (pss_cons (ps_set (i := 4) nd rfl (.inl rfl) (pe_lst pa_nil))
      (pss_cons (ps_while PassesOwn.never (pt_cmpR op_ne (pv 3) pe_str (nomark _))
        (pss_cons (ps_expr (pe_bm PySem.F.plainAttrs_list PySem.F.slot_list_append PySem.F.type_list_append mt_append (pv 4) (pa_cons (pe_slice sl_str (pv 3) po_none (po_some pe_int)) pa_nil)))
        (pss_one (ps_set (i := 3) nd rfl (.inl rfl) (pe_slice sl_str (pv 3) (po_some pe_int) po_none)))))
      (pss_one (ps_ret (pv 4)))))))))), ?_⟩
    refine ⟨Nat.zero_le _, fun o no => ?_⟩
    have s1 := same_upd (o := .lst []) no
    refine ⟨.ref a, rfl, a, rfl, ⟨_, .inl (.inl (s1 _ _ hS))⟩, for_it walk_list (fun i σ H' => ∃ y2, σ = [some (.ref a), some (.ref o), y2, none, none, none] ∧ Same H H' ∧ H' o = some (.lst (nb (lbits (bs.take i))))) ⟨none, rfl, s1, upd_same⟩
      (fun i σ H' _ h => by obtain ⟨y, rfl, sm, _⟩ := h; exact .inl (.inl (sm _ _ hS))) (fun i x σ H' H'' hi hP hy => ?_) (fun σ H' hP => ?_)⟩
    · obtain ⟨y2, rfl, sm, eo⟩ := hP
      obtain ⟨rfl, hx⟩ := hy
      rw [nb_len] at hi
      unfold nb at hx
      rw [List.getElem?_map, List.getElem?_eq_getElem hi] at hx
      obtain rfl := Option.some.inj hx
      refine ⟨.ref o, rfl, .inl ⟨rfl, _, .inl (.inl eo)⟩, .int (bs[i] : Nat), rfl, bs[i], 8, rfl, by decide, fun H2 p sm2 np ep => ?_⟩
      have npo : o ≠ p := ne_of_none eo np
      have hl := lbits_len (bs.take i)
      rw [List.length_take] at hl
      refine ⟨o, p, _, _, rfl, rfl, sm2 _ _ eo, ep, ?_, some (.int (bs[i] : Nat)), rfl, fun b z e => ?_, ?_⟩
      · rw [nb_len, nb_len, bitsN_len, hl, sizeLine_eq]
        omega
      · rw [upd_ne (ne_of_none e no)]
        exact sm2 _ _ (sm _ _ e)
      · rw [upd_same, List.take_add_one, List.getElem?_eq_getElem hi]
        show _ = some (HO.lst (nb (lbits (bs.take i ++ [bs[i]]))))
        rw [lbits_snoc, nb_app]
    · obtain ⟨y2, rfl, sm, eo⟩ := hP
      rw [nb_len, List.take_length] at eo
      have hlb := lbits_len bs
      have hlm : (nb (lbits bs)).length = (lbits bs).length := nb_len _
      have hm0 : 0 ≤ (-((lbits bs).length : Int)) % 6 ∧ (-((lbits bs).length : Int)) % 6 < 6 := ⟨Int.emod_nonneg _ (by decide), Int.emod_lt_of_pos _ (by decide)⟩
      refine ⟨.ref o, rfl, Nat.le_of_lt (small1000 (show 1 ≤ 1000 by decide)), fun p np => ?_⟩
      have s2 := same_upd (o := .lst [V.int 0]) np
      refine ⟨.ref o, rfl, o, _, rfl, .inl (.inl (.inl (s2 _ _ eo))), _, rfl, _, 6, rfl, rfl, (show (0 : Int) < 6 by decide), p, _, _, rfl, rfl, upd_same, ?_, ?_, ?_, fun p2 np2 => ?_⟩
      · rw [hlm]; omega
      · rw [hlm]; omega
      · rw [hlm, List.length_singleton, sizeLine_eq]; omega
      rw [hlm]
      have e2 : (List.replicate ((-((lbits bs).length : Int)) % 6).toNat [V.int 0]).flatten = nb (List.replicate ((-((lbits bs).length : Int)) % 6).toNat 0) := nb_zeros _
      rw [e2]
      have s3 := same_upd (o := .lst (nb (List.replicate ((-((lbits bs).length : Int)) % 6).toNat 0))) np2
      refine ⟨o, p2, _, _, rfl, rfl, s3 _ _ (s2 _ _ eo), upd_same, ?_, fun p3 np3 => ?_⟩
      · rw [hlm, nb_len, List.length_replicate, sizeLine_eq]; omega
      rw [← nb_app]
      have s4 := same_upd (o := .lst (nb (lbits bs ++ List.replicate ((-((lbits bs).length : Int)) % 6).toNat 0))) np3
      have hpad : lbits bs ++ List.replicate ((-((lbits bs).length : Int)) % 6).toNat 0 = padded bs := rfl
      rw [hpad] at s4 ⊢
      have hpl := padded_len bs
      have hplm : (nb (padded bs)).length = (padded bs).length := nb_len _
      generalize hH3 : upd _ p3 (.lst (nb (padded bs))) = H3 at *
      have e3 : H3 p3 = some (.lst (nb (padded bs))) := by rw [← hH3, upd_same]
      have s14 : Same H H3 := sm.trans (s2.trans (s3.trans s4))
      refine ⟨⟨_, rfl⟩, .ref p3, rfl, p3, _, rfl, .inl (.inl (.inl e3)), 0, _, 6, ((padded bs).length + 5) / 6, rfl, by rw [hplm]; exact rgC _ 6 (by decide) (by decide) (by omega), fun D hD => ?_⟩
      refine lc_pure (fun i => .int (0 + ((i : Nat) : Int) * 6)) (fun i => .str ⟨#[sgn (numB (((padded bs).drop (i * 6)).take 6))]⟩) walk_rangeC (fun _ _ => trivial) hD (by rw [sizeLine_eq]; omega) (fun i H2 Q2 hi sm2 q2 => ?_) (fun H2 sm2 e => ?_)
      · refine ⟨rfl, .ref p3, rfl, .int (0 + ((i : Nat) : Int) * 6), rfl, _, rfl, .int (0 + ((i : Nat) : Int) * 6), rfl, _, 6, rfl, rfl, 0 + ((i : Nat) : Int) * 6 + 6, rfl, p3, _, rfl, .inl (.inl (sm2 _ _ e3)), fun p np => ?_⟩
        refine ⟨p, ((padded bs).drop (i * 6)).take 6, rfl, ?_, fun H4 sm4 => ?_⟩
        · rw [upd_same, show (0 : Int) + ((i : Nat) : Int) * 6 = ((i * 6 : Nat) : Int) by omega, show ((i * 6 : Nat) : Int) + 6 = ((i * 6 + 6 : Nat) : Int) by omega, cutV_at, Nat.add_sub_cancel_left]
          unfold nb
          rw [List.map_take, List.map_drop]
        · have hn := numB_lt64 (((padded bs).drop (i * 6)).take 6) (fun x hx => padded_01 bs x (List.mem_of_mem_drop (List.mem_of_mem_take hx))) (by rw [List.length_take]; omega)
          exact ⟨S64, _, _, rfl, rfl, Nat.le_of_lt (small1000 (by decide +kernel)), sgn_at hn, q2 _ ((same_upd np).trans sm4)⟩
      · have ey : (List.range (((padded bs).length + 5) / 6)).map (fun i => V.str ⟨#[sgn (numB (((padded bs).drop (i * 6)).take 6))]⟩) = ((chunks 6 (padded bs)).map fun c => (⟨#[sgn (numB c)]⟩ : Str)).map V.str := by
          unfold chunks
          rw [List.map_map, List.map_map]
          rfl
        rw [ey] at e
        have e5 : (((chunks 6 (padded bs)).map fun c => (⟨#[sgn (numB c)]⟩ : Str)).map TL.tl).flatten = lt0 bs := by
          unfold lt0
          rw [List.map_map]
          generalize chunks 6 (padded bs) = l
          induction l with
          | nil => rfl
          | cons x r ih => rw [List.map_cons, List.flatten_cons, ih]; rfl
        have hl0 := lt0_len bs
        refine ⟨Str.ofString "", D, _, rfl, rfl, .inl (.inl (.inl e)), ?_, ?_⟩
        · rw [sum_len' , e5]
          show (lt0 bs).length + _ * 0 ≤ 16777216
          omega
        have eJ := tl_join0 ((chunks 6 (padded bs)).map fun c => (⟨#[sgn (numB c)]⟩ : Str))
        rw [e5] at eJ
        generalize Txt.join (Str.ofString "") ((chunks 6 (padded bs)).map fun c => (⟨#[sgn (numB c)]⟩ : Str)) = J at eJ
        have hJ : J.length = (lt0 bs).length := by rw [TL.len_tl, eJ]
        have hm4 : 0 ≤ (-((J.length : Nat) : Int)) % 4 ∧ (-((J.length : Nat) : Int)) % 4 < 4 := ⟨Int.emod_nonneg _ (by decide), Int.emod_lt_of_pos _ (by decide)⟩
        have hrl : (repS (Str.ofString "=") ((-((J.length : Nat) : Int)) % 4)).length = ((-((J.length : Nat) : Int)) % 4).toNat := by rw [TL.len_tl, tl_rep_eq, List.length_replicate]
        refine ⟨.str J, rfl, .str J, rfl, J, rfl, by rw [hJ, sizeLine_eq]; omega, _, rfl, _, 4, rfl, rfl, (show (0 : Int) < 4 by decide), Str.ofString "=", _, rfl, rfl, by omega, by omega, by decide +kernel, _, _, rfl, rfl, ?_, ?_⟩
        · rw [hrl, hJ, sizeLine_eq]; omega
        have eT : TL.tl (J ++ repS (Str.ofString "=") ((-((J.length : Nat) : Int)) % 4)) = ltext bs := by
          rw [TL.tl_append, tl_rep_eq, eJ, hJ]
          rfl
        generalize J ++ repS (Str.ofString "=") ((-((J.length : Nat) : Int)) % 4) = Z at eT
        have hlt := ltext_len bs
        refine ⟨Nat.zero_le _, fun r nr => ?_⟩
        have s5 := same_upd (o := .lst []) nr
        have hfr : H r = none := (s14.trans sm2).free nr
        refine while_by (fun σ H' => ∃ (z : Str) (rs : List V) (y2 : Option V), σ = [some (.ref a), some (.ref p3), y2, some (.str z), some (.ref r), none] ∧ Same H H' ∧ H' r = some (.lst rs) ∧ rs ++ rowsV (TL.tl z) = rowsV (ltext bs) ∧ z.length ≤ 9000) (fun σ _ => lenAt 3 σ)
          ⟨Z, [], y2, rfl, s14.trans (sm2.trans s5), upd_same, by rw [eT, List.nil_append], by rw [TL.len_tl, eT]; omega⟩ (fun σ H' hP => ?_) (fun σ H' Q1 Q2 hQ h => ?_)
        · obtain ⟨z, rs, y2, rfl, sm5, er, hrs, hz⟩ := hP
          have hrl2 : rs.length ≤ 9000 := by
            have h1 := congrArg List.length hrs
            rw [List.length_append] at h1
            have h2 := rowsV_len (ltext bs)
            omega
          refine ⟨.str z, rfl, rfl, _, rfl, ite2 (fun e => ?_) (fun e => ?_)⟩
          · have hz0 : TL.tl z ≠ [] := fun h => by
              have : z = Str.ofString "" := TL.ext_tl (by rw [h, tl_empty])
              rw [this] at e
              exact absurd e (by decide)
            have hzl : 0 < z.length := by
              rw [TL.len_tl]
              exact List.length_pos_iff.mpr hz0
            refine ⟨.ref r, rfl, .inl ⟨rfl, _, .inl (.inl er)⟩, .str z, rfl, 60, rfl, z, rfl, by rw [sizeLine_eq]; omega, r, _, _, rfl, rfl, er, by rw [sizeLine_eq]; omega, ?_⟩
            refine ⟨.str z, rfl, 60, rfl, z, rfl, by rw [sizeLine_eq]; omega, ?_⟩
            have ez : TL.tl (cutS z (some 60) none) = (TL.tl z).drop 60 := by
              rw [show (60 : Int) = ((60 : Nat) : Int) from rfl, cutS_from]
            have ezl : (cutS z (some 60) none).length = z.length - 60 := by rw [TL.len_tl, ez, List.length_drop, ← TL.len_tl]
            refine ⟨⟨cutS z (some 60) none, rs ++ [.str (cutS z none (some 60))], y2, rfl, fun b x eb => ?_, upd_same, ?_, by omega⟩, ?_⟩
            · rw [upd_ne (ne_of_none eb hfr)]
              exact sm5 _ _ eb
            · rw [ez, List.append_assoc, ← hrs, rowsV_cons hz0, show (60 : Int) = ((60 : Nat) : Int) from rfl, cutS_to]
              rfl
            · show (cutS z (some 60) none).length < z.length
              omega
          · have hz0 : TL.tl z = [] := by
              have : z = Str.ofString "" := by
                have h1 : decide (V.str z = V.str (Str.ofString "")) = true := by
                  cases h : decide (V.str z = V.str (Str.ofString "")) with
                  | true => rfl
                  | false => exact absurd (by rw [h]; rfl) e
                exact V.str.inj (of_decide_eq_true h1)
              rw [this, tl_empty]
            rw [hz0, rowsV_nil, List.append_nil] at hrs
            exact ⟨.ref r, rfl, q H' r sm5 hfr (by rw [er, hrs])⟩
        · obtain ⟨v, e1, e2, k, e3, h⟩ := h
          exact ⟨v, e1, e2, k, e3, hQ _ _ h⟩
end
end K06

namespace K06
open PySem PySem.Spec PyProof.Rows L2 LH
/-! ### the law's own rows are good, and read back they are the bytes -/
theorem chunks_flat {α : Type} {k : Nat} (hk : 0 < k) : ∀ (n : Nat) (t : List α), t.length ≤ n → (chunks k t).flatten = t
  | n, [], _ => by rw [chunks_nil hk]; rfl
  | 0, x :: t, h => by simp at h
  | n + 1, x :: t, h => by
    rw [chunks_cons hk (by simp), List.flatten_cons, chunks_flat hk n _ (by rw [List.length_drop]; rw [List.length_cons] at h ⊢; omega), List.take_append_drop]
theorem textR_rows (t : List Nat) : textR (rowsS t) = t := by
  unfold textR rowsS
  rw [List.map_map]
  have : ((fun z => TL.tl z) ∘ fun l : List Nat => (⟨l.toArray⟩ : Str)) = id := rfl
  rw [show (TL.tl ∘ fun l : List Nat => (⟨l.toArray⟩ : Str)) = id from rfl, List.map_id, chunks_flat (by decide) t.length t (Nat.le_refl _)]
theorem b64_sgn : ∀ n : Fin 64, b64 (sgn n.val) = n.val ∧ in64 (sgn n.val) = true := by decide +kernel
theorem lt0_64 (bs : List Nat) : All64 (lt0 bs) := fun x hx => by
  unfold lt0 at hx
  obtain ⟨c, hc, rfl⟩ := List.mem_map.mp hx
  unfold chunks at hc
  obtain ⟨i, _, rfl⟩ := List.mem_map.mp hc
  have hn := numB_lt64 (((padded bs).drop (i * 6)).take 6) (fun x hx => padded_01 bs x (List.mem_of_mem_drop (List.mem_of_mem_take hx))) (by rw [List.length_take]; omega)
  exact (b64_sgn ⟨_, hn⟩).2
theorem chunks6 {α : Type} (a b c d e f : α) (r : List α) : chunks 6 (a :: b :: c :: d :: e :: f :: r) = [a, b, c, d, e, f] :: chunks 6 r := chunks_cons (by decide) (by simp)
theorem six_back : ∀ t : List Nat, Bits01 t → t.length % 6 = 0 → bits6 ((chunks 6 t).map fun c => sgn (numB c)) = t
  | [], _, _ => by rw [chunks_nil (by decide)]; rfl
  | [_], _, h => by simp at h
  | [_, _], _, h => by simp at h
  | [_, _, _], _, h => by simp at h
  | [_, _, _, _], _, h => by simp at h
  | [_, _, _, _, _], _, h => by simp at h
  | a :: b :: c :: d :: e :: f :: r, h01, h => by
    have hr := six_back r (fun x hx => h01 x (by simp [hx])) (by simp only [List.length_cons] at h; omega)
    have h6 : numB [a, b, c, d, e, f] < 64 := numB_lt64 _ (fun x hx => h01 x (by
      simp only [List.mem_cons, List.not_mem_nil, or_false] at hx ⊢
      rcases hx with h | h | h | h | h | h <;> simp [h])) (Nat.le_refl 6)
    rw [chunks6, List.map_cons]
    have e1 : bits6 (sgn (numB [a, b, c, d, e, f]) :: (chunks 6 r).map fun c => sgn (numB c)) = bitsN (b64 (sgn (numB [a, b, c, d, e, f]))) 6 ++ bits6 ((chunks 6 r).map fun c => sgn (numB c)) := rfl
    rw [e1, hr, (b64_sgn ⟨_, h6⟩).1]
    show bitsN (numB [a, b, c, d, e, f]) 6 ++ r = _
    have ha := h01 a (by simp)
    have hb := h01 b (by simp)
    have hc := h01 c (by simp)
    have hd := h01 d (by simp)
    have he := h01 e (by simp)
    have hf := h01 f (by simp)
    rw [six]
    have e2 : numB [a, b, c, d, e, f] = 32 * a + 16 * b + 8 * c + 4 * d + 2 * e + f := by
      unfold numB
      simp only [List.foldl_cons, List.foldl_nil]
      omega
    rw [e2]
    generalize hN : 32 * a + 16 * b + 8 * c + 4 * d + 2 * e + f = N
    have q1 : N / 32 % 2 = a := by omega
    have q2 : N / 16 % 2 = b := by omega
    have q3 : N / 8 % 2 = c := by omega
    have q4 : N / 4 % 2 = d := by omega
    have q5 : N / 2 % 2 = e := by omega
    have q6 : N / 1 % 2 = f := by omega
    rw [q1, q2, q3, q4, q5, q6]
    rfl
theorem padded_six (bs : List Nat) : (padded bs).length % 6 = 0 := by
  unfold padded
  rw [List.length_append, List.length_replicate]
  omega
theorem bits_back (bs : List Nat) : bits6 (lt0 bs) = padded bs := six_back _ (padded_01 bs) (padded_six bs)
theorem eight (n : Nat) : bitsN n 8 = [n / 128 % 2, n / 64 % 2, n / 32 % 2, n / 16 % 2, n / 8 % 2, n / 4 % 2, n / 2 % 2, n / 1 % 2] := rfl
theorem num_eight {b : Nat} (h : b < 256) : numB (bitsN b 8) = b := by
  rw [eight]
  unfold numB
  simp only [List.foldl_cons, List.foldl_nil]
  omega
theorem eights_back (bs : List Nat) (h : ∀ x ∈ bs, x < 256) : eights (bits6 (lt0 bs)) = bs := by
  rw [bits_back]
  unfold padded
  have hz : ((-((lbits bs).length : Int)) % 6).toNat < 8 := by omega
  generalize ((-((lbits bs).length : Int)) % 6).toNat = z at *
  induction bs with
  | nil => exact eights_small (by show ([] ++ List.replicate z 0).length < 8; simp; exact hz)
  | cons b r ih =>
    have e : lbits (b :: r) ++ List.replicate z 0 = bitsN b 8 ++ (lbits r ++ List.replicate z 0) := by
      unfold lbits
      rw [List.map_cons, List.flatten_cons, List.append_assoc]
    rw [e, eights_cons _ _ (bitsN_len _ _), num_eight (h b (by simp)), ih (fun x hx => h x (by simp [hx]))]
theorem lt0_len6 (bs : List Nat) : 6 * (lt0 bs).length = (padded bs).length := by rw [← bits6_len, bits_back]
/-- the shape of good text -/
structure Good64 (t b : List Nat) (k : Nat) : Prop where
  eq : t = b ++ List.replicate k 61
  all : All64 b
  shape : Shape64 b k
  two : b.length % 4 = 2 → b64 (lastN b) % 16 = 0
  three : b.length % 4 = 3 → b64 (lastN b) % 4 = 0
theorem snoc_of {α : Type} {b : List α} (h : b ≠ []) : ∃ c x, b = c ++ [x] := by
  rcases List.eq_nil_or_concat b with h0 | ⟨L, x, h0⟩
  · exact absurd h0 h
  · exact ⟨L, x, by rw [h0, List.concat_eq_append]⟩
theorem ltext_good (bs : List Nat) : ∃ k, Good64 (ltext bs) (lt0 bs) k := by
  have h1 := lt0_len6 bs
  have h2 : (padded bs).length = 8 * bs.length + ((-((8 * bs.length : Nat) : Int)) % 6).toNat := by
    unfold padded
    rw [List.length_append, List.length_replicate, lbits_len]
  have last : ∀ z : Nat, ((-((8 * bs.length : Nat) : Int)) % 6).toNat = z → lt0 bs ≠ [] → z ≤ 6 → ∃ A, bitsN (b64 (lastN (lt0 bs))) 6 = A ++ List.replicate z 0 := fun z hz hne hz6 => by
    obtain ⟨c, x, e⟩ := snoc_of hne
    have hb := bits_back bs
    have e6 : bits6 (c ++ [x]) = bits6 c ++ bitsN (b64 x) 6 := by
      unfold bits6
      rw [List.map_append, List.flatten_append]
      simp
    have hl : lastN (c ++ [x]) = x := by unfold lastN; rw [List.getLastD_concat]
    rw [e, e6] at hb
    rw [e, hl]
    unfold padded at hb
    rw [lbits_len, hz] at hb
    refine ⟨(bitsN (b64 x) 6).take (6 - z), ?_⟩
    have h3 : (bits6 c ++ (bitsN (b64 x) 6).take (6 - z)) ++ (bitsN (b64 x) 6).drop (6 - z) = lbits bs ++ List.replicate z 0 := by
      rw [List.append_assoc, List.take_append_drop, hb]
    have h4 := (List.append_inj' h3 (by rw [List.length_drop, bitsN_len, List.length_replicate]; omega)).2
    rw [← h4, List.take_append_drop]
  refine ⟨((-((lt0 bs).length : Int)) % 4).toNat, rfl, lt0_64 bs, ?_, fun h => ?_, fun h => ?_⟩
  · unfold Shape64
    generalize (lt0 bs).length = m at *
    generalize (padded bs).length = pl at *
    generalize bs.length = n at *
    obtain ⟨q, hq⟩ : ∃ q, n = 3 * q ∨ n = 3 * q + 1 ∨ n = 3 * q + 2 := ⟨n / 3, by omega⟩
    rcases hq with hq | hq | hq
    · have : m = 4 * q := by omega
      left; omega
    · have : m = 4 * q + 2 := by omega
      right; right; omega
    · have : m = 4 * q + 3 := by omega
      right; left; omega
  · obtain ⟨A, hA⟩ := last 4 (by omega) (fun h0 => by rw [h0] at h; simp at h) (by decide)
    have := b64_lt (lastN (lt0 bs))
    generalize b64 (lastN (lt0 bs)) = x at *
    rw [six] at hA
    have h3 : [x / 32 % 2, x / 16 % 2] ++ [x / 8 % 2, x / 4 % 2, x / 2 % 2, x / 1 % 2] = A ++ [0, 0, 0, 0] := hA
    have h4 := (List.append_inj' h3 rfl).2
    simp only [List.cons.injEq, and_true] at h4
    omega
  · obtain ⟨A, hA⟩ := last 2 (by omega) (fun h0 => by rw [h0] at h; simp at h) (by decide)
    have := b64_lt (lastN (lt0 bs))
    generalize b64 (lastN (lt0 bs)) = x at *
    rw [six] at hA
    have h3 : [x / 32 % 2, x / 16 % 2, x / 8 % 2, x / 4 % 2] ++ [x / 2 % 2, x / 1 % 2] = A ++ [0, 0] := hA
    have h4 := (List.append_inj' h3 rfl).2
    simp only [List.cons.injEq, and_true] at h4
    omega
theorem goodF_snoc (g : Nat → List Nat → Bool) : ∀ (r a : List Nat) (c : Nat), goodF g a r = r.length → g c (a ++ r) = true → goodF g a (r ++ [c]) = r.length + 1
  | [], a, c, _, h => by
    rw [List.append_nil] at h
    rw [List.nil_append, goodF, if_pos h]
    rfl
  | d :: r, a, c, h1, h => by
    rw [goodF] at h1
    rw [List.cons_append, goodF]
    by_cases hd : g d a = true
    · rw [if_pos hd, List.length_cons] at h1
      rw [if_pos hd, goodF_snoc g r (a ++ [d]) c (by omega) (by rw [List.append_assoc]; exact h), List.length_cons]
    · rw [if_neg hd, List.length_cons] at h1
      omega
theorem goodF_all : ∀ (n : Nat) (b : List Nat), b.length ≤ n → All64 b → b.length ≤ 60 → goodF standB [] b = b.length
  | n, [], _, _, _ => rfl
  | 0, x :: b, h, _, _ => by simp at h
  | n + 1, x :: b, h, hA, hl => by
    obtain ⟨c, y, e⟩ := snoc_of (b := x :: b) (by simp)
    rw [e] at h hA hl ⊢
    rw [List.length_append] at h hl
    have h1 : ([y] : List Nat).length = 1 := rfl
    have hc : All64 c := fun z hz => hA z (by simp [hz])
    rw [goodF_snoc standB c [] y (goodF_all n c (by omega) hc (by omega)) ?_, List.length_append]
    · rfl
    · have hy := hA y (by simp)
      unfold standB
      rw [List.nil_append, if_neg (by omega), if_neg (in64_no hy).2, hy, decide_eq_false (all64_no61 hc)]
      rfl
theorem val_good {b : List Nat} {k : Nat} (h : Val64 b k) : goodF standB [] (b ++ List.replicate k 61) = (b ++ List.replicate k 61).length := by
  obtain ⟨hA, hl, hk⟩ := h
  have h0 := goodF_all b.length b (Nat.le_refl _) hA (by omega)
  have s1 : (b.length % 4 = 2 ∧ b64 (lastN b) % 16 = 0) ∨ (b.length % 4 = 3 ∧ b64 (lastN b) % 4 = 0) → b.length + 1 ≤ 60 → goodF standB [] (b ++ [61]) = b.length + 1 := fun h hl1 => by
    refine goodF_snoc standB b [] 61 h0 ?_
    unfold standB fillB
    rw [List.nil_append, if_neg (by omega), if_pos rfl]
    rcases h with ⟨h1, h2⟩ | ⟨h1, h2⟩
    · rw [if_pos h1, decide_eq_true h2]
    · rw [if_neg (by omega), if_pos h1, decide_eq_true h2]
  rcases hk with rfl | ⟨h1, h2, h3⟩ | ⟨h1, rfl, h3⟩
  · rw [List.replicate_zero, List.append_nil]; exact h0
  · rcases (show k = 0 ∨ k = 1 ∨ k = 2 by omega) with rfl | rfl | rfl
    · rw [List.replicate_zero, List.append_nil]; exact h0
    · rw [rep_len]; exact s1 (.inl ⟨h1, h3⟩) (by omega)
    · have e : b ++ List.replicate 2 61 = (b ++ [61]) ++ [61] := by rw [List.append_assoc]; rfl
      have := s1 (.inl ⟨h1, h3⟩) (by omega)
      rw [e, goodF_snoc standB (b ++ [61]) [] 61 (by rw [this, List.length_append]; rfl) ?_]
      · rw [List.length_append (as := b ++ [61])]; rfl
      · unfold standB fillB
        have hl1 : (b ++ [61]).length = b.length + 1 := by rw [List.length_append]; rfl
        have hl2 : lastN (b ++ [61]) = 61 := by unfold lastN; rw [List.getLastD_concat]
        rw [List.nil_append, hl1, hl2, if_neg (by omega), if_pos rfl, if_neg (by omega), if_pos (by omega), b64_61]
        rfl
  · rw [rep_len]; exact s1 (.inr ⟨h1, h3⟩) (by omega)
theorem rowsS_nil : rowsS [] = [] := by
  unfold rowsS
  rw [chunks_nil (by decide)]
  rfl
theorem rowsS_cons {t : List Nat} (h : t ≠ []) : rowsS t = ⟨(t.take 60).toArray⟩ :: rowsS (t.drop 60) := by
  unfold rowsS
  rw [chunks_cons (by decide) h]
  rfl
theorem good_rows : ∀ (m n : Nat) (t b : List Nat) (k : Nat), t.length ≤ m → Good64 t b k → wrongF standB endB n (rowsS t) = none
  | m, n, [], b, k, _, _ => by rw [rowsS_nil]; rfl
  | 0, n, x :: t, b, k, h, _ => by simp at h
  | m + 1, n, x :: t', b, k, h, hG => by
    generalize ht : x :: t' = t at *
    have hne : t ≠ [] := by rw [← ht]; simp
    have htl : t.length = b.length + k := by rw [hG.eq, rep_len]
    have hs := hG.shape
    unfold Shape64 at hs
    have hpos : 0 < t.length := List.length_pos_iff.mpr hne
    rw [rowsS_cons hne, wrongF]
    have etl : TL.tl (⟨(t.take 60).toArray⟩ : Str) = t.take 60 := rfl
    rw [etl]
    by_cases h60 : t.length ≤ 60
    · have e1 : t.take 60 = t := List.take_of_length_le h60
      have e2 : t.drop 60 = [] := List.drop_of_length_le h60
      have hV : Val64 b k := ⟨hG.all, by omega, by
        rcases hs with ⟨h1, h2⟩ | ⟨h1, h2⟩ | ⟨h1, h2⟩
        · exact .inl h1
        · exact .inr (.inr ⟨h2, h1, hG.three h2⟩)
        · exact .inr (.inl ⟨h2, by omega, hG.two h2⟩)⟩
      have hg := val_good hV
      rw [← hG.eq] at hg
      rw [e1, e2, rowsS_nil, hg, if_neg]
      · rfl
      · rintro (h | h)
        · omega
        · rw [decide_eq_true rfl] at h
          unfold endB at h
          rw [if_pos rfl, decide_eq_true hpos, decide_eq_true (by omega)] at h
          exact nomatch h
    · have hb : 60 < b.length := by omega
      have e1 : t.take 60 = b.take 60 := by rw [hG.eq, List.take_append_of_le_length (by omega)]
      have e2 : t.drop 60 = b.drop 60 ++ List.replicate k 61 := by rw [hG.eq, List.drop_append_of_le_length (by omega)]
      have hA : All64 (b.take 60) := fun z hz => hG.all z (List.mem_of_mem_take hz)
      have hl : (b.take 60).length = 60 := by rw [List.length_take]; omega
      have hg := goodF_all 60 (b.take 60) (by omega) hA (by omega)
      have hdl : (b.drop 60).length = b.length - 60 := List.length_drop ..
      have hd : lastN (b.drop 60) = lastN b := by
        unfold lastN
        rw [List.getLastD_eq_getLast?, List.getLastD_eq_getLast?, List.getLast?_eq_getElem?, List.getLast?_eq_getElem?, hdl, List.getElem?_drop]
        congr 2
        omega
      have hG2 : Good64 (t.drop 60) (b.drop 60) k := ⟨e2, fun z hz => hG.all z (List.mem_of_mem_drop hz), by unfold Shape64; rw [hdl]; omega, fun h => by rw [hd]; exact hG.two (by omega), fun h => by rw [hd]; exact hG.three (by omega)⟩
      have hne2 : t.drop 60 ≠ [] := fun h0 => by
        have := congrArg List.length h0
        rw [List.length_drop] at this
        simp at this
        omega
      rw [e1, hg, if_neg]
      · exact good_rows m (n + 1) (t.drop 60) (b.drop 60) k (by rw [List.length_drop]; omega) hG2
      · rintro (h | h)
        · omega
        · rw [decide_eq_false (by rw [rowsS_cons hne2]; simp)] at h
          unfold endB at h
          rw [if_neg (by decide), decide_eq_true hl, decide_eq_false (all64_no61 hA)] at h
          exact nomatch h
end K06

namespace K06
open PySem PySem.Spec PyProof.Rows L2 LH
section
variable {P : Program} {w : World} {K : PySem.W.Frag} {mg : Str → Option Value} {base : Heap} {tk : Nat → Tok} {ca : Nat → Addr}
def RowsN (n : Nat) (R : List Str) : Prop := ∀ x ∈ R, x.length ≤ n ∧ ∀ c ∈ TL.tl x, c < 128
theorem RowsN.app {n : Nat} {R S : List Str} (h : RowsN n R) (g : RowsN n S) : RowsN n (R ++ S) := fun x hx => (List.mem_append.mp hx).elim (h x) (g x)
theorem RowsN.one {n : Nat} {x : Str} (h : x.length ≤ n) (g : ∀ c ∈ TL.tl x, c < 128) : RowsN n [x] := fun y hy => by rw [List.mem_singleton.mp hy]; exact ⟨h, g⟩
theorem RowsN.mono {n m : Nat} {R : List Str} (h : RowsN n R) (hnm : n ≤ m) : RowsN m R := fun x hx => ⟨Nat.le_trans (h x hx).1 hnm, (h x hx).2⟩
theorem low_app {x y : Str} (h : ∀ c ∈ TL.tl x, c < 128) (g : ∀ c ∈ TL.tl y, c < 128) : ∀ c ∈ TL.tl (x ++ y), c < 128 := fun c hc => by
  rw [TL.tl_append] at hc
  exact (List.mem_append.mp hc).elim (h c) (g c)
theorem tl_rep (c : Nat) (n : Int) : TL.tl (repS ⟨#[c]⟩ n) = List.replicate n.toNat c := by
  show (List.replicate n.toNat [c]).flatten = _
  induction n.toNat with
  | zero => rfl
  | succ k ih => rw [List.replicate_succ, List.flatten_cons, ih]; rfl
theorem repS_len (c : Nat) (n : Int) : (repS ⟨#[c]⟩ n).length = n.toNat := by rw [TL.len_tl, tl_rep, List.length_replicate]
theorem rep_low {c : Nat} (h : c < 128) (n : Int) : ∀ d ∈ TL.tl (repS ⟨#[c]⟩ n), d < 128 := fun d hd => by
  rw [tl_rep] at hd
  rw [(List.mem_replicate.mp hd).2]
  exact h
theorem blank_eq : Str.ofString " " = ⟨#[32]⟩ := TL.ext_tl (by decide +kernel)
theorem word_low {z : Str} (h : WordL (TL.tl z)) : ∀ c ∈ TL.tl z, c < 128 := fun c hc => by
  have := h.2 c hc
  omega
theorem eqv_nil (R : List Str) : PyData.eqv (.list (R.map PyData.str)) (.list ([] : List PyData)) = decide (R = []) := by
  have := eqv_strsL R []
  exact this
theorem dp_nil {H : Hp} {g : Addr} (h : H g = some (.lst [])) : Dp K H (.ref g) (.list []) := .lst (.inl (.inl h)) .nil
theorem rows_ok {n : Nat} {R : List Str} (h : RowsN n R) : ∀ x ∈ R, OkS x := fun x hx c hc => by have := (h x hx).2 c hc; omega
theorem low_cut {z : Str} (h : ∀ c ∈ TL.tl z, c < 128) (lo hi : Option Int) : ∀ c ∈ TL.tl (cutS z lo hi), c < 128 := fun c hc => h c (mem_cut hc)
theorem RowsN.sub {n : Nat} {R S : List Str} (h : RowsN n R) (g : ∀ x ∈ S, x ∈ R) : RowsN n S := fun x hx => h x (g x hx)
def MENU : Str := S64 ++ Str.ofString "====AAQ- _\t"
theorem menu_len : MENU.length = 75 := by decide +kernel
theorem menu_low : ∀ c ∈ TL.tl MENU, c < 128 := by decide +kernel
theorem menu_at {n : Int} (h0 : 0 ≤ n) (h1 : n < 75) : ∃ c, c < 128 ∧ atI MENU.cps.toList n = some c := by
  obtain ⟨c, hc, e⟩ := pickL (TL.tl MENU) n h0 (by rw [← TL.len_tl, menu_len]; exact h1)
  exact ⟨c, menu_low c hc, e⟩
/-! ### _law_bent -/
abbrev s__law_bent : Stmt := topS 47
abbrev N__law_bent : List Str := ["_law_rows", "_law_number_here", "_law_menu", "_law_more", "_law_at", "_law_row", "_law_place", "_law_sign", "_law_way"]
abbrev P__law_bent : List Str := ["_law_rows", "_law_number_here", "_law_menu"]
theorem sc__law_bent : FnScope N__law_bent ["_law_rows", "_law_number_here", "_law_menu"] (defScope s__law_bent) := ⟨rfl, rfl, rfl, by decide +kernel, rfl, by decide +kernel, by decide +kernel⟩
def sp_bent : Sp := fun vs H Q _ => ∃ (a : Addr) (R : List Str) (m : Int), vs = [.ref a, .int m, .str MENU] ∧ H a = some (.lst (R.map V.str)) ∧ R ≠ [] ∧ RowsN 61 R ∧ R.length ≤ 200 ∧ 0 ≤ m ∧ m < 2147483648 ∧
  ∀ R' : List Str, RowsN 63 R' → R'.length ≤ R.length + 1 → New H (R'.map V.str) Q
theorem ok_bent {f : Addr} {fd : FuncData} {k : Nat} (F : Fun K "_law_bent" "_law_bent" s__law_bent f fd) (T : Tx mg tk) : FnOk P w K mg base CX0 (k + 1) f fd P__law_bent sp_bent := by
  refine F.ok sc__law_bent (fun vs H Q E h => ?_) (fun cdv A outer s H vs Q E hr h => ?_)
  · obtain ⟨a, R, m, rfl, _⟩ := h
    rfl
  · have nd := sc__law_bent.nd
    obtain ⟨a, R, m, rfl, hS, hne, hR, hRl, hm0, hm1, q⟩ := h
    refine ⟨_, (pss_cons (ps_set (i := 3) nd rfl (.inl rfl) (pe_op op_fdiv (pv 1) pe_int))
      (pss_cons (ps_set (i := 4) nd rfl (.inl rfl) (pe_op op_mod (pv 3) (pe_callB (cLen K) (by rfl) T.n_len (by decide +kernel) (pa_cons (pv 0) pa_nil))))
      (pss_cons (ps_set (i := 5) nd rfl (.inl rfl) (pe_ix (ixL K) (pv 0) (pv 4) (fun _ _ => rfl)))
      (pss_cons (ps_set (i := 6) nd rfl (.inl rfl) (pe_op op_mod (pe_op op_fdiv (pv 3) pe_int) (pe_op op_add (pe_callB call_len_str (by rfl) T.n_len (by decide +kernel) (pa_cons (pv 5) pa_nil)) pe_int)))
      (pss_cons (ps_set (i := 7) nd rfl (.inl rfl) (pe_ix ix_str (pv 2) (pe_op op_mod (pe_op op_fdiv (pv 3) pe_int) (pe_callB call_len_str (by rfl) T.n_len (by decide +kernel) (pa_cons (pv 2) pa_nil))) (fun _ _ => rfl)))
      (pss_cons (ps_set (i := 8) nd rfl (.inl rfl) (pe_op op_mod (pv 1) pe_int))
      (pss_cons (ps_if (pt_cmpR op_lt (pv 8) pe_int (nomark _))
        (pss_one (ps_set (i := 5) nd rfl (.inl rfl) (pe_op op_add_str (pe_op op_add_str (pe_slice sl_str (pv 5) po_none (po_some (pv 6))) (pv 7)) (pe_slice sl_str (pv 5) (po_some (pv 6)) po_none))))
        (pss_one (ps_if (pt_cmpR op_lt (pv 8) pe_int (nomark _))
          (pss_one (ps_set (i := 5) nd rfl (.inl rfl) (pe_op op_add_str (pe_op op_add_str (pe_slice sl_str (pv 5) po_none (po_some (pv 6))) (pv 7)) (pe_slice sl_str (pv 5) (po_some (pe_op op_add (pv 6) pe_int)) po_none))))
          (pss_one (ps_if (pt_cmpR op_eq (pv 8) pe_int (nomark _))
            (pss_one (ps_set (i := 5) nd rfl (.inl rfl) (pe_op op_add_str (pe_slice sl_str (pv 5) po_none (po_some (pv 6))) (pe_slice sl_str (pv 5) (po_some (pe_op op_add (pv 6) pe_int)) po_none))))
            (pss_one (ps_if (pt_cmpR op_eq (pv 8) pe_int (nomark _))
              (pss_one (ps_set (i := 5) nd rfl (.inl rfl) (pe_slice sl_str (pv 5) po_none (po_some (pv 6)))))
              (pss_one (ps_if (pt_cmpR op_eq (pv 8) pe_int (nomark _))
                (pss_one (ps_set (i := 5) nd rfl (.inl rfl) (pe_op op_add_str (pv 5) (pe_op op_mul_str (pv 7) (pe_ix (ixL K) (pe_lst (pa_cons (pe_op op_sub pe_int (pe_callB call_len_str (by rfl) T.n_len (by decide +kernel) (pa_cons (pv 5) pa_nil))) (pa_cons (pe_op op_sub pe_int (pe_callB call_len_str (by rfl) T.n_len (by decide +kernel) (pa_cons (pv 5) pa_nil))) (pa_cons pe_int (pa_cons pe_int pa_nil))))) (pe_op op_mod (pe_op op_fdiv (pv 3) pe_int) pe_int) (fun _ _ => rfl))))))
                (pss_one (ps_if (pt_cmpR op_eq (pv 8) pe_int (nomark _))
                  (pss_one (ps_ret (pe_op op_cat (pe_slice (slL K) (pv 0) po_none (po_some (pv 4))) (pe_slice (slL K) (pv 0) (po_some (pe_op op_add (pv 4) pe_int)) po_none))))
                  (pss_one (ps_if (pt_cmpR op_eq (pv 8) pe_int (nomark _))
                    (pss_one (ps_ret (pe_op op_cat (pe_slice (slL K) (pv 0) po_none (po_some (pe_op op_add (pv 4) pe_int))) (pe_slice (slL K) (pv 0) (po_some (pv 4)) po_none))))
                    (pss_one (ps_ret (pe_op op_cat (pe_op op_cat (pe_slice (slL K) (pv 0) po_none (po_some (pv 4))) (pe_lst (pa_cons (pe_slice sl_str (pv 5) po_none (po_some (pv 6))) (pa_cons (pe_slice sl_str (pv 5) (po_some (pv 6)) po_none) pa_nil)))) (pe_slice (slL K) (pv 0) (po_some (pe_op op_add (pv 4) pe_int)) po_none)))))))))))))))))
      (pss_one (ps_ret (pe_op op_cat (pe_op op_cat (pe_slice (slL K) (pv 0) po_none (po_some (pv 4))) (pe_lst (pa_cons (pv 5) pa_nil))) (pe_slice (slL K) (pv 0) (po_some (pe_op op_add (pv 4) pe_int)) po_none))))))))))), ?_⟩
    have hRm : (R.map V.str).length = R.length := List.length_map ..
    have hpos : 0 < R.length := List.length_pos_iff.mpr hne
    have hSq : SqL K H a (R.map V.str) := .inl (.inl hS)
    have hML : MENU.length ≤ sizeLine := by rw [menu_len, sizeLine_eq]; decide
    obtain ⟨t, ht, htl⟩ : ∃ t : Nat, m / 11 % (R.length : Nat) = (t : Int) ∧ t < R.length := ⟨(m / 11 % (R.length : Nat)).toNat, by
      have := Int.emod_nonneg (m / 11) (show ((R.length : Nat) : Int) ≠ 0 by omega)
      omega, by
      have := Int.emod_lt_of_pos (m / 11) (show (0 : Int) < ((R.length : Nat) : Int) by omega)
      omega⟩
    refine ⟨.int m, rfl, m, 11, rfl, rfl, ⟨by decide, by decide⟩, .int (m / 11), rfl, .ref a, rfl, a, _, rfl, .inl hSq, m / 11, ((R.map V.str).length : Nat), rfl, rfl, by rw [hRm]; show (0 : Int) < _; omega, .ref a, rfl, .int (m / 11 % ((R.map V.str).length : Nat)), rfl, a, _, _, .str (R[t]), rfl, rfl, hSq, by rw [hRm, ht]; exact atI_nat (by rw [List.getElem?_map, List.getElem?_eq_getElem htl]; rfl), ?_⟩
    have hz := hR R[t] (List.getElem_mem htl)
    obtain ⟨c, hc, ec⟩ := menu_at (n := m / 11 / 4000 % 75) (Int.emod_nonneg _ (by decide)) (Int.emod_lt_of_pos _ (by decide))
    generalize R[t] = z at *
    obtain ⟨p, hp, hpl⟩ : ∃ p : Nat, m / 11 / 64 % ((z.length : Nat) + 1) = (p : Int) ∧ p ≤ z.length := ⟨(m / 11 / 64 % ((z.length : Nat) + 1)).toNat, by
      have := Int.emod_nonneg (m / 11 / 64) (show ((z.length : Nat) : Int) + 1 ≠ 0 by omega)
      omega, by
      have := Int.emod_lt_of_pos (m / 11 / 64) (show (0 : Int) < ((z.length : Nat) : Int) + 1 by omega)
      omega⟩
    have hzS : z.length ≤ sizeLine := by rw [sizeLine_eq]; omega
    refine ⟨.int (m / 11), rfl, m / 11, 64, rfl, rfl, ⟨by decide, by decide⟩, .str z, rfl, z, rfl, hzS, _, 1, rfl, rfl, _, _, rfl, rfl, by show (0 : Int) < _ + 1; omega, .str MENU, rfl, .int (m / 11), rfl, m / 11, 4000, rfl, rfl, ⟨by decide, by decide⟩, .str MENU, rfl, MENU, rfl, hML, _, (MENU.length : Nat), rfl, rfl, by rw [menu_len]; show (0 : Int) < ((75 : Nat) : Int); decide, MENU, m / 11 / 4000 % (MENU.length : Nat), c, rfl, rfl, hML, by rw [menu_len]; exact ec, .int m, rfl, m, 11, rfl, rfl, (show (0 : Int) < 11 by decide), ?_⟩
    dsimp only [gName]
    rw [hRm, ht, hp]
    refine ifK fun D' hD => ?_
    show tIfS _ _ _ D' [some (.ref a), some (.int m), some (.str MENU), some (.int (m / 11)), some (.int (t : Nat)), some (.str z), some (.int (p : Nat)), some (.str ⟨#[c]⟩), some (.int (m % 11))] H
    have fin : ∀ (H4 : Hp) (x : Str), Same H H4 → x.length ≤ 63 → (∀ c ∈ TL.tl x, c < 128) → D'.nx [some (.ref a), some (.int m), some (.str MENU), some (.int (m / 11)), some (.int (t : Nat)), some (.str x), some (.int (p : Nat)), some (.str ⟨#[c]⟩), some (.int (m % 11))] H4 := fun H4 x s4 hx hlo => by
      subst hD
      refine ⟨.ref a, rfl, .int (t : Nat), rfl, _, rfl, a, _, rfl, .inl (.inl (s4 _ _ hS)), fun g ng => ⟨.str x, rfl, Nat.le_of_lt (small1000 (show 1 ≤ 1000 by decide)), fun g2 ng2 => ?_⟩⟩
      have s5 := same_upd (o := .lst (cutV (R.map V.str) none (some (t : Nat)))) ng
      have s6 := same_upd (o := .lst [V.str x]) ng2
      rw [cutV_to] at *
      refine ⟨g, g2, _, _, rfl, rfl, s6 _ _ upd_same, upd_same, by rw [List.length_take, List.length_singleton, hRm, sizeLine_eq]; omega, fun g3 ng3 => ?_⟩
      have s7 := same_upd (o := .lst ((R.map V.str).take t ++ [V.str x])) ng3
      refine ⟨.ref a, rfl, .int (t : Nat), rfl, _, 1, rfl, rfl, _, rfl, a, _, rfl, .inl (.inl (s7 _ _ (s6 _ _ (s5 _ _ (s4 _ _ hS))))), fun g4 ng4 => ?_⟩
      have s8 := same_upd (o := .lst (cutV (R.map V.str) (some ((t : Nat) + 1 : Int)) none)) ng4
      rw [show ((t : Nat) : Int) + 1 = ((t + 1 : Nat) : Int) by omega, cutV_from] at *
      refine ⟨g3, g4, _, _, rfl, rfl, s8 _ _ upd_same, upd_same, by rw [List.length_append, List.length_take, List.length_singleton, List.length_drop, hRm, sizeLine_eq]; omega, fun g5 ng5 => ?_⟩
      have e : (R.map V.str).take t ++ [V.str x] ++ (R.map V.str).drop (t + 1) = (R.take t ++ [x] ++ R.drop (t + 1)).map V.str := by rw [List.map_append, List.map_append, List.map_take, List.map_drop]; rfl
      have sA := s4.trans (s5.trans (s6.trans (s7.trans s8)))
      rw [e]
      refine q _ ?_ ?_ _ g5 (sA.trans (same_upd ng5)) (sA.free ng5) upd_same
      · refine RowsN.app (RowsN.app ((hR.mono (by decide)).sub fun y hy => List.mem_of_mem_take hy) (.one hx hlo)) ((hR.mono (by decide)).sub fun y hy => List.mem_of_mem_drop hy)
      · rw [List.length_append, List.length_append, List.length_take, List.length_drop, List.length_singleton]
        omega
    have T1 := cutTo_len z p
    have T2 := cutFrom_len z p
    have T3 := cutFrom_len z (p + 1)
    have L1 := low_cut hz.2 none (some (p : Int))
    have L2' := low_cut hz.2 (some (p : Int)) none
    have L3 := low_cut hz.2 (some ((p + 1 : Nat) : Int)) none
    have hcl : (⟨#[c]⟩ : Str).length = 1 := rfl
    have hclo : ∀ d ∈ TL.tl ⟨#[c]⟩, d < 128 := fun d hd => by rw [List.mem_singleton.mp (show d ∈ [c] from hd)]; exact hc
    have epl : ((p : Nat) : Int) + 1 = ((p + 1 : Nat) : Int) := by omega
    have hz1 := hz.1
    have eqT : ∀ (w : Int) (k : Bool → Hp → Prop) (G : Hp), TellB G (decide (m % 11 = w)) k → tTest (tOp rEq (tVar 8) (tC (.int w))) [some (.ref a), some (.int m), some (.str MENU), some (.int (m / 11)), some (.int (t : Nat)), some (.str z), some (.int (p : Nat)), some (.str ⟨#[c]⟩), some (.int (m % 11))] G k := fun w k G q1 => ⟨.int (m % 11), rfl, rfl, _, rfl, TellB.eq (vint_dec _ _) q1 _ (Same.refl _)⟩
    refine ifT (decide (m % 11 < 2)) (fun k q1 => ⟨.int (m % 11), rfl, _, 2, rfl, rfl, _, rfl, q1 _ (Same.refl _)⟩) (fun _ H1 s1 => ?_) (fun _ H1 s1 => ifT (decide (m % 11 < 5)) (fun k q1 => ⟨.int (m % 11), rfl, _, 5, rfl, rfl, _, rfl, q1 _ (Same.refl _)⟩) (fun _ H2 s2 => ?_)
      (fun _ H2 s2 => ifT (decide (m % 11 = 5)) (fun k q1 => eqT 5 k _ q1) (fun _ H3 s3 => ?_) (fun _ H3 s3 => ifT (decide (m % 11 = 6)) (fun k q1 => eqT 6 k _ q1) (fun _ H4 s4 => ?_)
      (fun _ H4 s4 => ifT (decide (m % 11 = 7)) (fun k q1 => eqT 7 k _ q1) (fun _ H5 s5 => ?_) (fun _ H5 s5 => ifT (decide (m % 11 = 8)) (fun k q1 => eqT 8 k _ q1) (fun _ H6 s6 => ?_) (fun _ H6 s6 => ifT (decide (m % 11 = 9)) (fun k q1 => eqT 9 k _ q1) (fun _ H7 s7 => ?_) (fun _ H7 s7 => ?_)))))))
    · refine ⟨.str z, rfl, .int (p : Nat), rfl, _, rfl, z, rfl, hzS, .str ⟨#[c]⟩, rfl, _, ⟨#[c]⟩, rfl, rfl, by rw [T1, hcl, sizeLine_eq]; omega, .str z, rfl, .int (p : Nat), rfl, _, rfl, z, rfl, hzS, _, _, rfl, rfl, by rw [len_app, T1, T2, hcl, sizeLine_eq]; omega, ?_⟩
      exact fin H1 _ s1 (by rw [len_app, len_app, T1, T2, hcl]; omega) (low_app (low_app L1 hclo) L2')
    · refine ⟨.str z, rfl, .int (p : Nat), rfl, _, rfl, z, rfl, hzS, .str ⟨#[c]⟩, rfl, _, ⟨#[c]⟩, rfl, rfl, by rw [T1, hcl, sizeLine_eq]; omega, .str z, rfl, .int (p : Nat), rfl, _, 1, rfl, rfl, _, rfl, z, rfl, hzS, _, _, rfl, rfl, by rw [epl, len_app, T1, T3, hcl, sizeLine_eq]; omega, ?_⟩
      exact fin H2 (cutS z none (some (p : Nat)) ++ ⟨#[c]⟩ ++ cutS z (some ((p : Nat) + 1)) none) (s1.trans s2) (by rw [epl, len_app, len_app, T1, T3, hcl]; omega) (by rw [epl]; exact low_app (low_app L1 hclo) L3)
    · refine ⟨.str z, rfl, .int (p : Nat), rfl, _, rfl, z, rfl, hzS, .str z, rfl, .int (p : Nat), rfl, _, 1, rfl, rfl, _, rfl, z, rfl, hzS, _, _, rfl, rfl, by rw [epl, T1, T3, sizeLine_eq]; omega, ?_⟩
      exact fin H3 (cutS z none (some (p : Nat)) ++ cutS z (some ((p : Nat) + 1)) none) (s1.trans (s2.trans s3)) (by rw [epl, len_app, T1, T3]; omega) (by rw [epl]; exact low_app L1 L3)
    · refine ⟨.str z, rfl, .int (p : Nat), rfl, _, rfl, z, rfl, hzS, ?_⟩
      exact fin H4 _ (s1.trans (s2.trans (s3.trans s4))) (by rw [T1]; omega) L1
    · have hm3 : 0 ≤ m / 11 / 7 % 4 ∧ m / 11 / 7 % 4 < 4 := by omega
      obtain ⟨x, hx, ex⟩ := pickL [V.int (60 - (z.length : Nat)), .int (61 - (z.length : Nat)), .int 1, .int 2] (m / 11 / 7 % 4) hm3.1 (by show _ < (4 : Int); omega)
      obtain ⟨y, rfl, hy⟩ : ∃ y : Int, x = .int y ∧ (y ≤ 61 - (z.length : Nat) ∨ y ≤ 2) ∧ -1 ≤ y := by
        simp only [List.mem_cons, List.mem_nil_iff, or_false] at hx
        rcases hx with rfl | rfl | rfl | rfl <;> exact ⟨_, rfl, by omega, by omega⟩
      refine ⟨.str z, rfl, .str ⟨#[c]⟩, rfl, .str z, rfl, z, rfl, hzS, 60, _, rfl, rfl, .str z, rfl, z, rfl, hzS, 61, _, rfl, rfl, Nat.le_of_lt (small1000 (show 4 ≤ 1000 by decide)), fun g ng => ?_⟩
      refine ⟨.int (m / 11), rfl, m / 11, 7, rfl, rfl, ⟨by decide, by decide⟩, _, 4, rfl, rfl, (show (0 : Int) < 4 by decide), g, _, _, .int y, rfl, rfl, .inl (.inl upd_same), ex, ⟨#[c]⟩, y, rfl, rfl, by omega, by omega, by rw [hcl]; decide, z, _, rfl, rfl, by rw [repS_len, sizeLine_eq]; omega, ?_⟩
      exact fin _ (z ++ repS ⟨#[c]⟩ y) ((s1.trans (s2.trans (s3.trans (s4.trans s5)))).trans (same_upd ng)) (by rw [len_app, repS_len]; omega) (low_app hz.2 (rep_low hc _))
    · subst hD
      have sA := s1.trans (s2.trans (s3.trans (s4.trans (s5.trans s6))))
      refine ⟨.ref a, rfl, .int (t : Nat), rfl, _, rfl, a, _, rfl, .inl (.inl (sA _ _ hS)), fun g ng => ⟨.ref a, rfl, .int (t : Nat), rfl, _, 1, rfl, rfl, _, rfl, a, _, rfl, .inl (.inl (same_upd ng _ _ (sA _ _ hS))), fun g2 ng2 => ?_⟩⟩
      have s7 := same_upd (o := .lst (cutV (R.map V.str) none (some (t : Nat)))) ng
      have s8 := same_upd (o := .lst (cutV (R.map V.str) (some ((t : Nat) + 1 : Int)) none)) ng2
      rw [show ((t : Nat) : Int) + 1 = ((t + 1 : Nat) : Int) by omega, cutV_from] at *
      rw [cutV_to] at *
      refine ⟨g, g2, _, _, rfl, rfl, s8 _ _ upd_same, upd_same, by rw [List.length_take, List.length_drop, hRm, sizeLine_eq]; omega, fun g3 ng3 => ?_⟩
      have e : (R.map V.str).take t ++ (R.map V.str).drop (t + 1) = (R.take t ++ R.drop (t + 1)).map V.str := by rw [List.map_append, List.map_take, List.map_drop]
      have sB := sA.trans (s7.trans s8)
      rw [e]
      refine q _ ?_ ?_ _ g3 (sB.trans (same_upd ng3)) (sB.free ng3) upd_same
      · exact RowsN.app ((hR.mono (by decide)).sub fun y hy => List.mem_of_mem_take hy) ((hR.mono (by decide)).sub fun y hy => List.mem_of_mem_drop hy)
      · rw [List.length_append, List.length_take, List.length_drop]
        omega
    · subst hD
      have sA := s1.trans (s2.trans (s3.trans (s4.trans (s5.trans (s6.trans s7)))))
      refine ⟨.ref a, rfl, .int (t : Nat), rfl, _, 1, rfl, rfl, _, rfl, a, _, rfl, .inl (.inl (sA _ _ hS)), fun g ng => ⟨.ref a, rfl, .int (t : Nat), rfl, _, rfl, a, _, rfl, .inl (.inl (same_upd ng _ _ (sA _ _ hS))), fun g2 ng2 => ?_⟩⟩
      have s7 := same_upd (o := .lst (cutV (R.map V.str) none (some ((t : Nat) + 1 : Int)))) ng
      have s8 := same_upd (o := .lst (cutV (R.map V.str) (some (t : Nat)) none)) ng2
      rw [show ((t : Nat) : Int) + 1 = ((t + 1 : Nat) : Int) by omega, cutV_to] at *
      rw [cutV_from] at *
      refine ⟨g, g2, _, _, rfl, rfl, s8 _ _ upd_same, upd_same, by rw [List.length_take, List.length_drop, hRm, sizeLine_eq]; omega, fun g3 ng3 => ?_⟩
      have e : (R.map V.str).take (t + 1) ++ (R.map V.str).drop t = (R.take (t + 1) ++ R.drop t).map V.str := by rw [List.map_append, List.map_take, List.map_drop]
      have sB := sA.trans (s7.trans s8)
      rw [e]
      refine q _ ?_ ?_ _ g3 (sB.trans (same_upd ng3)) (sB.free ng3) upd_same
      · exact RowsN.app ((hR.mono (by decide)).sub fun y hy => List.mem_of_mem_take hy) ((hR.mono (by decide)).sub fun y hy => List.mem_of_mem_drop hy)
      · rw [List.length_append, List.length_take, List.length_drop]
        omega
    · subst hD
      have sA := s1.trans (s2.trans (s3.trans (s4.trans (s5.trans (s6.trans s7)))))
      refine ⟨.ref a, rfl, .int (t : Nat), rfl, _, rfl, a, _, rfl, .inl (.inl (sA _ _ hS)), fun g ng => ?_⟩
      refine ⟨.str z, rfl, .int (p : Nat), rfl, (p : Nat), rfl, ?_⟩
      refine ⟨z, rfl, hzS, .str z, rfl, .int (p : Nat), rfl, (p : Nat), rfl, ?_⟩
      refine ⟨z, rfl, hzS, Nat.le_of_lt (small1000 (show 2 ≤ 1000 by decide)), fun g2 ng2 => ?_⟩
      have s5 := same_upd (o := .lst (cutV (R.map V.str) none (some (t : Nat)))) ng
      have s6 := same_upd (o := .lst [V.str (cutS z none (some (p : Nat))), .str (cutS z (some (p : Nat)) none)]) ng2
      rw [cutV_to] at *
      refine ⟨g, g2, _, _, rfl, rfl, s6 _ _ upd_same, upd_same, by rw [List.length_take, hRm, sizeLine_eq]; show _ + 2 ≤ _; omega, fun g3 ng3 => ?_⟩
      have s7 := same_upd (o := .lst ((R.map V.str).take t ++ [V.str (cutS z none (some (p : Nat))), .str (cutS z (some (p : Nat)) none)])) ng3
      refine ⟨.ref a, rfl, .int (t : Nat), rfl, _, 1, rfl, rfl, _, rfl, a, _, rfl, .inl (.inl (s7 _ _ (s6 _ _ (s5 _ _ (sA _ _ hS))))), fun g4 ng4 => ?_⟩
      have s8 := same_upd (o := .lst (cutV (R.map V.str) (some ((t : Nat) + 1 : Int)) none)) ng4
      rw [show ((t : Nat) : Int) + 1 = ((t + 1 : Nat) : Int) by omega, cutV_from] at *
      refine ⟨g3, g4, _, _, rfl, rfl, s8 _ _ upd_same, upd_same, by rw [List.length_append, List.length_take, List.length_drop, hRm, sizeLine_eq]; show _ + 2 + _ ≤ _; omega, fun g5 ng5 => ?_⟩
      have e : (R.map V.str).take t ++ [V.str (cutS z none (some (p : Nat))), .str (cutS z (some (p : Nat)) none)] ++ (R.map V.str).drop (t + 1) = (R.take t ++ ([cutS z none (some (p : Nat))] ++ [cutS z (some (p : Nat)) none]) ++ R.drop (t + 1)).map V.str := by rw [List.map_append, List.map_append, List.map_take, List.map_drop]; rfl
      have sB := sA.trans (s5.trans (s6.trans (s7.trans s8)))
      have o1 : RowsN 63 [cutS z none (some ((p : Nat) : Int))] := RowsN.one (by rw [T1]; omega) L1
      have o2 : RowsN 63 [cutS z (some ((p : Nat) : Int)) none] := RowsN.one (by rw [T2]; omega) L2'
      have hTwo := RowsN.app o1 o2
      rw [e]
      refine q _ ?_ ?_ _ g5 (sB.trans (same_upd ng5)) (sB.free ng5) upd_same
      · refine RowsN.app (RowsN.app ((hR.mono (by decide)).sub fun y hy => List.mem_of_mem_take hy) hTwo) ((hR.mono (by decide)).sub fun y hy => List.mem_of_mem_drop hy)
      · rw [List.length_append, List.length_append, List.length_append, List.length_take, List.length_drop, List.length_singleton, List.length_singleton]
        omega
end
end K06

namespace K06
open PySem PySem.Spec PyProof.Rows L2 LH
section
variable {P : Program} {w : World} {K : PySem.W.Frag} {mg : Str → Option Value} {base : Heap} {tk : Nat → Tok} {ca : Nat → Addr}
theorem firstOdd_app {H : Hp} : ∀ (R : List Str) (n : Nat) (v : V) (r : List V), Odd H v → firstOdd n (R.map V.str ++ v :: r) = n + R.length + 1
  | [], n, v, r, h => firstOdd_odd h
  | x :: R, n, v, r, h => by
    show firstOdd (n + 1) (R.map V.str ++ v :: r) = _
    rw [firstOdd_app R (n + 1) v r h, List.length_cons]
    omega
/-! ### _law_odd_rows -/
abbrev s__law_odd_rows : Stmt := topS 51
abbrev N__law_odd_rows : List Str := ["_law_rows", "_law_number_here", "_law_odd", "_law_at", "_law_found"]
abbrev P__law_odd_rows : List Str := ["_law_rows", "_law_number_here"]
theorem sc__law_odd_rows : FnScope N__law_odd_rows ["_law_rows", "_law_number_here"] (defScope s__law_odd_rows) := ⟨rfl, rfl, rfl, by decide +kernel, rfl, by decide +kernel, by decide +kernel⟩
/-- a thing that is no list, or a list with something in it that is no text; and the row at which it is refused -/
def OddRow (K : PySem.W.Frag) (H : Hp) (n : Nat) (x : V) (l : Int) : Prop :=
  (NoList K H x ∧ l = 1) ∨ ∃ (b : Addr) (xs : List V), x = .ref b ∧ H b = some (.lst xs) ∧ xs.length ≤ n ∧ (∀ v ∈ xs, (∃ z, v = .str z) ∨ Odd H v) ∧ 0 < firstOdd 0 xs ∧ l = (firstOdd 0 xs : Nat)
def sp_odd (K : PySem.W.Frag) : Sp := fun vs H Q _ => ∃ (a : Addr) (R : List Str) (m : Int), vs = [.ref a, .int m] ∧ H a = some (.lst (R.map V.str)) ∧ R.length ≤ 1000 ∧ 0 ≤ m ∧
  ∀ H' t x l, Same H H' → H t = none → H' t = some (.tup [x, .int l]) → OddRow K H' (R.length + 2) x l → Q (.ref t) H'
theorem ok_odd {f : Addr} {fd : FuncData} {k : Nat} (F : Fun K "_law_odd_rows" "_law_odd_rows" s__law_odd_rows f fd) (T : Tx mg tk) : FnOk P w K mg base CX0 (k + 1) f fd P__law_odd_rows (sp_odd K) := by
  refine F.ok sc__law_odd_rows (fun vs H Q E h => ?_) (fun cdv A outer s H vs Q E hr h => ?_)
  · obtain ⟨a, R, m, rfl, _⟩ := h
    rfl
  · have nd := sc__law_odd_rows.nd
    obtain ⟨a, R, m, rfl, hS, hRl, hm0, q⟩ := h
    refine ⟨_, (pss_cons (ps_if (pt_cmpR op_eq (pe_op op_mod (pv 1) pe_int) pe_int (nomark _))
        (pss_one (ps_ret (pe_tup (pa_cons (pe_ix (ixL K) (pe_lst (pa_cons (pe_callTy call_tuple_of (by rfl) T.n_tuple (by decide +kernel) (pa_cons (pv 0) pa_nil)) (pa_cons pe_non (pa_cons pe_str (pa_cons pe_int (pa_cons pe_dnewK (pa_cons pe_bl pa_nil))))))) (pe_op op_mod (pe_op op_fdiv (pv 1) pe_int) pe_int) (fun _ _ => rfl)) (pa_cons pe_int pa_nil)))))
        pss_nil)
      (pss_cons (ps_set (i := 2) nd rfl (.inl rfl) (pe_lst (pa_cons pe_non (pa_cons pe_int (pa_cons pe_bl (pa_cons (pe_lst (pa_cons pe_str pa_nil)) (pa_cons (pe_tup (pa_cons pe_str pa_nil)) (pa_cons pe_dnewK pa_nil))))))))
      (pss_cons (ps_set (i := 3) nd rfl (.inl rfl) (pe_op op_mod (pe_op op_fdiv (pv 1) pe_int) (pe_op op_add (pe_callB (cLen K) (by rfl) T.n_len (by decide +kernel) (pa_cons (pv 0) pa_nil)) pe_int)))
      (pss_cons (ps_set (i := 4) nd rfl (.inl rfl) (pe_op op_cat (pe_op op_cat (pe_slice (slL K) (pv 0) po_none (po_some (pv 3))) (pe_lst (pa_cons (pe_ix (ixL K) (pv 2) (pe_op op_mod (pe_op op_fdiv (pv 1) pe_int) pe_int) (fun _ _ => rfl)) pa_nil))) (pe_slice (slL K) (pv 0) (po_some (pv 3)) po_none)))
      (pss_one (ps_ret (pe_tup (pa_cons (pe_op op_cat (pv 4) (pe_slice (slL K) (pv 2) po_none (po_some (pe_op op_sub (pe_op op_mod (pv 1) pe_int) pe_int)))) (pa_cons (pe_op op_add (pv 3) pe_int) pa_nil))))))))), ?_⟩
    have hRm : (R.map V.str).length = R.length := List.length_map ..
    have hm6 : 0 ≤ m / 3 % 6 ∧ m / 3 % 6 < 6 := by omega
    refine ifT (decide (m % 3 = 0)) (fun k q1 => ⟨.int m, rfl, m, 3, rfl, rfl, (show (0 : Int) < 3 by decide), rfl, _, rfl, TellB.eq (vint_dec _ _) q1 _ (Same.refl _)⟩) (fun _ H1 s1 => ?_) (fun hc H1 s1 => ?_)
    · refine ⟨.ref a, rfl, a, _, rfl, .inl ⟨.inl (.inl (s1 _ _ hS)), fun p1 np1 => ?_⟩⟩
      have t1 := same_upd (o := .tup (R.map V.str)) np1
      refine fun p2 np2 => ⟨Nat.le_of_lt (small1000 (show 6 ≤ 1000 by decide)), fun p3 np3 => ?_⟩
      have t2 := same_upd (o := .dK []) np2
      have t3 := same_upd (o := .lst [.ref p1, .non, .str (Str.ofString "ab"), .int 5, .ref p2, .bl true]) np3
      have a1 := t3 _ _ (t2 p1 _ upd_same)
      have a2 := t3 p2 _ upd_same
      have a3 : upd _ p3 (.lst [V.ref p1, .non, .str (Str.ofString "ab"), .int 5, .ref p2, .bl true]) p3 = some _ := upd_same (H := upd (upd H1 p1 (.tup (R.map V.str))) p2 (.dK []))
      have sF := s1.trans (t1.trans (t2.trans t3))
      generalize hF : upd _ p3 (.lst [V.ref p1, .non, .str (Str.ofString "ab"), .int 5, .ref p2, .bl true]) = HF at *
      obtain ⟨x, hx, ex⟩ := pickL [V.ref p1, .non, .str (Str.ofString "ab"), .int 5, .ref p2, .bl true] (m / 3 % 6) hm6.1 (by show _ < (6 : Int); omega)
      have hN : NoList K HF x := by
        simp only [List.mem_cons, List.mem_nil_iff, or_false] at hx
        rcases hx with rfl | rfl | rfl | rfl | rfl | rfl
        · exact ⟨_, .base (.tup a1), kit_ty (by decide +kernel)⟩
        · exact ⟨_, .base .non, kit_ty (by decide +kernel)⟩
        · exact ⟨_, .base (.str _), kit_ty (by decide +kernel)⟩
        · exact ⟨_, .base (.int _), kit_ty (by decide +kernel)⟩
        · exact ⟨_, .base (.dK a2), kit_ty (by decide +kernel)⟩
        · exact ⟨_, .base (.bl _), kit_ty (by decide +kernel)⟩
      refine ⟨.int m, rfl, m, 3, rfl, rfl, ⟨by decide, by decide⟩, _, 6, rfl, rfl, (show (0 : Int) < 6 by decide), p3, _, _, x, rfl, rfl, .inl (.inl a3), ex, Nat.le_of_lt (small1000 (show 2 ≤ 1000 by decide)), fun t nt => ?_⟩
      have t4 := same_upd (o := .tup [x, .int 1]) nt
      refine q _ t x 1 (sF.trans t4) (sF.free nt) upd_same (.inl ⟨?_, rfl⟩)
      simp only [List.mem_cons, List.mem_nil_iff, or_false] at hx
      rcases hx with rfl | rfl | rfl | rfl | rfl | rfl
      · exact ⟨_, .base (.tup (t4 _ _ a1)), kit_ty (by decide +kernel)⟩
      · exact ⟨_, .base .non, kit_ty (by decide +kernel)⟩
      · exact ⟨_, .base (.str _), kit_ty (by decide +kernel)⟩
      · exact ⟨_, .base (.int _), kit_ty (by decide +kernel)⟩
      · exact ⟨_, .base (.dK (t4 _ _ a2)), kit_ty (by decide +kernel)⟩
      · exact ⟨_, .base (.bl _), kit_ty (by decide +kernel)⟩
    · have hm3 : ¬ m % 3 = 0 := of_decide_eq_false hc
      refine ⟨Nat.le_of_lt (small1000 (show 1 ≤ 1000 by decide)), fun p1 np1 => ⟨Nat.le_of_lt (small1000 (show 1 ≤ 1000 by decide)), fun p2 np2 => fun p3 np3 => ⟨Nat.le_of_lt (small1000 (show 6 ≤ 1000 by decide)), fun p4 np4 => ?_⟩⟩⟩
      have t1 := same_upd (o := .lst [V.str (Str.ofString "a")]) np1
      have t2 := same_upd (o := .tup [V.str (Str.ofString "a")]) np2
      have t3 := same_upd (o := .dK []) np3
      have t4 := same_upd (o := .lst [.non, .int 5, .bl true, .ref p1, .ref p2, .ref p3]) np4
      have a1 := t4 _ _ (t3 _ _ (t2 p1 _ upd_same))
      have a2 := t4 _ _ (t3 p2 _ upd_same)
      have a3 := t4 p3 _ upd_same
      have sF := s1.trans (t1.trans (t2.trans (t3.trans t4)))
      have a4 : upd _ p4 (.lst [V.non, .int 5, .bl true, .ref p1, .ref p2, .ref p3]) p4 = some _ := upd_same (H := upd (upd (upd H1 p1 (.lst [V.str (Str.ofString "a")])) p2 (.tup [V.str (Str.ofString "a")])) p3 (.dK []))
      generalize hF : upd _ p4 (.lst [V.non, .int 5, .bl true, .ref p1, .ref p2, .ref p3]) = HF at *
      obtain ⟨x, hx, ex⟩ := pickL [V.non, .int 5, .bl true, .ref p1, .ref p2, .ref p3] (m / 3 % 6) hm6.1 (by show _ < (6 : Int); omega)
      have oddL : ∀ y ∈ [V.non, .int 5, .bl true, .ref p1, .ref p2, .ref p3], Odd HF y := fun y hy => by
        simp only [List.mem_cons, List.mem_nil_iff, or_false] at hy
        rcases hy with rfl | rfl | rfl | rfl | rfl | rfl
        · exact .inl rfl
        · exact .inr (.inl ⟨_, rfl⟩)
        · exact .inr (.inr (.inl ⟨_, rfl⟩))
        · exact .inr (.inr (.inr ⟨_, rfl, .inl ⟨_, a1⟩⟩))
        · exact .inr (.inr (.inr ⟨_, rfl, .inr (.inl ⟨_, a2⟩)⟩))
        · exact .inr (.inr (.inr ⟨_, rfl, .inr (.inr ⟨_, a3⟩)⟩))
      obtain ⟨t, ht, htl⟩ : ∃ t : Nat, m / 18 % ((R.length : Nat) + 1) = (t : Int) ∧ t ≤ R.length := ⟨(m / 18 % ((R.length : Nat) + 1)).toNat, by
        have := Int.emod_nonneg (m / 18) (show ((R.length : Nat) : Int) + 1 ≠ 0 by omega)
        omega, by
        have := Int.emod_lt_of_pos (m / 18) (show (0 : Int) < ((R.length : Nat) : Int) + 1 by omega)
        omega⟩
      refine ⟨.int m, rfl, m, 18, rfl, rfl, ⟨by decide, by decide⟩, .ref a, rfl, a, _, rfl, .inl (.inl (.inl (sF _ _ hS))), _, 1, rfl, rfl, _, _, rfl, rfl, by show (0 : Int) < _ + 1; omega, ?_⟩
      dsimp only [gName]
      rw [hRm, ht]
      refine ⟨.ref a, rfl, .int (t : Nat), rfl, _, rfl, a, _, rfl, .inl (.inl (sF _ _ hS)), fun g1 ng1 => ?_⟩
      have u1 := same_upd (o := .lst (cutV (R.map V.str) none (some (t : Nat)))) ng1
      rw [cutV_to] at *
      refine ⟨.ref p4, rfl, .int m, rfl, m, 3, rfl, rfl, ⟨by decide, by decide⟩, _, 6, rfl, rfl, (show (0 : Int) < 6 by decide), p4, _, _, x, rfl, rfl, .inl (.inl (u1 _ _ a4)), ex, Nat.le_of_lt (small1000 (show 1 ≤ 1000 by decide)), fun g2 ng2 => ?_⟩
      have u2 := same_upd (o := .lst [x]) ng2
      refine ⟨g1, g2, _, _, rfl, rfl, u2 _ _ upd_same, upd_same, by rw [List.length_take, List.length_singleton, hRm, sizeLine_eq]; omega, fun g3 ng3 => ?_⟩
      have u3 := same_upd (o := .lst ((R.map V.str).take t ++ [x])) ng3
      refine ⟨.ref a, rfl, .int (t : Nat), rfl, _, rfl, a, _, rfl, .inl (.inl (u3 _ _ (u2 _ _ (u1 _ _ (sF _ _ hS))))), fun g4 ng4 => ?_⟩
      have u4 := same_upd (o := .lst (cutV (R.map V.str) (some (t : Nat)) none)) ng4
      rw [cutV_from] at *
      refine ⟨g3, g4, _, _, rfl, rfl, u4 _ _ upd_same, upd_same, by rw [List.length_append, List.length_take, List.length_singleton, List.length_drop, hRm, sizeLine_eq]; omega, fun g5 ng5 => ?_⟩
      have u5 := same_upd (o := .lst ((R.map V.str).take t ++ [x] ++ (R.map V.str).drop t)) ng5
      have hlt : ((R.map V.str).take t).length = t := by rw [List.length_take, hRm]; omega
      obtain ⟨j, hj, hj1⟩ : ∃ j : Nat, m % 3 - 1 = (j : Int) ∧ j ≤ 1 := ⟨(m % 3 - 1).toNat, by omega, by omega⟩
      refine ⟨.ref g5, rfl, .ref p4, rfl, .int m, rfl, m, 3, rfl, rfl, (show (0 : Int) < 3 by decide), _, 1, rfl, rfl, _, rfl, p4, _, rfl, .inl (.inl (u5 _ _ (u4 _ _ (u3 _ _ (u2 _ _ (u1 _ _ a4)))))), fun g6 ng6 => ?_⟩
      have u6 := same_upd (o := .lst (cutV [V.non, .int 5, .bl true, .ref p1, .ref p2, .ref p3] none (some (m % 3 - 1)))) ng6
      rw [hj, cutV_to] at *
      have hj6 : (List.take j [V.non, .int 5, .bl true, .ref p1, .ref p2, .ref p3]).length ≤ 1 := by
        rw [List.length_take]
        show min j 6 ≤ 1
        omega
      refine ⟨g5, g6, _, _, rfl, rfl, u6 _ _ upd_same, upd_same, by rw [List.length_append, List.length_append, hlt, List.length_singleton, List.length_drop, hRm, sizeLine_eq]; omega, fun g7 ng7 => ?_⟩
      have u7 := same_upd (o := .lst ((R.map V.str).take t ++ [x] ++ (R.map V.str).drop t ++ List.take j [V.non, .int 5, .bl true, .ref p1, .ref p2, .ref p3])) ng7
      refine ⟨.int (t : Nat), rfl, _, 1, rfl, rfl, Nat.le_of_lt (small1000 (show 2 ≤ 1000 by decide)), fun g8 ng8 => ?_⟩
      have u8 := same_upd (o := .tup [V.ref g7, .int ((t : Nat) + 1)]) ng8
      have sG := u1.trans (u2.trans (u3.trans (u4.trans (u5.trans (u6.trans (u7.trans u8))))))
      have sB := sF.trans (u1.trans (u2.trans (u3.trans (u4.trans (u5.trans (u6.trans u7))))))
      have e : (R.map V.str).take t ++ [x] ++ (R.map V.str).drop t ++ List.take j [V.non, .int 5, .bl true, .ref p1, .ref p2, .ref p3] = (R.take t).map V.str ++ x :: ((R.map V.str).drop t ++ List.take j [V.non, .int 5, .bl true, .ref p1, .ref p2, .ref p3]) := by
        rw [List.map_take, List.append_assoc, List.append_assoc]
        rfl
      refine q _ g8 (.ref g7) ((t : Nat) + 1) (sF.trans sG) (sB.free ng8) upd_same (.inr ⟨g7, _, rfl, u8 _ _ upd_same, ?_, fun v hv => ?_, ?_, ?_⟩)
      · rw [List.length_append, List.length_append, List.length_append, hlt, List.length_singleton, List.length_drop, hRm]
        omega
      · rcases List.mem_append.mp hv with hv | hv
        · rcases List.mem_append.mp hv with hv | hv
          · rcases List.mem_append.mp hv with hv | hv
            · obtain ⟨z, _, rfl⟩ := List.mem_map.mp (List.mem_of_mem_take hv)
              exact .inl ⟨z, rfl⟩
            · rw [List.mem_singleton.mp hv]
              exact .inr ((oddL x hx).same sG)
          · obtain ⟨z, _, rfl⟩ := List.mem_map.mp (List.mem_of_mem_drop hv)
            exact .inl ⟨z, rfl⟩
        · exact .inr ((oddL v (List.mem_of_mem_take hv)).same sG)
      · rw [e, firstOdd_app _ 0 x _ (oddL x hx)]
        omega
      · rw [e, firstOdd_app _ 0 x _ (oddL x hx), List.length_take]
        omega
end
end K06

namespace K06
open PySem PySem.Spec PyProof.Rows L2 LH
section
variable {P : Program} {w : World} {K : PySem.W.Frag} {mg : Str → Option Value} {base : Heap} {tk : Nat → Tok} {ca : Nat → Addr}
theorem okS_of (x : Str) (h : (TL.tl x).all (fun c => decide (c < 1114112)) = true) : OkS x := fun c hc => of_decide_eq_true (List.all_eq_true.mp h c hc)
/-! ### the words of a refusal with row and place -/
def wrongD (l p : Int) : List PyData := [.str (Str.ofString "wrong"), .str (Str.ofString "sixty"), .str (Str.ofString "base"), .int l, .int p]
theorem dp_wrong {H : Hp} {a : Addr} {l p : Int} (e : H a = some (.lst (wrongV l p))) : Dp K H (.ref a) (.list (wrongD l p)) := .lst (.inl (.inl e)) (.cons (.str _) (.cons (.str _) (.cons (.str _) (.cons (.int _) (.cons (.int _) .nil)))))
theorem shaped_wrong (l p : Int) : SeqAt.shaped (.list (wrongD l p)) = true := by
  have h1 := strOk_of (Str.ofString "wrong") (okS_of _ (by decide +kernel))
  have h2 := strOk_of (Str.ofString "sixty") (okS_of _ (by decide +kernel))
  have h3 := strOk_of (Str.ofString "base") (okS_of _ (by decide +kernel))
  simp [SeqAt.shaped, wrongD, PyData.canLay0, PyData.canLayAll0, PyData.depth, PyData.depthAll, h1, h2, h3]
theorem eqv_wrong (l p : Int) : PyData.eqv (.list (wrongD l p)) (.list (wrongD l p)) = true := by
  simp [wrongD, PyData.eqv, PyData.eqvAll]
theorem dp_nbs {H : Hp} {a : Addr} {l : List Nat} (h : H a = some (.lst (nb l))) : Dp K H (.ref a) (.list ((l.map fun b => ((b : Nat) : Int)).map PyData.int)) := dp_ints (.inl (.inl (by rw [h]; unfold nb; rw [List.map_map]; rfl)))
/-! ### _law_whole -/
abbrev s__law_whole : Stmt := topS 37
abbrev N__law_whole : List Str := ["_law_found"]
abbrev P__law_whole : List Str := ["_law_found"]
theorem sc__law_whole : FnScope N__law_whole ["_law_found"] (defScope s__law_whole) := ⟨rfl, rfl, rfl, by decide +kernel, rfl, by decide +kernel, by decide +kernel⟩
def sp_whole : Sp := fun vs H Q _ => ∃ i : Int, vs = [.int i] ∧ Tell H (.bl true) Q
theorem ok_whole {f : Addr} {fd : FuncData} {k : Nat} (F : Fun K "_law_whole" "_law_whole" s__law_whole f fd) (T : Tx mg tk) : FnOk P w K mg base CX0 (k + 1) f fd P__law_whole sp_whole := by
  refine F.ok sc__law_whole (fun vs H Q E h => ?_) (fun cdv A outer s H vs Q E hr h => ?_)
  · obtain ⟨i, rfl, _⟩ := h
    rfl
  · have nd := sc__law_whole.nd
    obtain ⟨i, rfl, q⟩ := h
    refine ⟨_, (pss_one (ps_ret (pe_and (pe_callB (cIsi K) (by rfl) T.n_isinstance (by decide +kernel) (pa_cons (pv 0) (pa_cons (pe_bltn (v := .ty "int") (by rfl) T.n_int (by decide +kernel) rfl) pa_nil))) (pe_one (pe_not (pe_callB (cIsi K) (by rfl) T.n_isinstance (by decide +kernel) (pa_cons (pv 0) (pa_cons (pe_bltn (v := .ty "bool") (by rfl) T.n_bool (by decide +kernel) rfl) pa_nil)))))))), ?_⟩
    refine ⟨.int i, rfl, .int i, .ty "int", _, _, true, rfl, .ty _, .base (.int i), kit_ty (by decide +kernel), true, rfl, iteT ?_⟩
    exact ⟨.int i, rfl, .int i, .ty "bool", _, _, false, rfl, .ty _, .base (.int i), kit_ty (by decide +kernel), false, rfl, q _ (Same.refl _)⟩
/-! ### _law_right -/
abbrev s__law_right : Stmt := topS 50
abbrev N__law_right : List Str := ["_law_rows", "_law_wrong_here", "_law_handed", "_law_turn", "_law_found", "_law_one"]
abbrev P__law_right : List Str := ["_law_rows"]
theorem sc__law_right : FnScope N__law_right ["_law_rows"] (defScope s__law_right) := ⟨rfl, rfl, rfl, by decide +kernel, rfl, by decide +kernel, by decide +kernel⟩
def sp_right : Sp := fun vs H Q _ => ∃ (a : Addr) (R : List Str), vs = [.ref a] ∧ H a = some (.lst (R.map V.str)) ∧ RowsN 70 R ∧ R.length ≤ 1000 ∧ Tell H (.bl true) Q
theorem ok_right {f fW fT fR fI : Addr} {fd fdW fdT fdR fdI : FuncData} (F : Fun K "_law_right" "_law_right" s__law_right f fd) (T : Tx mg tk) (D__law_wrong : Def P w K mg base "_law_wrong" 4 fW fdW P__law_wrong sp_lwrong)
    (D__law_told : Def P w K mg base "_law_told" 7 fT fdT P__law_told (sp_toldW K)) (D__law_read : Def P w K mg base "_law_read" 2 fR fdR P__law_read sp_lread) (D__law_whole : Def P w K mg base "_law_whole" 1 fI fdI P__law_whole sp_whole) : FnOk P w K mg base CX0 8 f fd P__law_right sp_right := by
  refine F.ok sc__law_right (fun vs H Q E h => ?_) (fun cdv A outer s H vs Q E hr h => ?_)
  · obtain ⟨a, R, rfl, _⟩ := h
    rfl
  · have nd := sc__law_right.nd
    obtain ⟨a, R, rfl, hS, hR, hRl, q⟩ := h
    refine ⟨_, (pss_cons (ps_set (i := 1) nd rfl (.inl rfl) (pe_def D__law_wrong (hr.mono (by decide)) (pa_cons (pv 0) pa_nil)))
      (pss_cons (ps_set (i := 2) nd rfl (.inl rfl) (pe_callTy call_list_of (by rfl) T.n_list (by decide +kernel) (pa_cons (pv 0) pa_nil)))
      (pss_cons (ps_for PassesOwn.never rfl (pi_range1 (by rfl) T.n_range (pa_cons pe_int pa_nil)) (pg_name (i := 3) nd rfl (Or.inl rfl))
        (pss_cons (ps_set (i := 4) nd rfl (.inl rfl) (pe_def D__law_told (hr.mono (by decide)) (pa_cons (pv 2) pa_nil)))
        (pss_cons (ps_if (pt_cmpR (oNeD K hr.units) (pv 1) (pe_lst pa_nil) (nomark _))
          (pss_one (ps_if (pt_cmpR (oNeD K hr.units) (pv 4) (pe_op op_cat (pe_lst (pa_cons pe_str (pa_cons pe_str (pa_cons pe_str pa_nil)))) (pv 1)) (nomark _))
            (pss_one (ps_ret pe_bl))
            pss_nil))
          (pss_one (ps_if (PW.pt (pw_or (pt_not (pt_val (pe_callB (cIsi K) (by rfl) T.n_isinstance (by decide +kernel) (pa_cons (pv 4) (pa_cons (pe_bltn (v := .ty "list") (by rfl) T.n_list (by decide +kernel) rfl) pa_nil))))) (pw_or (pt_cmpR (oNeD K hr.units) (pv 4) (pe_def D__law_read (hr.mono (by decide)) (pa_cons (pv 0) pa_nil)) (nomark _)) (pw_or1 (pt_not (pt_val (pe_callB (cAll K) (by rfl) T.n_all (by decide +kernel) (pa_cons (pe_lc (own := [("_law_one", 5)]) (g := gName 5) (by rfl) nd (pi_list (pv 4)) (blkOk_by (N := N__law_right) (sc := defScope s__law_right) (by decide +kernel)) (fun _ _ _ _ _ => (pg_name (i := 5) nd rfl (Or.inl rfl))) (fun _ _ _ _ _ => pts_nil) (fun _ _ _ _ _ => (pe_def D__law_whole (hr.mono (by decide)) (pa_cons (pv 5) pa_nil)))) pa_nil))))))))
            (pss_one (ps_ret pe_bl))
            pss_nil)))
        (pss_cons (ps_if (pt_cmpR (oNeD K hr.units) (pv 2) (pv 0) (nomark _))
          (pss_one (ps_ret pe_bl))
          pss_nil)
        (pss_one (ps_expr (pe_bm PySem.F.plainAttrs_list PySem.F.slot_list_append PySem.F.type_list_append mt_append (pv 4) (pa_cons pe_int pa_nil))))))))
      (pss_one (ps_ret pe_bl))))), ?_⟩
    have okR := rows_ok hR
    have hlen : ∀ z ∈ R, z.length ≤ 1000 := fun z hz => by have := (hR z hz).1; omega
    have hRm : (R.map V.str).length = R.length := List.length_map ..
    refine ⟨.ref a, rfl, a, R, rfl, hS, by omega, hlen, fun H1 p0 s1 n0 e0 => ?_⟩
    refine ⟨.ref a, rfl, a, _, rfl, .inl (.inl (.inl (s1 _ _ hS))), fun p1 n1 => ?_⟩
    have s2 := same_upd (o := .lst (R.map V.str)) n1
    have sA := s1.trans s2
    have e0' := s2 _ _ e0
    have e1 : upd H1 p1 (.lst (R.map V.str)) p1 = some _ := upd_same (H := H1)
    generalize upd H1 p1 (.lst (R.map V.str)) = H2 at *
    refine ⟨2, rfl, by decide, by decide, for_range (n := 2) (fun i σ H' => ∃ (y3 y4 : Option V), σ = [some (.ref a), some (.ref p0), some (.ref p1), y3, y4, none] ∧ Same H2 H') ⟨none, none, rfl, Same.refl _⟩ (fun i σ H3 hi hP => ?_) (fun σ H3 hP => ?_)⟩
    · obtain ⟨y3, y4, rfl, sm⟩ := hP
      have hfst : ∀ l p : Nat, (l, p) = lineP (wrongF standB endB 0 R) → FirstAt K H3 standB endB (.ref p1) l p := fun l p h => .inr ⟨p1, R.map V.str, rfl, sm _ _ e1, by rw [hRm]; omega, fun v hv => .inl (by obtain ⟨z, _, rfl⟩ := List.mem_map.mp hv; exact ⟨z, rfl⟩), .inr ⟨R, rfl, hlen, h⟩⟩
      have hcmp : ∀ (G : Hp) (k : Bool → Hp → Prop), Same H2 G → TellB G false k → ∃ d e, Dp K G (.ref p1) d ∧ Dp K G (.ref a) e ∧ SeqAt.shaped d = true ∧ SeqAt.shaped e = true ∧ ∃ b, V.bl (!PyData.eqv d e) = .bl b ∧ k b G := fun G k sG q1 => ⟨_, _, dp_strs (.inl (.inl (sG _ _ e1))), dp_strs (.inl (.inl (sG _ _ (sA _ _ hS)))), shaped_strs R okR, shaped_strs R okR, _, rfl, TellB.eq (by rw [eqv_strsL, decide_eq_true rfl]; rfl) q1 _ (Same.refl _)⟩
      cases hb : wrongF standB endB 0 R with
      | none =>
        rw [hb] at e0'
        have e0' : H2 p0 = some (.lst []) := e0'
        obtain ⟨b, k6, hT, hA6, hbl, hsh⟩ := rows_shape R 0 hb
        have hby := bytes_read hb hT hA6 hsh
        have hB6 := bits6_len b
        have hBl : (eights (bits6 b)).length ≤ 600000 := by
          unfold eights
          rw [List.length_map, List.length_range]
          omega
        refine ⟨.ref p1, rfl, .ref p1, 0, 0, rfl, hfst 0 0 (by rw [hb]; rfl), .inr ⟨p1, R, rfl, rfl, sm _ _ e1, by omega, hlen, fun H4 fa s4 nf ef => ?_⟩⟩
        rw [hby] at ef
        generalize hBe : eights (bits6 b) = B at *
        have hm : (nb B).length = B.length := nb_len B
        dsimp only [gName]
        have S4 := sm.trans s4
        refine ifT false (fun k q1 => ⟨.ref p0, rfl, Nat.zero_le _, fun g ng => ⟨_, _, dp_nil (same_upd ng _ _ (S4 _ _ e0')), dp_nil upd_same, (by rfl), (by rfl), _, rfl, ?_⟩⟩) (fun h => nomatch h) (fun _ H5 s5 => ?_)
        · exact TellB.eq (by rfl) q1 _ (same_upd ng)
        · refine ifT false (fun k q1 => orT false false (fun k q2 => notT true (fun k q3 => ⟨.ref fa, rfl, .ref fa, .ty "list", _, _, true, rfl, .ty _, .base (.lst (s5 _ _ ef)), kit_ty (by decide +kernel), true, rfl, q3 _ (Same.refl _)⟩) q2) (fun _ H6 k s6 q2 => orT false false (fun k q3 => ?_) (fun _ H7 k s7 q3 => notT true (fun k q4 => ?_) q3) q2) q1) (fun h => nomatch h) (fun _ H8 s8 => ?_)
          · refine ⟨.ref fa, rfl, .ref a, rfl, a, R, b, k6, rfl, s6 _ _ (s5 _ _ (S4 _ _ (sA _ _ hS))), by omega, hT, hA6, hbl, fun H7 r s7 nr er => ?_⟩
            rw [hBe] at er
            refine ⟨_, _, dp_nbs (s7 _ _ (s6 _ _ (s5 _ _ ef))), dp_nbs er, shaped_intsL _, shaped_intsL _, _, rfl, ?_⟩
            exact TellB.eq (by rw [eqv_intsL, decide_eq_true rfl]; rfl) q3 _ s7
          · have ef6 := s7 _ _ (s6 _ _ (s5 _ _ ef))
            refine ⟨.ref fa, rfl, fa, rfl, ⟨_, .inl (.inl ef6)⟩, fun D hD => lc_pure (fun i => (nb B).getD i .non) (fun _ => .bl true) walk_listF (fun H1 sm => sm.seq (.inl (.inl ef6))) hD (by rw [hm, sizeLine_eq]; omega) (fun i H1 Q1 hi sm1 q1 => ?_) (fun H1 sm1 e => ?_)⟩
            · rw [hm] at hi
              have ei : (nb B).getD i .non = .int (B[i] : Nat) := by
                unfold nb
                rw [List.getD_eq_getElem?_getD, List.getElem?_map, List.getElem?_eq_getElem hi]
                rfl
              rw [ei]
              exact ⟨_, rfl, _, rfl, fun H9 s9 => q1 _ s9⟩
            · refine ⟨D, (List.range (nb B).length).map fun _ => true, rfl, .inl (.inl (by rw [e, List.map_map]; rfl)), true, ?_, q4 _ sm1⟩
              rw [map_true]
          · have ef7 := s8 _ _ (s5 _ _ ef)
            have S7 := S4.trans (s5.trans s8)
            dsimp only [tNext, tSeq]
            refine ifT false (fun k q1 => ⟨.ref p1, rfl, .ref a, rfl, hcmp _ k S7 q1⟩) (fun h => nomatch h) (fun _ H9 s9 => ?_)
            have ef8 := s9 _ _ ef7
            refine ⟨.ref fa, rfl, .inl ⟨rfl, _, .inl (.inl ef8)⟩, fa, _, _, rfl, rfl, ef8, by rw [hm, sizeLine_eq]; omega, ?_⟩
            refine ⟨_, _, rfl, fun b o e => ?_⟩
            rw [upd_ne (ne_of_none e (sm.free nf))]
            exact s9 _ _ (S7 _ _ e)
      | some lp =>
        obtain ⟨l, p⟩ := lp
        rw [hb] at e0'
        have e0' : H2 p0 = some (.lst (nb [l, p])) := e0'
        have hl0 := (wrongF_le standB endB R 0 l p hlen hb).1
        refine ⟨.ref p1, rfl, .ref p1, l, p, rfl, hfst l p (by rw [hb]; rfl), .inl ⟨hl0, fun H4 fa s4 nf ef => ?_⟩⟩
        dsimp only [gName]
        have S4 := sm.trans s4
        refine ifT true (fun k q1 => ⟨.ref p0, rfl, Nat.zero_le _, fun g ng => ⟨_, _, dp_nbs (same_upd ng _ _ (S4 _ _ e0')), dp_nil upd_same, shaped_intsL _, (by rfl), _, rfl, ?_⟩⟩) (fun _ H5 s5 => ?_) (fun h => nomatch h)
        · exact TellB.eq (by simp [PyData.eqv, PyData.eqvAll]) q1 _ (same_upd ng)
        · refine ifT false (fun k q1 => ⟨.ref fa, rfl, Nat.le_of_lt (small1000 (show 3 ≤ 1000 by decide)), fun g ng => ?_⟩) (fun h => nomatch h) (fun _ H6 s6 => ?_)
          · have t1 := same_upd (o := .lst [V.str (Str.ofString "wrong"), .str (Str.ofString "sixty"), .str (Str.ofString "base")]) ng
            refine ⟨.ref p0, rfl, g, p0, _, _, rfl, rfl, upd_same, t1 _ _ (s5 _ _ (S4 _ _ e0')), Nat.le_of_lt (small1000 (show 5 ≤ 1000 by decide)), fun g2 ng2 => ⟨_, _, dp_wrong (same_upd ng2 _ _ (t1 _ _ (s5 _ _ ef))), dp_wrong upd_same, shaped_wrong _ _, shaped_wrong _ _, _, rfl, ?_⟩⟩
            exact TellB.eq (by rw [eqv_wrong]; rfl) q1 _ (t1.trans (same_upd ng2))
          · have ef7 := s6 _ _ (s5 _ _ ef)
            have S7 := S4.trans (s5.trans s6)
            dsimp only [tNext, tSeq]
            refine ifT false (fun k q1 => ⟨.ref p1, rfl, .ref a, rfl, hcmp _ k S7 q1⟩) (fun h => nomatch h) (fun _ H8 s8 => ?_)
            have ef8 := s8 _ _ ef7
            refine ⟨.ref fa, rfl, .inl ⟨rfl, _, .inl (.inl ef8)⟩, fa, _, _, rfl, rfl, ef8, small1000 (show 5 ≤ 1000 by decide), ?_⟩
            refine ⟨_, _, rfl, fun b o e => ?_⟩
            rw [upd_ne (ne_of_none e (sm.free nf))]
            exact s8 _ _ (S7 _ _ e)
    · obtain ⟨y3, y4, rfl, sm⟩ := hP
      exact q H3 (sA.trans sm)
end
end K06

namespace K06
open PySem PySem.Spec PyProof.Rows L2 LH
section
variable {P : Program} {w : World} {K : PySem.W.Frag} {mg : Str → Option Value} {base : Heap} {tk : Nat → Tok} {ca : Nat → Addr}
theorem ty_same {H H' : Hp} {x : V} {t : Value} (s : Same H H') (h : TyX K H x t) : TyX K H' x t := by
  cases h with
  | base b =>
    refine .base ?_
    cases b with
    | non => exact .non
    | bl y => exact .bl y
    | int i => exact .int i
    | str y => exact .str y
    | flt y => exact .flt y
    | lst e => exact .lst (s _ _ e)
    | frz e => exact .frz (s _ _ e)
    | tup e => exact .tup (s _ _ e)
    | dK e => exact .dK (s _ _ e)
    | dT e => exact .dT (s _ _ e)
    | ins e cl ha hn htk hm => exact .ins (s _ _ e) cl ha hn htk hm
  | byt b => exact .byt b
  | set e => exact .set (s _ _ e)
  | kList e c => exact .kList e c
  | kTuple e c => exact .kTuple e c
  | kDict e c => exact .kDict e c
  | fTuple e => exact .fTuple (s _ _ e)
  | fDict e => exact .fDict (s _ _ e)
theorem cutV_but (z : List V) : cutV z none (some (-1)) = z.take (z.length - 1) := by
  unfold cutV
  rw [HT.sIx_none]
  have e : HT.sIx z.length z.length (some (-1)) = z.length - 1 := by
    show (if (-1 : Int) < 0 then (-1 + (z.length : Int)).toNat else min (-1 : Int).toNat z.length) = _
    rw [if_pos (by decide)]
    omega
  rw [e]
  simp
theorem cutS_le (z : Str) (lo hi : Option Int) : (cutS z lo hi).length ≤ z.length := by
  rw [TL.len_tl, TL.len_tl]
  exact Nat.le_trans (List.length_take_le' _ _) (by rw [List.length_drop]; exact Nat.sub_le _ _)
theorem s64_at {n : Int} (h0 : 0 ≤ n) (h1 : n < 64) : ∃ c, c < 128 ∧ atI S64.cps.toList n = some c := by
  obtain ⟨c, hc, e⟩ := pickL (TL.tl S64) n h0 (by rw [s64_len]; exact h1)
  exact ⟨c, (s64_low c hc).1, e⟩
theorem lrows_ok (l : List Nat) : RowsN 60 (rowsS (ltext l)) := fun x hx => by
  obtain ⟨k, hG⟩ := ltext_good l
  have hlow : ∀ c ∈ ltext l, c < 128 := fun c hc => by
    rw [hG.eq] at hc
    rcases List.mem_append.mp hc with h | h
    · exact (in64_no (hG.all c h)).1
    · rw [(List.mem_replicate.mp h).2]; decide
  unfold rowsS chunks at hx
  rw [List.map_map] at hx
  obtain ⟨i, _, rfl⟩ := List.mem_map.mp hx
  refine ⟨?_, fun c hc => hlow c (List.mem_of_mem_drop (List.mem_of_mem_take hc))⟩
  rw [TL.len_tl]
  exact List.length_take_le _ _
theorem lrows_len (l : List Nat) (h : l.length ≤ 252) : (rowsS (ltext l)).length ≤ 100 := by
  have := ltext_len l
  unfold rowsS
  rw [List.length_map, chunks_len]
  omega
theorem lrows_back (l : List Nat) (h : ∀ x ∈ l, x < 256) : wrongF standB endB 0 (rowsS (ltext l)) = none ∧ bytes64 (rowsS (ltext l)) = nb l := by
  obtain ⟨k, hG⟩ := ltext_good l
  have h1 := good_rows (ltext l).length 0 (ltext l) (lt0 l) k (Nat.le_refl _) hG
  refine ⟨h1, ?_⟩
  rw [bytes_read h1 (by rw [textR_rows]; exact hG.eq) hG.all hG.shape, eights_back l h]
theorem lrows_ne (l : List Nat) (h : ∀ x ∈ l, x < 256) (hne : l ≠ []) : rowsS (ltext l) ≠ [] := fun h0 => by
  have h1 := textR_rows (ltext l)
  rw [h0] at h1
  have h2 : ltext l = [] := h1.symm
  have h3 : lt0 l = [] := by
    unfold ltext at h2
    exact (List.append_eq_nil_iff.mp h2).1
  have h4 := eights_back l h
  rw [h3] at h4
  exact hne (h4.symm.trans rfl)
/-! ### law -/
abbrev s_law : Stmt := topS 52
abbrev N_law : List Str := ["_law_script", "_law_row", "_law_rows", "_law_menu", "_law_k", "_law_cell", "_law_number_here", "_law_four", "_law_bent_here", "_law_thing", "_law_line", "_law_j"]
abbrev P_law : List Str := ["_law_script"]
theorem sc_law : FnScope N_law ["_law_script"] (defScope s_law) := ⟨rfl, rfl, rfl, by decide +kernel, rfl, by decide +kernel, by decide +kernel⟩
def spLaw (K : PySem.W.Frag) : Sp := fun vs H Q _ => ∃ (a : Addr) (ns : List Int), vs = [.ref a] ∧ SqL K H a (ns.map V.int) ∧ ns.length ≤ 63 ∧ ∀ H', Q (.bl true) H'
theorem ok_law {f fR fM fB fO fT fY fI fS fN : Addr} {fd fdR fdM fdB fdO fdT fdY fdI fdS fdN : FuncData} (F : Fun K "law" "law" s_law f fd) (T : Tx mg tk) (D__law_bytes : Def P w K mg base "_law_bytes" 2 fY fdY P__law_bytes (sp_lbytes K)) (D__law_in_sixty : Def P w K mg base "_law_in_sixty" 2 fI fdI P__law_in_sixty sp_in_sixty) (D__law_sixty : Def P w K mg base "_law_sixty" 1 fS fdS P__law_sixty sp_lsixty) (D__law_next : Def P w K mg base "_law_next" 1 fN fdN P__law_next sp_next) (D__law_right : Def P w K mg base "_law_right" 8 fR fdR P__law_right sp_right) (D__law_mixed : Def P w K mg base "_law_mixed" 1 fM fdM P__law_mixed sp_mixed) (D__law_bent : Def P w K mg base "_law_bent" 1 fB fdB P__law_bent sp_bent) (D__law_odd_rows : Def P w K mg base "_law_odd_rows" 1 fO fdO P__law_odd_rows (sp_odd K)) (D__law_told : Def P w K mg base "_law_told" 7 fT fdT P__law_told (sp_toldW K)) : FnOk P w K mg base CX0 9 f fd ["_law_script"] (spLaw K) := by
  refine F.ok sc_law (fun vs H Q E h => ?_) (fun cdv A outer s H vs Q E hr h => ?_)
  · obtain ⟨a, ns, rfl, _⟩ := h
    rfl
  · have nd := sc_law.nd
    obtain ⟨a, ns, rfl, hS, hlen, q⟩ := h
    refine ⟨_, (pss_cons (ps_set (i := 1) nd rfl (.inl rfl) (pe_def D__law_bytes (hr.mono (by decide)) (pa_cons (pv 0) pa_nil)))
      (pss_cons (ps_set (i := 2) nd rfl (.inl rfl) (pe_def D__law_in_sixty (hr.mono (by decide)) (pa_cons (pv 1) pa_nil)))
      (pss_cons (ps_if (PW.pt (pw_or (pt_not (pt_val (pe_def D__law_right (hr.mono (by decide)) (pa_cons (pv 2) pa_nil)))) (pw_or (pt_not (pt_val (pe_def D__law_right (hr.mono (by decide)) (pa_cons (pe_lst pa_nil) pa_nil)))) (pw_or1 (pt_cmpR (oNeD K hr.units) (pe_def D__law_told (hr.mono (by decide)) (pa_cons (pv 2) pa_nil)) (pv 1) (nomark _))))))
        (pss_one (ps_ret pe_bl))
        pss_nil)
      (pss_cons (ps_set (i := 3) nd rfl (.inl rfl) (pe_op op_add_str (pe_def0 D__law_sixty (hr.mono (by decide))) pe_str))
      (pss_cons (ps_for PassesOwn.never rfl (pi_enum (by rfl) T.n_enumerate (pa_cons (pe_slice (slL K) (pv 0) po_none (po_some pe_int)) pa_nil)) (pg_tup rfl (pgs_cons (pg_name (i := 4) nd rfl (Or.inl rfl)) (pgs_cons (pg_name (i := 5) nd rfl (Or.inl rfl)) pgs_nil)))
        (pss_cons (ps_set (i := 6) nd rfl (.inr rfl) (pe_def D__law_mixed (hr.mono (by decide)) (pa_cons (pv 5) (pa_cons (pe_op op_add pe_int (pv 4)) pa_nil))))
        (pss_cons (ps_set (i := 7) nd rfl (.inl rfl) (pe_join pe_str (pe_lc (own := [("_law_j", 11)]) (g := gName 11) (by rfl) nd (pi_range1 (by rfl) T.n_range (pa_cons (pe_op op_add pe_int (pe_op op_mod (pv 6) pe_int)) pa_nil)) (blkOk_by (N := N_law) (sc := defScope s_law) (by decide +kernel)) (fun _ _ _ _ _ => (pg_name (i := 11) nd rfl (Or.inl rfl))) (fun _ _ _ _ _ => pts_nil) (fun _ _ _ _ _ => (pe_ix ix_str (pe_def0 D__law_sixty (hr.mono (by decide))) (pe_op op_mod (pe_op op_fdiv (pe_def D__law_next (hr.mono (by decide)) (pa_cons (pv 6) (pa_cons (pv 11) pa_nil))) pe_int) pe_int) (fun _ _ => rfl))))))
        (pss_cons (ps_if (pt_not (pt_val (pe_def D__law_right (hr.mono (by decide)) (pa_cons (pe_ifExp (pt_cmpR (oNeD K hr.units) (pv 2) (pe_lst pa_nil) (nomark _)) (pe_op op_cat (pe_slice (slL K) (pv 2) po_none (po_some (pe_un un_neg pe_int))) (pe_lst (pa_cons (pe_op op_add_str (pe_op op_add_str (pe_slice sl_str (pe_ix (ixL K) (pv 2) (pe_un un_neg pe_int) (fun _ _ => rfl)) po_none (po_some (pe_un un_neg pe_int))) (pv 7)) (pe_op op_mul_str pe_str (pe_op op_sub pe_int (pe_op op_mod (pv 6) pe_int)))) pa_nil))) (pe_lst (pa_cons (pv 7) pa_nil))) pa_nil))))
          (pss_one (ps_ret pe_bl))
          pss_nil)
        (pss_cons (ps_set (i := 8) nd rfl (.inl rfl) (pe_def D__law_bent (hr.mono (by decide)) (pa_cons (pv 2) (pa_cons (pe_def D__law_mixed (hr.mono (by decide)) (pa_cons (pv 5) (pa_cons (pe_op op_add pe_int (pv 4)) pa_nil))) (pa_cons (pv 3) pa_nil)))))
        (pss_cons (ps_asg (pe_def D__law_odd_rows (hr.mono (by decide)) (pa_cons (pv 8) (pa_cons (pe_def D__law_mixed (hr.mono (by decide)) (pa_cons (pv 5) (pa_cons (pe_op op_add pe_int (pv 4)) pa_nil))) pa_nil))) (pg_tup rfl (pgs_cons (pg_name (i := 9) nd rfl (Or.inl rfl)) (pgs_cons (pg_name (i := 10) nd rfl (Or.inl rfl)) pgs_nil))))
        (pss_one (ps_if (PW.pt (pw_or (pt_not (pt_val (pe_def D__law_right (hr.mono (by decide)) (pa_cons (pv 8) pa_nil)))) (pw_or1 (pt_cmpR (oNeD K hr.units) (pe_def D__law_told (hr.mono (by decide)) (pa_cons (pv 9) pa_nil)) (pe_lst (pa_cons pe_str (pa_cons pe_str (pa_cons pe_str (pa_cons (pv 10) (pa_cons pe_int pa_nil)))))) (nomark _)))))
          (pss_one (ps_ret pe_bl))
          pss_nil))))))))
      (pss_one (ps_ret pe_bl))))))), ?_⟩
    refine ⟨.ref a, rfl, a, ns, rfl, hS, hlen, fun l hl256 hl252 hnl H1 pl s1 npl epl => ?_⟩
    refine ⟨.ref pl, rfl, pl, l, rfl, epl, by omega, fun H2 p s2 np ep => ?_⟩
    have hR := lrows_ok l
    have hRl := lrows_len l hl252
    obtain ⟨hgood, hback⟩ := lrows_back l hl256
    have hRn : 0 < ns.length → rowsS (ltext l) ≠ [] := fun h => lrows_ne l hl256 (fun h0 => by rw [h0] at hnl; exact absurd hnl (by show ¬ ns.length ≤ 0; omega))
    have ep : H2 p = some (.lst ((rowsS (ltext l)).map V.str)) := ep
    generalize rowsS (ltext l) = R at *
    have epl2 := s2 _ _ epl
    dsimp only [gName]
    have h70 := hR.mono (show 60 ≤ 70 by decide)
    refine ifT false (fun k q1 => orT false false (fun k q2 => notT true (fun k q3 => ⟨.ref p, rfl, p, R, rfl, ep, h70, by omega, fun H3 s3 => ⟨true, rfl, q3 _ s3⟩⟩) q2)
      (fun _ H3 k s3 q2 => orT false false (fun k q3 => notT true (fun k q4 => ⟨Nat.zero_le _, fun g ng => ⟨g, [], rfl, upd_same, (fun x hx => nomatch hx), Nat.zero_le _, fun H4 s4 => ⟨true, rfl, q4 _ ((same_upd ng).trans s4)⟩⟩⟩) q3)
        (fun _ H4 k s4 q3 => ?_) q2) q1) (fun h => nomatch h) (fun _ H3 s3 => ?_)
    · have s34 := s3.trans s4
      have ep4 := s34 _ _ ep
      refine ⟨.ref p, rfl, .ref p, 0, 0, rfl, .inr ⟨p, R.map V.str, rfl, ep4, by rw [List.length_map]; omega, fun v hv => .inl (by obtain ⟨z, _, rfl⟩ := List.mem_map.mp hv; exact ⟨z, rfl⟩), .inr ⟨R, rfl, fun z hz => by have := (hR z hz).1; omega, by rw [hgood]; rfl⟩⟩, .inr ⟨p, R, rfl, rfl, ep4, by omega, fun z hz => (by have := (hR z hz).1; omega), fun H5 r s5 nr er => ?_⟩⟩
      rw [hback] at er
      refine ⟨.ref pl, rfl, _, _, dp_nbs er, dp_nbs (s5 _ _ (s34 _ _ epl2)), shaped_intsL _, shaped_intsL _, _, rfl, ?_⟩
      exact TellB.eq (by rw [eqv_intsL, decide_eq_true rfl]; rfl) q3 _ s5
    dsimp only [tNext, tSeq]
    refine ⟨rfl, S64, Str.ofString "====AAQ- _\t", rfl, rfl, by decide +kernel, ?_⟩
    dsimp only [gName]
    have eS := (s1.trans (s2.trans s3)).seq hS
    refine ⟨.ref a, rfl, 8, rfl, a, _, rfl, eS, fun c nc => ?_⟩
    have s4 := same_upd (o := .lst (cutV (ns.map V.int) none (some 8))) nc
    have ec := upd_same (H := H3) (a := c) (o := .lst (cutV (ns.map V.int) none (some 8)))
    have ecut : cutV (ns.map V.int) none (some 8) = (ns.take 8).map V.int := by
      rw [show (8 : Int) = ((8 : Nat) : Int) from rfl, cutV_to, List.map_take]
    rw [ecut] at ec s4 ⊢
    have hne : 0 < (ns.take 8).length → R ≠ [] := fun h => hRn (by rw [List.length_take] at h; omega)
    have hms : (ns.take 8).length ≤ 8 := by rw [List.length_take]; omega
    generalize ns.take 8 = ms at *
    have ep3 := s4 _ _ (s3 _ _ ep)
    generalize upd H3 c (.lst (ms.map V.int)) = H4 at *
    have hRm : (R.map V.str).length = R.length := List.length_map ..
    refine ⟨c, ms.map V.int, rfl, .inl (.inl ec), for_it walk_enum (fun i σ H' => ∃ (y4 y5 y6 y7 y8 y9 y10 : Option V), σ = [some (.ref a), some (.ref pl), some (.ref p), some (.str MENU), y4, y5, y6, y7, y8, y9, y10, none] ∧ Same H4 H')
      ⟨none, none, none, none, none, none, none, rfl, Same.refl _⟩ (fun i σ H' _ h => by obtain ⟨_, _, _, _, _, _, _, rfl, sm⟩ := h; exact .inl (.inl (sm _ _ ec))) (fun i x σ H' H'' hi hP hy => ?_) (fun σ H' hP => ?_)⟩
    · obtain ⟨y4, y5, y6, y7, y8, y9, y10, rfl, sm⟩ := hP
      obtain ⟨U, x1, x2, rfl, nU, rfl, f1, f2⟩ := hy
      rw [List.length_map] at hi
      have f2 : (ms.map V.int)[i]? = some x2 := f2
      rw [List.getElem?_map, List.getElem?_eq_getElem hi] at f2
      obtain rfl := Option.some.inj f1
      obtain rfl := Option.some.inj f2
      have hRne := hne (Nat.lt_of_le_of_lt (Nat.zero_le _) hi)
      have sU := same_upd (o := .tup [.int (i : Nat), .int ms[i]]) nU
      refine ⟨U, _, rfl, .inl (.inl upd_same), rfl, _, _, rfl, _, _, rfl, rfl, ?_⟩
      have smU := sm.trans sU
      generalize upd H' U (.tup [.int (i : Nat), .int ms[i]]) = H5 at *
      generalize ms[i] = cell at *
      refine ⟨.int cell, rfl, .int (i : Nat), rfl, 80, _, rfl, rfl, cell, 80 + (i : Nat), rfl, by omega, by omega, fun H6 s6 => ?_⟩
      have hM := mixed_lt cell (80 + (i : Nat))
      generalize mixed cell (80 + (i : Nat)) = M at hM
      have S6 := smU.trans s6
      dsimp only [gName]
      obtain ⟨m2, hm2, hm20⟩ : ∃ m2 : Nat, M % 2 = (m2 : Int) ∧ m2 ≤ 1 := ⟨(M % 2).toNat, by omega, by omega⟩
      refine ⟨⟨_, rfl⟩, .int M, rfl, M, 2, rfl, rfl, (show (0 : Int) < 2 by decide), 2, _, rfl, rfl, 2 + M % 2, rfl, by omega, by omega, fun D hD => ?_⟩
      have hpick : ∀ j : Nat, ∃ d, d < 128 ∧ atI S64.cps.toList (nextN M (0 + (j : Int)) / 5 % 64) = some d := fun j => s64_at (Int.emod_nonneg _ (by decide)) (Int.emod_lt_of_pos _ (by decide))
      let pk : Nat → Nat := fun j => (hpick j).choose
      have hpk : ∀ j, pk j < 128 ∧ atI S64.cps.toList (nextN M (0 + (j : Int)) / 5 % 64) = some (pk j) := fun j => (hpick j).choose_spec
      have hn2 : (2 + M % 2).toNat = 2 + m2 := by omega
      refine lc_pure (fun j => .int (0 + (j : Int))) (fun j => .str ⟨#[pk j]⟩) walk_range (fun _ _ => trivial) hD (by rw [hn2, sizeLine_eq]; omega) (fun j H7 Q7 hj s7 q7 => ?_) (fun H7 s7 e7 => ?_)
      · rw [hn2] at hj
        refine ⟨rfl, .int M, rfl, .int (0 + (j : Int)), rfl, M, 0 + (j : Int), rfl, hM.1, by omega, by omega, by omega, fun H8 s8 => ?_⟩
        exact ⟨_, 5, rfl, rfl, ⟨by decide, by decide⟩, _, 64, rfl, rfl, (show (0 : Int) < 64 by decide), S64, _, _, rfl, rfl, Nat.le_of_lt (small1000 (by decide +kernel)), (hpk j).2, q7 _ s8⟩
      have e7' : H7 D = some (.lst (((List.range (2 + m2)).map fun j => (⟨#[pk j]⟩ : Str)).map V.str)) := by rw [e7, hn2, List.map_map]; rfl
      have hws : ∀ x ∈ (List.range (2 + m2)).map (fun j => (⟨#[pk j]⟩ : Str)), x.length ≤ 1 ∧ ∀ d ∈ TL.tl x, d < 128 := fun x hx => by
        obtain ⟨j, _, rfl⟩ := List.mem_map.mp hx
        exact ⟨Nat.le_refl 1, fun d hd => by rw [List.mem_singleton.mp (show d ∈ [pk j] from hd)]; exact (hpk j).1⟩
      have hwl : ((List.range (2 + m2)).map fun j => (⟨#[pk j]⟩ : Str)).length = 2 + m2 := by rw [List.length_map, List.length_range]
      generalize (List.range (2 + m2)).map (fun j => (⟨#[pk j]⟩ : Str)) = W at *
      have he0 : (Str.ofString "").length = 0 := by decide +kernel
      have hjb := join_len_le (sep := Str.ofString "") (ws := W) (k := 1) (n := 2 + m2) (fun x hx => (hws x hx).1) (by omega)
      have hjl := tl_join0 W
      have hsumW := sum_len' W
      have hJl : (Txt.join (Str.ofString "") W).length ≤ 2 + m2 := by
        rw [he0, Nat.add_zero, Nat.mul_one] at hjb
        rw [TL.len_tl, hjl, ← hsumW]
        omega
      have hJlow : ∀ d ∈ TL.tl (Txt.join (Str.ofString "") W), d < 128 := fun d hd => by
        rw [hjl] at hd
        obtain ⟨u, hu, hd⟩ := List.mem_flatten.mp hd
        obtain ⟨x, hx, rfl⟩ := List.mem_map.mp hu
        exact (hws x hx).2 d hd
      refine ⟨Str.ofString "", D, W, rfl, rfl, .inl (.inl (.inl e7')), by rw [hsumW, ← hjl, ← TL.len_tl, he0]; omega, ?_⟩
      generalize Txt.join (Str.ofString "") W = four at *
      dsimp only [gName]
      have S7 := S6.trans s7
      refine ifT false (fun k q1 => notT true (fun k q2 => ?_) q1) (fun h => nomatch h) (fun _ H8 s8 => ?_)
      · have ep7 := S7 _ _ ep3
        refine ⟨.ref p, rfl, Nat.zero_le _, fun g ng => ⟨_, _, dp_strs (.inl (.inl (same_upd ng _ _ ep7))), dp_nil upd_same, shaped_strs R (rows_ok hR), (by rfl), _, rfl, ?_⟩⟩
        have t0 := same_upd (o := .lst []) ng
        rw [eqv_nil, decide_eq_false hRne]
        refine iteT ?_
        have eA := t0 _ _ ep7
        refine ⟨.ref p, rfl, 1, rfl, -1, rfl, p, _, rfl, .inl (.inl eA), fun g1 ng1 => ?_⟩
        have t1 := same_upd (o := .lst (cutV (R.map V.str) none (some (-1)))) ng1
        have ebut : cutV (R.map V.str) none (some (-1)) = (R.take (R.length - 1)).map V.str := by rw [cutV_but, hRm, List.map_take]
        rw [ebut] at t1 ⊢
        have eg1 := upd_same (H := upd H7 g (.lst [])) (a := g1) (o := .lst ((R.take (R.length - 1)).map V.str))
        have eB := t1 _ _ eA
        generalize upd (upd H7 g (.lst [])) g1 (.lst ((R.take (R.length - 1)).map V.str)) = G1 at *
        obtain ⟨R0, z, hRz⟩ := snoc_of hRne
        have hz := hR z (by rw [hRz]; simp)
        have hlast : atI (R.map V.str) (-1) = some (.str z) := by
          rw [hRz, List.map_append]
          exact atI_last _ _
        have hzs : z.length ≤ sizeLine := by have := hz.1; rw [sizeLine_eq]; omega
        have hcl := cutS_le z none (some (-4))
        have hz1 := hz.1
        have hrl : (repS (Str.ofString "=") (2 - M % 2)).length ≤ 2 := by rw [TL.len_tl, tl_rep_eq, List.length_replicate]; omega
        refine ⟨.ref p, rfl, 1, rfl, p, _, -1, .str z, rfl, rfl, .inl (.inl eB), hlast, 4, rfl, -4, rfl, z, rfl, hzs, .str four, rfl, _, four, rfl, rfl, by rw [sizeLine_eq]; omega, .int M, rfl, M, 2, rfl, rfl, (show (0 : Int) < 2 by decide), 2, _, rfl, rfl, Str.ofString "=", _, rfl, rfl, by omega, by omega, by decide +kernel, _, _, rfl, rfl, by rw [len_app, sizeLine_eq]; omega, Nat.le_of_lt (small1000 (show 1 ≤ 1000 by decide)), fun g2 ng2 => ?_⟩
        have t2 := same_upd (o := .lst [V.str (cutS z none (some (-4)) ++ four ++ repS (Str.ofString "=") (2 - M % 2))]) ng2
        refine ⟨g1, g2, _, _, rfl, rfl, t2 _ _ eg1, upd_same, by rw [List.length_map, List.length_take, List.length_singleton, sizeLine_eq]; omega, fun g3 ng3 => ?_⟩
        have t3 := same_upd (o := .lst ((R.take (R.length - 1)).map V.str ++ [V.str (cutS z none (some (-4)) ++ four ++ repS (Str.ofString "=") (2 - M % 2))])) ng3
        have e3 : (R.take (R.length - 1)).map V.str ++ [V.str (cutS z none (some (-4)) ++ four ++ repS (Str.ofString "=") (2 - M % 2))] = (R.take (R.length - 1) ++ [cutS z none (some (-4)) ++ four ++ repS (Str.ofString "=") (2 - M % 2)]).map V.str := by rw [List.map_append]; rfl
        rw [e3] at t3 ⊢
        have hlow : ∀ d ∈ TL.tl (cutS z none (some (-4)) ++ four ++ repS (Str.ofString "=") (2 - M % 2)), d < 128 := low_app (low_app (low_cut hz.2 _ _) hJlow) (fun d hd => by rw [tl_rep_eq] at hd; rw [(List.mem_replicate.mp hd).2]; decide)
        have hone : RowsN 70 [cutS z none (some (-4)) ++ four ++ repS (Str.ofString "=") (2 - M % 2)] := RowsN.one (by rw [len_app, len_app]; omega) hlow
        have hN := RowsN.app (h70.sub (S := R.take (R.length - 1)) fun y hy => List.mem_of_mem_take hy) hone
        exact ⟨g3, _, rfl, upd_same, hN, by rw [List.length_append, List.length_take, List.length_singleton]; omega, fun G4 s4' => ⟨true, rfl, q2 _ ((t0.trans t1).trans ((t2.trans t3).trans s4'))⟩⟩
      dsimp only [tNext, tSeq]
      have S8 := S7.trans s8
      refine ⟨.ref p, rfl, .int cell, rfl, .int (i : Nat), rfl, 90, _, rfl, rfl, cell, 90 + (i : Nat), rfl, by omega, by omega, fun H9 s9 => ?_⟩
      have hM2 := mixed_lt cell (90 + (i : Nat))
      generalize mixed cell (90 + (i : Nat)) = M2 at hM2
      have S9 := S8.trans s9
      refine ⟨.str MENU, rfl, p, R, M2, rfl, S9 _ _ ep3, hRne, hR.mono (by decide), by omega, hM2.1, by omega, fun R' hR' hl' H10 pb s10 nb' eb => ?_⟩
      dsimp only [gName]
      have S10 := S9.trans s10
      refine ⟨.ref pb, rfl, .int cell, rfl, .int (i : Nat), rfl, 99, _, rfl, rfl, cell, 99 + (i : Nat), rfl, by omega, by omega, fun H11 s11 => ?_⟩
      have hM3 := mixed_lt cell (99 + (i : Nat))
      generalize mixed cell (99 + (i : Nat)) = M3 at hM3
      refine ⟨pb, R', M3, rfl, s11 _ _ eb, by omega, hM3.1, fun H12 t x l' s12 nt et hodd => ⟨t, _, rfl, .inl (.inl et), rfl, _, _, rfl, _, _, rfl, rfl, ?_⟩⟩
      have S12 := S10.trans (s11.trans s12)
      dsimp only [gName]
      have fin : ∀ (G : Hp) (r : Addr), G r = some (.lst (wrongV l' 1)) → ∀ (g : Addr) (k : Bool → Hp → Prop), G g = none → TellB G false k → ∃ d e, Dp K (upd G g (.lst [V.str (Str.ofString "wrong"), .str (Str.ofString "sixty"), .str (Str.ofString "base"), .int l', .int 1])) (.ref r) d ∧ Dp K (upd G g (.lst [V.str (Str.ofString "wrong"), .str (Str.ofString "sixty"), .str (Str.ofString "base"), .int l', .int 1])) (.ref g) e ∧ SeqAt.shaped d = true ∧ SeqAt.shaped e = true ∧ ∃ b, V.bl (!PyData.eqv d e) = .bl b ∧ k b (upd G g (.lst [V.str (Str.ofString "wrong"), .str (Str.ofString "sixty"), .str (Str.ofString "base"), .int l', .int 1])) := fun G r er g k ng q1 =>
        ⟨_, _, dp_wrong (same_upd ng _ _ er), dp_wrong upd_same, shaped_wrong _ _, shaped_wrong _ _, _, rfl, by rw [eqv_wrong]; exact q1 _ (same_upd ng)⟩
      refine ifT false (fun k q1 => orT false false (fun k q2 => notT true (fun k q3 => ⟨.ref pb, rfl, pb, R', rfl, (s11.trans s12) _ _ eb, hR'.mono (by decide), by omega, fun H13 s13 => ⟨true, rfl, q3 _ s13⟩⟩) q2) (fun _ H13 k s13 q2 => ⟨x, rfl, x, ?_⟩) q1) (fun h => nomatch h) (fun _ G sg => ⟨_, _, _, _, _, _, _, rfl, ?_⟩)
      · rcases hodd with ⟨hn, rfl⟩ | ⟨b, xs, rfl, exs, hxl, hv, h0, rfl⟩
        · obtain ⟨ty, h1, h2⟩ := hn
          exact ⟨1, 1, rfl, .inl ⟨⟨ty, ty_same s13 h1, h2⟩, rfl, rfl⟩, .inl ⟨Nat.one_pos, fun G r sg nr er => ⟨.int 1, rfl, Nat.le_of_lt (small1000 (show 5 ≤ 1000 by decide)), fun g ng => fin G r er g k ng (fun G2 s2 => q2 G2 (sg.trans s2))⟩⟩⟩
        · exact ⟨firstOdd 0 xs, 1, rfl, .inr ⟨b, xs, rfl, s13 _ _ exs, by omega, fun v hv' => (hv v hv').imp (fun h => h) (fun h => h.same s13), .inl ⟨h0, rfl, rfl⟩⟩, .inl ⟨h0, fun G r sg nr er => ⟨.int (firstOdd 0 xs : Nat), rfl, Nat.le_of_lt (small1000 (show 5 ≤ 1000 by decide)), fun g ng => fin G r er g k ng (fun G2 s2 => q2 G2 (sg.trans s2))⟩⟩⟩
      · exact S12.trans sg
    · exact q H'
end
end K06

namespace K06
open PySem PySem.Spec PyProof.Rows L2 LH
theorem all_mk {l : PySem.W.OpenLaw} {w : World} {K : PySem.W.Frag} {h : Heap} {mg : Str → Option Value} {fa : Addr} {f0 f1 f2 f3 f4 f5 f6 f7 f8 f9 f10 f11 f12 f13 f14 f15 f16 f17 f18 f19 f20 f21 f22 f23 f24 f25 f26 : Addr} {t1 t2 : Tok} (X : K.In h) (G : h.Ns mainGlobals mg) (hfa : mg "law" = some (.ref fa))
    {od0 an0 : Option Addr} {sl0 : Array (Option Value)} {oc0 kV0 dc0 pm0 cd0 ct0 : Value}
    (a0 : PySem.W.nsIn K mainGlobals "_law_mixed" = some (some (.ref f0))) (l0 : K.lookup f0 = some ⟨oc0, od0, .func (PySem.W.fnOf "_law_mixed" "_law_mixed" (defArgs s__law_mixed) (defBody s__law_mixed) (defScope s__law_mixed) .none kV0 dc0 pm0 an0 cd0 ct0), sl0⟩) (c0 : PySem.W.codeIn K cd0 "_law_mixed" = true) (k0 : PySem.W.keepIn K (.ref f0) = true)
    {od1 an1 : Option Addr} {sl1 : Array (Option Value)} {oc1 kV1 dc1 pm1 cd1 ct1 : Value}
    (a1 : PySem.W.nsIn K mainGlobals "_law_next" = some (some (.ref f1))) (l1 : K.lookup f1 = some ⟨oc1, od1, .func (PySem.W.fnOf "_law_next" "_law_next" (defArgs s__law_next) (defBody s__law_next) (defScope s__law_next) .none kV1 dc1 pm1 an1 cd1 ct1), sl1⟩) (c1 : PySem.W.codeIn K cd1 "_law_next" = true) (k1 : PySem.W.keepIn K (.ref f1) = true)
    {od2 an2 : Option Addr} {sl2 : Array (Option Value)} {oc2 kV2 dc2 pm2 cd2 ct2 : Value}
    (a2 : PySem.W.nsIn K mainGlobals "_law_bytes" = some (some (.ref f2))) (l2 : K.lookup f2 = some ⟨oc2, od2, .func (PySem.W.fnOf "_law_bytes" "_law_bytes" (defArgs s__law_bytes) (defBody s__law_bytes) (defScope s__law_bytes) .none kV2 dc2 pm2 an2 cd2 ct2), sl2⟩) (c2 : PySem.W.codeIn K cd2 "_law_bytes" = true) (k2 : PySem.W.keepIn K (.ref f2) = true)
    {od3 an3 : Option Addr} {sl3 : Array (Option Value)} {oc3 kV3 dc3 pm3 cd3 ct3 : Value}
    (a3 : PySem.W.nsIn K mainGlobals "_law_bits" = some (some (.ref f3))) (l3 : K.lookup f3 = some ⟨oc3, od3, .func (PySem.W.fnOf "_law_bits" "_law_bits" (defArgs s__law_bits) (defBody s__law_bits) (defScope s__law_bits) .none kV3 dc3 pm3 an3 cd3 ct3), sl3⟩) (c3 : PySem.W.codeIn K cd3 "_law_bits" = true) (k3 : PySem.W.keepIn K (.ref f3) = true)
    {od4 an4 : Option Addr} {sl4 : Array (Option Value)} {oc4 kV4 dc4 pm4 cd4 ct4 : Value}
    (a4 : PySem.W.nsIn K mainGlobals "_law_number" = some (some (.ref f4))) (l4 : K.lookup f4 = some ⟨oc4, od4, .func (PySem.W.fnOf "_law_number" "_law_number" (defArgs s__law_number) (defBody s__law_number) (defScope s__law_number) .none kV4 dc4 pm4 an4 cd4 ct4), sl4⟩) (c4 : PySem.W.codeIn K cd4 "_law_number" = true) (k4 : PySem.W.keepIn K (.ref f4) = true)
    {od5 an5 : Option Addr} {sl5 : Array (Option Value)} {oc5 kV5 dc5 pm5 cd5 ct5 : Value}
    (a5 : PySem.W.nsIn K mainGlobals "_law_sixty" = some (some (.ref f5))) (l5 : K.lookup f5 = some ⟨oc5, od5, .func (PySem.W.fnOf "_law_sixty" "_law_sixty" (defArgs s__law_sixty) (defBody s__law_sixty) (defScope s__law_sixty) .none kV5 dc5 pm5 an5 cd5 ct5), sl5⟩) (c5 : PySem.W.codeIn K cd5 "_law_sixty" = true) (k5 : PySem.W.keepIn K (.ref f5) = true)
    {od6 an6 : Option Addr} {sl6 : Array (Option Value)} {oc6 kV6 dc6 pm6 cd6 ct6 : Value}
    (a6 : PySem.W.nsIn K mainGlobals "_law_in_sixty" = some (some (.ref f6))) (l6 : K.lookup f6 = some ⟨oc6, od6, .func (PySem.W.fnOf "_law_in_sixty" "_law_in_sixty" (defArgs s__law_in_sixty) (defBody s__law_in_sixty) (defScope s__law_in_sixty) .none kV6 dc6 pm6 an6 cd6 ct6), sl6⟩) (c6 : PySem.W.codeIn K cd6 "_law_in_sixty" = true) (k6 : PySem.W.keepIn K (.ref f6) = true)
    {od7 an7 : Option Addr} {sl7 : Array (Option Value)} {oc7 kV7 dc7 pm7 cd7 ct7 : Value}
    (a7 : PySem.W.nsIn K mainGlobals "_law_left" = some (some (.ref f7))) (l7 : K.lookup f7 = some ⟨oc7, od7, .func (PySem.W.fnOf "_law_left" "_law_left" (defArgs s__law_left) (defBody s__law_left) (defScope s__law_left) .none kV7 dc7 pm7 an7 cd7 ct7), sl7⟩) (c7 : PySem.W.codeIn K cd7 "_law_left" = true) (k7 : PySem.W.keepIn K (.ref f7) = true)
    {od8 an8 : Option Addr} {sl8 : Array (Option Value)} {oc8 kV8 dc8 pm8 cd8 ct8 : Value}
    (a8 : PySem.W.nsIn K mainGlobals "_law_begins" = some (some (.ref f8))) (l8 : K.lookup f8 = some ⟨oc8, od8, .func (PySem.W.fnOf "_law_begins" "_law_begins" (defArgs s__law_begins) (defBody s__law_begins) (defScope s__law_begins) .none kV8 dc8 pm8 an8 cd8 ct8), sl8⟩) (c8 : PySem.W.codeIn K cd8 "_law_begins" = true) (k8 : PySem.W.keepIn K (.ref f8) = true)
    {od9 an9 : Option Addr} {sl9 : Array (Option Value)} {oc9 kV9 dc9 pm9 cd9 ct9 : Value}
    (a9 : PySem.W.nsIn K mainGlobals "_law_wrong" = some (some (.ref f9))) (l9 : K.lookup f9 = some ⟨oc9, od9, .func (PySem.W.fnOf "_law_wrong" "_law_wrong" (defArgs s__law_wrong) (defBody s__law_wrong) (defScope s__law_wrong) .none kV9 dc9 pm9 an9 cd9 ct9), sl9⟩) (c9 : PySem.W.codeIn K cd9 "_law_wrong" = true) (k9 : PySem.W.keepIn K (.ref f9) = true)
    {od10 an10 : Option Addr} {sl10 : Array (Option Value)} {oc10 kV10 dc10 pm10 cd10 ct10 : Value}
    (a10 : PySem.W.nsIn K mainGlobals "no_text_row" = some (some (.ref f10))) (l10 : K.lookup f10 = some ⟨oc10, od10, .func (PySem.W.fnOf "no_text_row" "no_text_row" (defArgs s_no_text_row) (defBody s_no_text_row) (defScope s_no_text_row) .none kV10 dc10 pm10 an10 cd10 ct10), sl10⟩) (c10 : PySem.W.codeIn K cd10 "no_text_row" = true) (k10 : PySem.W.keepIn K (.ref f10) = true)
    {od11 an11 : Option Addr} {sl11 : Array (Option Value)} {oc11 kV11 dc11 pm11 cd11 ct11 : Value}
    (a11 : PySem.W.nsIn K mainGlobals "good_signs" = some (some (.ref f11))) (l11 : K.lookup f11 = some ⟨oc11, od11, .func (PySem.W.fnOf "good_signs" "good_signs" (defArgs s_good_signs) (defBody s_good_signs) (defScope s_good_signs) .none kV11 dc11 pm11 an11 cd11 ct11), sl11⟩) (c11 : PySem.W.codeIn K cd11 "good_signs" = true) (k11 : PySem.W.keepIn K (.ref f11) = true)
    {od12 an12 : Option Addr} {sl12 : Array (Option Value)} {oc12 kV12 dc12 pm12 cd12 ct12 : Value}
    (a12 : PySem.W.nsIn K mainGlobals "first_wrong" = some (some (.ref f12))) (l12 : K.lookup f12 = some ⟨oc12, od12, .func (PySem.W.fnOf "first_wrong" "first_wrong" (defArgs s_first_wrong) (defBody s_first_wrong) (defScope s_first_wrong) .none kV12 dc12 pm12 an12 cd12 ct12), sl12⟩) (c12 : PySem.W.codeIn K cd12 "first_wrong" = true) (k12 : PySem.W.keepIn K (.ref f12) = true)
    {od13 an13 : Option Addr} {sl13 : Array (Option Value)} {oc13 kV13 dc13 pm13 cd13 ct13 : Value}
    (a13 : PySem.W.nsIn K mainGlobals "bits_of" = some (some (.ref f13))) (l13 : K.lookup f13 = some ⟨oc13, od13, .func (PySem.W.fnOf "bits_of" "bits_of" (defArgs s_bits_of) (defBody s_bits_of) (defScope s_bits_of) .none kV13 dc13 pm13 an13 cd13 ct13), sl13⟩) (c13 : PySem.W.codeIn K cd13 "bits_of" = true) (k13 : PySem.W.keepIn K (.ref f13) = true)
    {od14 an14 : Option Addr} {sl14 : Array (Option Value)} {oc14 kV14 dc14 pm14 cd14 ct14 : Value}
    (a14 : PySem.W.nsIn K mainGlobals "bytes_of_four" = some (some (.ref f14))) (l14 : K.lookup f14 = some ⟨oc14, od14, .func (PySem.W.fnOf "bytes_of_four" "bytes_of_four" (defArgs s_bytes_of_four) (defBody s_bytes_of_four) (defScope s_bytes_of_four) .none kV14 dc14 pm14 an14 cd14 ct14), sl14⟩) (c14 : PySem.W.codeIn K cd14 "bytes_of_four" = true) (k14 : PySem.W.keepIn K (.ref f14) = true)
    {od15 an15 : Option Addr} {sl15 : Array (Option Value)} {oc15 kV15 dc15 pm15 cd15 ct15 : Value}
    (a15 : PySem.W.nsIn K mainGlobals "may_fill" = some (some (.ref f15))) (l15 : K.lookup f15 = some ⟨oc15, od15, .func (PySem.W.fnOf "may_fill" "may_fill" (defArgs s_may_fill) (defBody s_may_fill) (defScope s_may_fill) .none kV15 dc15 pm15 an15 cd15 ct15), sl15⟩) (c15 : PySem.W.codeIn K cd15 "may_fill" = true) (k15 : PySem.W.keepIn K (.ref f15) = true)
    {od16 an16 : Option Addr} {sl16 : Array (Option Value)} {oc16 kV16 dc16 pm16 cd16 ct16 : Value}
    (a16 : PySem.W.nsIn K mainGlobals "may_stand" = some (some (.ref f16))) (l16 : K.lookup f16 = some ⟨oc16, od16, .func (PySem.W.fnOf "may_stand" "may_stand" (defArgs s_may_stand) (defBody s_may_stand) (defScope s_may_stand) .none kV16 dc16 pm16 an16 cd16 ct16), sl16⟩) (c16 : PySem.W.codeIn K cd16 "may_stand" = true) (k16 : PySem.W.keepIn K (.ref f16) = true)
    {od17 an17 : Option Addr} {sl17 : Array (Option Value)} {oc17 kV17 dc17 pm17 cd17 ct17 : Value}
    (a17 : PySem.W.nsIn K mainGlobals "may_end" = some (some (.ref f17))) (l17 : K.lookup f17 = some ⟨oc17, od17, .func (PySem.W.fnOf "may_end" "may_end" (defArgs s_may_end) (defBody s_may_end) (defScope s_may_end) .none kV17 dc17 pm17 an17 cd17 ct17), sl17⟩) (c17 : PySem.W.codeIn K cd17 "may_end" = true) (k17 : PySem.W.keepIn K (.ref f17) = true)
    {od18 an18 : Option Addr} {sl18 : Array (Option Value)} {oc18 kV18 dc18 pm18 cd18 ct18 : Value}
    (a18 : PySem.W.nsIn K mainGlobals "bytes_of_sixty" = some (some (.ref f18))) (l18 : K.lookup f18 = some ⟨oc18, od18, .func (PySem.W.fnOf "bytes_of_sixty" "bytes_of_sixty" (defArgs s_bytes_of_sixty) (defBody s_bytes_of_sixty) (defScope s_bytes_of_sixty) .none kV18 dc18 pm18 an18 cd18 ct18), sl18⟩) (c18 : PySem.W.codeIn K cd18 "bytes_of_sixty" = true) (k18 : PySem.W.keepIn K (.ref f18) = true)
    {od19 an19 : Option Addr} {sl19 : Array (Option Value)} {oc19 kV19 dc19 pm19 cd19 ct19 : Value}
    (a19 : PySem.W.nsIn K mainGlobals "_law_kind" = some (some (.ref f19))) (l19 : K.lookup f19 = some ⟨oc19, od19, .func (PySem.W.fnOf "_law_kind" "_law_kind" (defArgs s__law_kind) (defBody s__law_kind) (defScope s__law_kind) .none kV19 dc19 pm19 an19 cd19 ct19), sl19⟩) (c19 : PySem.W.codeIn K cd19 "_law_kind" = true) (k19 : PySem.W.keepIn K (.ref f19) = true)
    {od20 an20 : Option Addr} {sl20 : Array (Option Value)} {oc20 kV20 dc20 pm20 cd20 ct20 : Value}
    (a20 : PySem.W.nsIn K mainGlobals "_law_told" = some (some (.ref f20))) (l20 : K.lookup f20 = some ⟨oc20, od20, .func (PySem.W.fnOf "_law_told" "_law_told" (defArgs s__law_told) (defBody s__law_told) (defScope s__law_told) .none kV20 dc20 pm20 an20 cd20 ct20), sl20⟩) (c20 : PySem.W.codeIn K cd20 "_law_told" = true) (k20 : PySem.W.keepIn K (.ref f20) = true)
    {od21 an21 : Option Addr} {sl21 : Array (Option Value)} {oc21 kV21 dc21 pm21 cd21 ct21 : Value}
    (a21 : PySem.W.nsIn K mainGlobals "_law_read" = some (some (.ref f21))) (l21 : K.lookup f21 = some ⟨oc21, od21, .func (PySem.W.fnOf "_law_read" "_law_read" (defArgs s__law_read) (defBody s__law_read) (defScope s__law_read) .none kV21 dc21 pm21 an21 cd21 ct21), sl21⟩) (c21 : PySem.W.codeIn K cd21 "_law_read" = true) (k21 : PySem.W.keepIn K (.ref f21) = true)
    {od22 an22 : Option Addr} {sl22 : Array (Option Value)} {oc22 kV22 dc22 pm22 cd22 ct22 : Value}
    (a22 : PySem.W.nsIn K mainGlobals "_law_whole" = some (some (.ref f22))) (l22 : K.lookup f22 = some ⟨oc22, od22, .func (PySem.W.fnOf "_law_whole" "_law_whole" (defArgs s__law_whole) (defBody s__law_whole) (defScope s__law_whole) .none kV22 dc22 pm22 an22 cd22 ct22), sl22⟩) (c22 : PySem.W.codeIn K cd22 "_law_whole" = true) (k22 : PySem.W.keepIn K (.ref f22) = true)
    {od23 an23 : Option Addr} {sl23 : Array (Option Value)} {oc23 kV23 dc23 pm23 cd23 ct23 : Value}
    (a23 : PySem.W.nsIn K mainGlobals "_law_right" = some (some (.ref f23))) (l23 : K.lookup f23 = some ⟨oc23, od23, .func (PySem.W.fnOf "_law_right" "_law_right" (defArgs s__law_right) (defBody s__law_right) (defScope s__law_right) .none kV23 dc23 pm23 an23 cd23 ct23), sl23⟩) (c23 : PySem.W.codeIn K cd23 "_law_right" = true) (k23 : PySem.W.keepIn K (.ref f23) = true)
    {od24 an24 : Option Addr} {sl24 : Array (Option Value)} {oc24 kV24 dc24 pm24 cd24 ct24 : Value}
    (a24 : PySem.W.nsIn K mainGlobals "_law_bent" = some (some (.ref f24))) (l24 : K.lookup f24 = some ⟨oc24, od24, .func (PySem.W.fnOf "_law_bent" "_law_bent" (defArgs s__law_bent) (defBody s__law_bent) (defScope s__law_bent) .none kV24 dc24 pm24 an24 cd24 ct24), sl24⟩) (c24 : PySem.W.codeIn K cd24 "_law_bent" = true) (k24 : PySem.W.keepIn K (.ref f24) = true)
    {od25 an25 : Option Addr} {sl25 : Array (Option Value)} {oc25 kV25 dc25 pm25 cd25 ct25 : Value}
    (a25 : PySem.W.nsIn K mainGlobals "_law_odd_rows" = some (some (.ref f25))) (l25 : K.lookup f25 = some ⟨oc25, od25, .func (PySem.W.fnOf "_law_odd_rows" "_law_odd_rows" (defArgs s__law_odd_rows) (defBody s__law_odd_rows) (defScope s__law_odd_rows) .none kV25 dc25 pm25 an25 cd25 ct25), sl25⟩) (c25 : PySem.W.codeIn K cd25 "_law_odd_rows" = true) (k25 : PySem.W.keepIn K (.ref f25) = true)
    {od26 an26 : Option Addr} {sl26 : Array (Option Value)} {oc26 kV26 dc26 pm26 cd26 ct26 : Value}
    (a26 : PySem.W.nsIn K mainGlobals "law" = some (some (.ref f26))) (l26 : K.lookup f26 = some ⟨oc26, od26, .func (PySem.W.fnOf "law" "law" (defArgs s_law) (defBody s_law) (defScope s_law) .none kV26 dc26 pm26 an26 cd26 ct26), sl26⟩) (c26 : PySem.W.codeIn K cd26 "law" = true) (k26 : PySem.W.keepIn K (.ref f26) = true)
    {e0 e1 e2 e3 e4 e5 e6 e7 e8 e9 e10 e11 e12 e13 e14 e15 e16 e17 e18 e19 : Addr}
    (m0 : PySem.W.nsIn K mainGlobals "HouseError" = some (some (.ref e0)))
    (m1 : PySem.W.nsIn K mainGlobals "BadBytes" = some (some (.ref e1)))
    (m2 : PySem.W.nsIn K mainGlobals "BadName" = some (some (.ref e2)))
    (m3 : PySem.W.nsIn K mainGlobals "BadValue" = some (some (.ref e3)))
    (m4 : PySem.W.nsIn K mainGlobals "TooLong" = some (some (.ref e4)))
    (m5 : PySem.W.nsIn K mainGlobals "NoTime" = some (some (.ref e5)))
    (m6 : PySem.W.nsIn K mainGlobals "BadPiece" = some (some (.ref e6)))
    (m7 : PySem.W.nsIn K mainGlobals "Twice" = some (some (.ref e7)))
    (m8 : PySem.W.nsIn K mainGlobals "NoLetter" = some (some (.ref e8)))
    (m9 : PySem.W.nsIn K mainGlobals "NoFolder" = some (some (.ref e9)))
    (m10 : PySem.W.nsIn K mainGlobals "BadLine" = some (some (.ref e10)))
    (m11 : PySem.W.nsIn K mainGlobals "Wrong" = some (some (.ref e11)))
    (m12 : PySem.W.nsIn K mainGlobals "BadRow" = some (some (.ref e12)))
    (m13 : PySem.W.nsIn K mainGlobals "BadSixty" = some (some (.ref e13)))
    (m14 : PySem.W.nsIn K mainGlobals "BadSixteens" = some (some (.ref e14)))
    (m15 : PySem.W.nsIn K mainGlobals "BadTime" = some (some (.ref e15)))
    (m16 : PySem.W.nsIn K mainGlobals "BadPeople" = some (some (.ref e16)))
    (m17 : PySem.W.nsIn K mainGlobals "BadHeader" = some (some (.ref e17)))
    (m18 : PySem.W.nsIn K mainGlobals "BadBody" = some (some (.ref e18)))
    (m19 : PySem.W.nsIn K mainGlobals "BadRule" = some (some (.ref e19)))
    (ic0 : PySem.W.isClsIn K e0 = true) (tp0 : PySem.W.typeIn K (.ref e0) = some (.type "type"))
    (ic1 : PySem.W.isClsIn K e1 = true) (tp1 : PySem.W.typeIn K (.ref e1) = some (.type "type"))
    (ic2 : PySem.W.isClsIn K e2 = true) (tp2 : PySem.W.typeIn K (.ref e2) = some (.type "type"))
    (ic3 : PySem.W.isClsIn K e3 = true) (tp3 : PySem.W.typeIn K (.ref e3) = some (.type "type"))
    (ic4 : PySem.W.isClsIn K e4 = true) (tp4 : PySem.W.typeIn K (.ref e4) = some (.type "type"))
    (ic5 : PySem.W.isClsIn K e5 = true) (tp5 : PySem.W.typeIn K (.ref e5) = some (.type "type"))
    (ic6 : PySem.W.isClsIn K e6 = true) (tp6 : PySem.W.typeIn K (.ref e6) = some (.type "type"))
    (ic7 : PySem.W.isClsIn K e7 = true) (tp7 : PySem.W.typeIn K (.ref e7) = some (.type "type"))
    (ic8 : PySem.W.isClsIn K e8 = true) (tp8 : PySem.W.typeIn K (.ref e8) = some (.type "type"))
    (ic9 : PySem.W.isClsIn K e9 = true) (tp9 : PySem.W.typeIn K (.ref e9) = some (.type "type"))
    (ic10 : PySem.W.isClsIn K e10 = true) (tp10 : PySem.W.typeIn K (.ref e10) = some (.type "type"))
    (ic11 : PySem.W.isClsIn K e11 = true) (tp11 : PySem.W.typeIn K (.ref e11) = some (.type "type"))
    (ic12 : PySem.W.isClsIn K e12 = true) (tp12 : PySem.W.typeIn K (.ref e12) = some (.type "type"))
    (ic13 : PySem.W.isClsIn K e13 = true) (tp13 : PySem.W.typeIn K (.ref e13) = some (.type "type"))
    (ic14 : PySem.W.isClsIn K e14 = true) (tp14 : PySem.W.typeIn K (.ref e14) = some (.type "type"))
    (ic15 : PySem.W.isClsIn K e15 = true) (tp15 : PySem.W.typeIn K (.ref e15) = some (.type "type"))
    (ic16 : PySem.W.isClsIn K e16 = true) (tp16 : PySem.W.typeIn K (.ref e16) = some (.type "type"))
    (ic17 : PySem.W.isClsIn K e17 = true) (tp17 : PySem.W.typeIn K (.ref e17) = some (.type "type"))
    (ic18 : PySem.W.isClsIn K e18 = true) (tp18 : PySem.W.typeIn K (.ref e18) = some (.type "type"))
    (ic19 : PySem.W.isClsIn K e19 = true) (tp19 : PySem.W.typeIn K (.ref e19) = some (.type "type"))
    (hb0 : PySem.W.subIn K (.ref e0) (.type "BaseException") = some true)
    (kp13 : PySem.W.keepIn K (.ref e13) = true) (sb13 : PySem.W.subIn K (.ref e13) (.type "BaseException") = some true) (ty13 : PySem.W.typeIn K (.ref e13) = some (.type "type")) (x0_13 : PySem.W.findIn K (.ref e13) "__getattribute__" = some (some (.builtin "BaseException.__getattribute__"))) (x1_13 : PySem.W.findIn K (.ref e13) "__getattr__" = some none) (x2_13 : PySem.W.subIn K (.ref e13) (.type "BaseException") = some true) (x3_13 : PySem.W.hasDictIn K e13 = true) (x4_13 : PySem.W.findIn K (.ref e13) "__class__" = some (some (.builtin "object.__class__"))) (x5_13 : PySem.W.specialIn K (.builtin "object.__class__") "__get__" = some (some (.builtin "getset_descriptor.__get__"))) (x6_13 : PySem.W.takesIn K (.builtin "object.__class__") = some true) (x7_13 : PySem.W.mroIn K e13 (.type "object") = some true) (fi13 : PySem.W.subIn K (.ref e13) (.ref e0) = some true) (ba13 : PySem.W.subIn K (.ref e13) (.type "ValueError") = some true) (ki13_0 : PySem.W.subIn K (.ref e13) (.ref e1) = some false) (nq13_0 : (e13 == e1) = false) (ki13_1 : PySem.W.subIn K (.ref e13) (.ref e2) = some false) (nq13_1 : (e13 == e2) = false) (ki13_2 : PySem.W.subIn K (.ref e13) (.ref e3) = some false) (nq13_2 : (e13 == e3) = false) (ki13_3 : PySem.W.subIn K (.ref e13) (.ref e4) = some false) (nq13_3 : (e13 == e4) = false) (ki13_4 : PySem.W.subIn K (.ref e13) (.ref e5) = some false) (nq13_4 : (e13 == e5) = false) (ki13_5 : PySem.W.subIn K (.ref e13) (.ref e6) = some false) (nq13_5 : (e13 == e6) = false) (ki13_6 : PySem.W.subIn K (.ref e13) (.ref e7) = some false) (nq13_6 : (e13 == e7) = false) (ki13_7 : PySem.W.subIn K (.ref e13) (.ref e8) = some false) (nq13_7 : (e13 == e8) = false) (ki13_8 : PySem.W.subIn K (.ref e13) (.ref e9) = some false) (nq13_8 : (e13 == e9) = false) (ki13_9 : PySem.W.subIn K (.ref e13) (.ref e10) = some false) (nq13_9 : (e13 == e10) = false) (ki13_10 : PySem.W.subIn K (.ref e13) (.ref e11) = some true) (ki13_11 : PySem.W.subIn K (.ref e13) (.ref e12) = some false) (nq13_11 : (e13 == e12) = false) (ki13_12 : PySem.W.subIn K (.ref e13) (.ref e13) = some true) (ki13_13 : PySem.W.subIn K (.ref e13) (.ref e14) = some false) (nq13_13 : (e13 == e14) = false) (ki13_14 : PySem.W.subIn K (.ref e13) (.ref e15) = some false) (nq13_14 : (e13 == e15) = false) (ki13_15 : PySem.W.subIn K (.ref e13) (.ref e16) = some false) (nq13_15 : (e13 == e16) = false) (ki13_16 : PySem.W.subIn K (.ref e13) (.ref e17) = some false) (nq13_16 : (e13 == e17) = false) (ki13_17 : PySem.W.subIn K (.ref e13) (.ref e18) = some false) (nq13_17 : (e13 == e18) = false) (ki13_18 : PySem.W.subIn K (.ref e13) (.ref e19) = some false) (nq13_18 : (e13 == e19) = false) (nl13 : PySem.W.findIn K (.ref e13) "line" = some none) (np13 : PySem.W.findIn K (.ref e13) "place" = some none)
    {fH ccH cdaH TH : Addr} {r0 r1 r2 r3 r4 r5 r6 r7 r8 r9 r10 r11 r12 r13 r14 r15 r16 : Pos} {u0h : Nat} {och kvh doch pmh cth cclh clh octh : Value} {odh anh cddh cldh odth : Option Addr} {slh csh cslh slth : Array (Option Value)} {vsh : Array Value} {dvh : Value} {fileh : Str} {tfh : Tok} {mh : Nat}
    (yi : PySem.W.findIn K (.ref e0) "__init__" = some (some (.ref fH)))
    (yl : K.lookup fH = some ⟨och, odh, .func (PySem.W.ksFn "__init__" "HouseError.__init__" (hA ⟨r0, r1, r2, r3, r4, r5, r6, r7, r8, r9, r10, r11, r12, r13, r14, r15, r16, u0h⟩) (hB ⟨r0, r1, r2, r3, r4, r5, r6, r7, r8, r9, r10, r11, r12, r13, r14, r15, r16, u0h⟩) hS (.ref TH) kvh doch pmh anh (.ref cdaH) cth ccH), slh⟩)
    (yc : PySem.W.codeIn K (.ref cdaH) "HouseError.__init__" = true) (yq1 : (r5.endLine == r6.line) = true) (yq2 : (r14.endLine == r15.line) = true) (yT : K.lookup TH = some ⟨octh, odth, .seq #[dvh] mh, slth⟩)
    (yd : K.lookup cdaH = some ⟨cclh, cddh, .fields vsh, csh⟩) (ye : vsh[2]? = some (.str fileh tfh)) (yf : ((l.prog.main.file : Str) == fileh) = true) (yg : K.lookup ccH = some ⟨clh, cldh, .cell (some (.ref e0)), cslh⟩)
    (yy : PySem.W.typeIn K (.ref fH) = some (.type "function")) (yfn : PySem.W.fnIn K fH = true) (yj : PySem.W.nsIn K mainGlobals "super" = some none) (yk : (l.prog.main.scope.names.lookup ("super" : Str)).isSome = false) (ym : PySem.W.nsIn K cStatics "thirdparty.any" = some none)
    {odn13 : Option Addr} {cdn13 : ClassData} {sln13 : Array (Option Value)} {nmn13 : Str} {tkn13 : Tok}
    (yx13 : PySem.W.excInitIn K e13 bmV "ValueError.__new__" = true) (yo13 : PySem.W.excOver K e13 bmV = true) (ys13 : PySem.W.findIn K (.ref e13) "__setattr__" = some (some (.builtin "object.__setattr__"))) (yt13 : PySem.W.takerIn K e13 "kind" = some none) (yv13 : PySem.W.mroIn K e13 (.ref e0) = some true) (yw13 : PySem.W.ks_superIn K e13 e0 "__init__" = some (some (.builtin "ValueError.__init__"))) (yr13 : PySem.W.readsIn K e13 (.type "type") = true) (yn13 : PySem.W.findCls K (.ref e13) (.type "type") "__name__" = some (.get (.builtin "getset_descriptor.__get__") (.builtin "type.__name__") (.ref e13) (.type "type"))) (yz13 : K.lookup e13 = some ⟨.type "type", odn13, .cls cdn13, sln13⟩) (yza13 : sln13[2]? = some (some (.str nmn13 tkn13))) (yzb13 : nmn13.length ≤ 5592405) (yzc13 : Txt.lower nmn13 = ("badsixty" : Str))
    {fI cc cda : Addr} {q0 q1 q2 q3 q4 q5 q6 q7 q8 q9 q10 q11 q12 q13 q14 q15 q16 q17 q18 q19 q20 q21 q22 : Pos} {u0 u1 : Nat} {ocw docw pmw ctw cclw clw : Value} {odw anw cddw cldw : Option Addr} {slw csw cslw : Array (Option Value)} {vsw : Array Value} {filew : Str} {tfw : Tok}
    (wi : PySem.W.findIn K (.ref e13) "__init__" = some (some (.ref fI)))
    (wl : K.lookup fI = some ⟨ocw, odw, .func (PySem.W.ksFn "__init__" "Wrong.__init__" (iA q0 q1 q2) (iB ⟨q0, q1, q2, q3, q4, q5, q6, q7, q8, q9, q10, q11, q12, q13, q14, q15, q16, q17, q18, q19, q20, q21, q22, u0, u1⟩) iS .none .none docw pmw anw (.ref cda) ctw cc), slw⟩)
    (wc : PySem.W.codeIn K (.ref cda) "Wrong.__init__" = true) (wq : (q5.endLine == q6.line) = true)
    (wd : K.lookup cda = some ⟨cclw, cddw, .fields vsw, csw⟩) (we : vsw[2]? = some (.str filew tfw)) (wf : ((l.prog.main.file : Str) == filew) = true)
    (wg : K.lookup cc = some ⟨clw, cldw, .cell (some (.ref e11)), cslw⟩) (wh : PySem.W.isClsIn K e11 = true) (wj : PySem.W.nsIn K mainGlobals "super" = some none) (wk : (l.prog.main.scope.names.lookup ("super" : Str)).isSome = false) (wm : PySem.W.nsIn K cStatics "thirdparty.any" = some none) (wn : PySem.W.typeIn K (.ref fI) = some (.type "function"))
    (wi13 : PySem.W.findIn K (.ref e13) "__init__" = some (some (.ref fI))) (wx13 : PySem.W.excInitIn K e13 bmV "ValueError.__new__" = true) (wo13 : PySem.W.excOver K e13 bmV = true) (ws13 : PySem.W.findIn K (.ref e13) "__setattr__" = some (some (.builtin "object.__setattr__"))) (wt13 : PySem.W.takerIn K e13 "line" = some none) (wu13 : PySem.W.takerIn K e13 "place" = some none) (wv13 : PySem.W.mroIn K e13 (.ref e11) = some true) (ww13 : PySem.W.ks_superIn K e13 e11 "__init__" = some (some (.ref fH)))
    (z0 : PySem.W.nsIn K mainGlobals "ValueError" = some none)
    (z1 : PySem.W.nsIn K mainGlobals "all" = some none)
    (z2 : PySem.W.nsIn K mainGlobals "bool" = some none)
    (z3 : PySem.W.nsIn K mainGlobals "enumerate" = some none)
    (z4 : PySem.W.nsIn K mainGlobals "int" = some none)
    (z5 : PySem.W.nsIn K mainGlobals "isinstance" = some none)
    (z6 : PySem.W.nsIn K mainGlobals "len" = some none)
    (z7 : PySem.W.nsIn K mainGlobals "list" = some none)
    (z8 : PySem.W.nsIn K mainGlobals "max" = some none)
    (z9 : PySem.W.nsIn K mainGlobals "range" = some none)
    (z10 : PySem.W.nsIn K mainGlobals "str" = some none)
    (z11 : PySem.W.nsIn K mainGlobals "tuple" = some none)
    (v0 : PySem.W.nsIn K mainGlobals "ROW_SIGNS" = some (some (.int 60 t1)))
    (v1 : PySem.W.nsIn K mainGlobals "SIXTY_FOUR" = some (some (.str S64 t2))) :
    ∃ fd : FuncData, (∀ (s : Shared) (v : Value), BindsTo s fd ⟨[v], []⟩ [("_law_script", v)]) ∧ ∀ base : Heap, K.In base → base.Ns mainGlobals mg → FnOk l.prog w K mg base CX0 9 fa fd ["_law_script"] (spLaw K) := by
  have e := hfa.symm.trans (PySem.W.mg_of X G a26)
  cases e
  have F0 := fun_mk (st := s__law_mixed) l0 c0 k0
  have b0 := F0.binds (ps := ["_law_cell", "_law_k"]) fun _ _ _ _ _ _ us hl => match us, hl with | [_, _], _ => rfl
  have F1 := fun_mk (st := s__law_next) l1 c1 k1
  have b1 := F1.binds (ps := ["_law_number_here", "_law_k"]) fun _ _ _ _ _ _ us hl => match us, hl with | [_, _], _ => rfl
  have F2 := fun_mk (st := s__law_bytes) l2 c2 k2
  have b2 := F2.binds (ps := ["_law_script"]) fun _ _ _ _ _ _ us hl => match us, hl with | [_], _ => rfl
  have F3 := fun_mk (st := s__law_bits) l3 c3 k3
  have b3 := F3.binds (ps := ["_law_number_here", "_law_many"]) fun _ _ _ _ _ _ us hl => match us, hl with | [_, _], _ => rfl
  have F4 := fun_mk (st := s__law_number) l4 c4 k4
  have b4 := F4.binds (ps := ["_law_bits_here"]) fun _ _ _ _ _ _ us hl => match us, hl with | [_], _ => rfl
  have F5 := fun_mk (st := s__law_sixty) l5 c5 k5
  have b5 := F5.binds (ps := []) fun _ _ _ _ _ _ us hl => match us, hl with | [], _ => rfl
  have F6 := fun_mk (st := s__law_in_sixty) l6 c6 k6
  have b6 := F6.binds (ps := ["_law_row"]) fun _ _ _ _ _ _ us hl => match us, hl with | [_], _ => rfl
  have F7 := fun_mk (st := s__law_left) l7 c7 k7
  have b7 := F7.binds (ps := ["_law_body"]) fun _ _ _ _ _ _ us hl => match us, hl with | [_], _ => rfl
  have F8 := fun_mk (st := s__law_begins) l8 c8 k8
  have b8 := F8.binds (ps := ["_law_row"]) fun _ _ _ _ _ _ us hl => match us, hl with | [_], _ => rfl
  have F9 := fun_mk (st := s__law_wrong) l9 c9 k9
  have b9 := F9.binds (ps := ["_law_rows"]) fun _ _ _ _ _ _ us hl => match us, hl with | [_], _ => rfl
  have F10 := fun_mk (st := s_no_text_row) l10 c10 k10
  have b10 := F10.binds (ps := ["rows"]) fun _ _ _ _ _ _ us hl => match us, hl with | [_], _ => rfl
  have F11 := fun_mk (st := s_good_signs) l11 c11 k11
  have b11 := F11.binds (ps := ["row", "may_stand"]) fun _ _ _ _ _ _ us hl => match us, hl with | [_, _], _ => rfl
  have F12 := fun_mk (st := s_first_wrong) l12 c12 k12
  have b12 := F12.binds (ps := ["rows", "may_stand", "may_end"]) fun _ _ _ _ _ _ us hl => match us, hl with | [_, _, _], _ => rfl
  have F13 := fun_mk (st := s_bits_of) l13 c13 k13
  have b13 := F13.binds (ps := ["sign"]) fun _ _ _ _ _ _ us hl => match us, hl with | [_], _ => rfl
  have F14 := fun_mk (st := s_bytes_of_four) l14 c14 k14
  have b14 := F14.binds (ps := ["signs"]) fun _ _ _ _ _ _ us hl => match us, hl with | [_], _ => rfl
  have F15 := fun_mk (st := s_may_fill) l15 c15 k15
  have b15 := F15.binds (ps := ["ahead"]) fun _ _ _ _ _ _ us hl => match us, hl with | [_], _ => rfl
  have F16 := fun_mk (st := s_may_stand) l16 c16 k16
  have b16 := F16.binds (ps := ["sign", "ahead"]) fun _ _ _ _ _ _ us hl => match us, hl with | [_, _], _ => rfl
  have F17 := fun_mk (st := s_may_end) l17 c17 k17
  have b17 := F17.binds (ps := ["row", "last"]) fun _ _ _ _ _ _ us hl => match us, hl with | [_, _], _ => rfl
  have F18 := fun_mk (st := s_bytes_of_sixty) l18 c18 k18
  have b18 := F18.binds (ps := ["rows"]) fun _ _ _ _ _ _ us hl => match us, hl with | [_], _ => rfl
  have F19 := fun_mk (st := s__law_kind) l19 c19 k19
  have b19 := F19.binds (ps := ["_law_e"]) fun _ _ _ _ _ _ us hl => match us, hl with | [_], _ => rfl
  have F20 := fun_mk (st := s__law_told) l20 c20 k20
  have b20 := F20.binds (ps := ["_law_rows"]) fun _ _ _ _ _ _ us hl => match us, hl with | [_], _ => rfl
  have F21 := fun_mk (st := s__law_read) l21 c21 k21
  have b21 := F21.binds (ps := ["_law_rows"]) fun _ _ _ _ _ _ us hl => match us, hl with | [_], _ => rfl
  have F22 := fun_mk (st := s__law_whole) l22 c22 k22
  have b22 := F22.binds (ps := ["_law_found"]) fun _ _ _ _ _ _ us hl => match us, hl with | [_], _ => rfl
  have F23 := fun_mk (st := s__law_right) l23 c23 k23
  have b23 := F23.binds (ps := ["_law_rows"]) fun _ _ _ _ _ _ us hl => match us, hl with | [_], _ => rfl
  have F24 := fun_mk (st := s__law_bent) l24 c24 k24
  have b24 := F24.binds (ps := ["_law_rows", "_law_number_here", "_law_menu"]) fun _ _ _ _ _ _ us hl => match us, hl with | [_, _, _], _ => rfl
  have F25 := fun_mk (st := s__law_odd_rows) l25 c25 k25
  have b25 := F25.binds (ps := ["_law_rows", "_law_number_here"]) fun _ _ _ _ _ _ us hl => match us, hl with | [_, _], _ => rfl
  have F26 := fun_mk (st := s_law) l26 c26 k26
  have T : Tx mg (fun i => [t1, t2].getD i t1) := ⟨PySem.W.mg_none_of X G z0, PySem.W.mg_none_of X G z1, PySem.W.mg_none_of X G z2, PySem.W.mg_none_of X G z3, PySem.W.mg_none_of X G z4, PySem.W.mg_none_of X G z5, PySem.W.mg_none_of X G z6, PySem.W.mg_none_of X G z7, PySem.W.mg_none_of X G z8, PySem.W.mg_none_of X G z9, PySem.W.mg_none_of X G z10, PySem.W.mg_none_of X G z11, PySem.W.mg_of X G v0, PySem.W.mg_of X G v1⟩
  have E : Ex K mg (fun i => [e0, e1, e2, e3, e4, e5, e6, e7, e8, e9, e10, e11, e12, e13, e14, e15, e16, e17, e18, e19].getD i e0) := ⟨PySem.W.mg_of X G m0, PySem.W.mg_of X G m1, PySem.W.mg_of X G m2, PySem.W.mg_of X G m3, PySem.W.mg_of X G m4, PySem.W.mg_of X G m5, PySem.W.mg_of X G m6, PySem.W.mg_of X G m7, PySem.W.mg_of X G m8, PySem.W.mg_of X G m9, PySem.W.mg_of X G m10, PySem.W.mg_of X G m11, PySem.W.mg_of X G m12, PySem.W.mg_of X G m13, PySem.W.mg_of X G m14, PySem.W.mg_of X G m15, PySem.W.mg_of X G m16, PySem.W.mg_of X G m17, PySem.W.mg_of X G m18, PySem.W.mg_of X G m19⟩
  have RW_BadSixty : RaiseW K e0 e13 := ⟨⟨x0_13, x1_13, x2_13, x3_13, x4_13, x5_13, x6_13, x7_13⟩, exm_ref hb0 ic0 tp0 fi13, kit_base ba13, nl13, np13⟩
  have KR_BadSixty : KitRow K (fun i => [e0, e1, e2, e3, e4, e5, e6, e7, e8, e9, e10, e11, e12, e13, e14, e15, e16, e17, e18, e19].getD i e0) e13 [false, false, false, false, false, false, false, false, false, false, true, false, true, false, false, false, false, false, false] := ⟨rfl, fun j hj => match j, hj with | 0, _ => kit_ref ic1 tp1 ki13_0 (.inl nq13_0) | 1, _ => kit_ref ic2 tp2 ki13_1 (.inl nq13_1) | 2, _ => kit_ref ic3 tp3 ki13_2 (.inl nq13_2) | 3, _ => kit_ref ic4 tp4 ki13_3 (.inl nq13_3) | 4, _ => kit_ref ic5 tp5 ki13_4 (.inl nq13_4) | 5, _ => kit_ref ic6 tp6 ki13_5 (.inl nq13_5) | 6, _ => kit_ref ic7 tp7 ki13_6 (.inl nq13_6) | 7, _ => kit_ref ic8 tp8 ki13_7 (.inl nq13_7) | 8, _ => kit_ref ic9 tp9 ki13_8 (.inl nq13_8) | 9, _ => kit_ref ic10 tp10 ki13_9 (.inl nq13_9) | 10, _ => kit_ref ic11 tp11 ki13_10 (.inr rfl) | 11, _ => kit_ref ic12 tp12 ki13_11 (.inl nq13_11) | 12, _ => kit_ref ic13 tp13 ki13_12 (.inr rfl) | 13, _ => kit_ref ic14 tp14 ki13_13 (.inl nq13_13) | 14, _ => kit_ref ic15 tp15 ki13_14 (.inl nq13_14) | 15, _ => kit_ref ic16 tp16 ki13_15 (.inl nq13_15) | 16, _ => kit_ref ic17 tp17 ki13_16 (.inl nq13_16) | 17, _ => kit_ref ic18 tp18 ki13_17 (.inl nq13_17) | 18, _ => kit_ref ic19 tp19 ki13_18 (.inl nq13_18) | n + 19, h => absurd h (by omega)⟩
  have WC_BadSixty : WrC l.prog K mg "BadSixty" e13 e11 fI cc cda e0 fH ccH cdaH "badsixty" := ⟨⟨(⟨yx13, yo13, ys13, yt13, x3_13, yy, ⟨_, _, _, _, _, _, _, _, ⟨r0, r1, r2, r3, r4, r5, r6, r7, r8, r9, r10, r11, r12, r13, r14, r15, r16, u0h⟩, _, _, _, _, yl, yc, yq1, yq2, yT, rfl⟩, ⟨_, _, _, _, _, _, yd, ye, yf⟩, ⟨_, _, _, yg⟩, ic0, yv13, yj, yk, ym, yw13, ba13, ⟨x0_13, x1_13, x2_13, x3_13, x4_13, x5_13, x6_13, x7_13⟩, ic13, yr13, yn13, ⟨_, _, _, _, _, yz13, yza13, yzb13, yzc13⟩⟩ : HeTxt l.prog K e13 e0 fH ccH cdaH "badsixty"), wi13, wx13, wo13, ws13, wt13, wu13, x3_13, wn, ⟨_, _, _, _, _, _, _, ⟨q0, q1, q2, q3, q4, q5, q6, q7, q8, q9, q10, q11, q12, q13, q14, q15, q16, q17, q18, q19, q20, q21, q22, u0, u1⟩, wl, wc, wq⟩, ⟨_, _, _, _, _, _, wd, we, wf⟩, ⟨_, _, _, wg⟩, wh, wv13, wj, wk, wm, ww13, yfn, ba13⟩, PySem.W.mg_of X G m13, kp13, sb13, ty13⟩
  refine ⟨PySem.W.fnOf "law" "law" (defArgs s_law) (defBody s_law) (defScope s_law) .none kV26 dc26 pm26 an26 cd26 ct26, fun s v => .of_eq rfl, fun base _ _ => ?_⟩
  have D0 : Def l.prog w K mg base "_law_mixed" 1 f0 _ ["_law_cell", "_law_k"] sp_mixed := ⟨ok_mixed F0, PySem.W.mg_of X G a0, F0.kp, b0⟩
  have D1 : Def l.prog w K mg base "_law_next" 1 f1 _ ["_law_number_here", "_law_k"] sp_next := ⟨ok_next F1, PySem.W.mg_of X G a1, F1.kp, b1⟩
  have D2 : Def l.prog w K mg base "_law_bytes" 2 f2 _ ["_law_script"] (sp_lbytes K) := ⟨ok_lbytes F2 T D0 D1, PySem.W.mg_of X G a2, F2.kp, b2⟩
  have D3 : Def l.prog w K mg base "_law_bits" 1 f3 _ ["_law_number_here", "_law_many"] sp_lbits := ⟨ok_lbits F3 T, PySem.W.mg_of X G a3, F3.kp, b3⟩
  have D4 : Def l.prog w K mg base "_law_number" 1 f4 _ ["_law_bits_here"] sp_lnumber := ⟨ok_lnumber F4 T, PySem.W.mg_of X G a4, F4.kp, b4⟩
  have D5 : Def l.prog w K mg base "_law_sixty" 1 f5 _ [] sp_lsixty := ⟨ok_lsixty F5, PySem.W.mg_of X G a5, F5.kp, b5⟩
  have D6 : Def l.prog w K mg base "_law_in_sixty" 2 f6 _ ["_law_row"] sp_in_sixty := ⟨ok_in_sixty F6 T D3 D4 D5, PySem.W.mg_of X G a6, F6.kp, b6⟩
  have D7 : Def l.prog w K mg base "_law_left" 2 f7 _ ["_law_body"] sp_lleft := ⟨ok_lleft F7 T D5, PySem.W.mg_of X G a7, F7.kp, b7⟩
  have D8 : Def l.prog w K mg base "_law_begins" 3 f8 _ ["_law_row"] sp_lbegins := ⟨ok_lbegins F8 T D5 D7, PySem.W.mg_of X G a8, F8.kp, b8⟩
  have D9 : Def l.prog w K mg base "_law_wrong" 4 f9 _ ["_law_rows"] sp_lwrong := ⟨ok_lwrong F9 T D8, PySem.W.mg_of X G a9, F9.kp, b9⟩
  have D10 : Def l.prog w K mg base "no_text_row" 1 f10 _ ["rows"] (sp_no_textX K) := ⟨ok_no_textX F10 T, PySem.W.mg_of X G a10, F10.kp, b10⟩
  have D11 : Def l.prog w K mg base "good_signs" 4 f11 _ ["row", "may_stand"] (sp_good l.prog w K mg base) := ⟨ok_good F11 T, PySem.W.mg_of X G a11, F11.kp, b11⟩
  have D12 : Def l.prog w K mg base "first_wrong" 5 f12 _ ["rows", "may_stand", "may_end"] (sp_first l.prog w K mg base) := ⟨ok_first F12 T D10 D11, PySem.W.mg_of X G a12, F12.kp, b12⟩
  have D13 : Def l.prog w K mg base "bits_of" 1 f13 _ ["sign"] sp_bits := ⟨ok_bits F13 T, PySem.W.mg_of X G a13, F13.kp, b13⟩
  have D14 : Def l.prog w K mg base "bytes_of_four" 2 f14 _ ["signs"] sp_four := ⟨ok_four F14 T D13, PySem.W.mg_of X G a14, F14.kp, b14⟩
  have D15 : Def l.prog w K mg base "may_fill" 2 f15 _ ["ahead"] sp_fill := ⟨ok_fill F15 T D13, PySem.W.mg_of X G a15, F15.kp, b15⟩
  have D16 : Def l.prog w K mg base "may_stand" 3 f16 _ ["sign", "ahead"] sp_stand := ⟨ok_stand F16 T D15, PySem.W.mg_of X G a16, F16.kp, b16⟩
  have D17 : Def l.prog w K mg base "may_end" 1 f17 _ ["row", "last"] sp_end := ⟨ok_end F17 T, PySem.W.mg_of X G a17, F17.kp, b17⟩
  have DX18 : DefX l.prog w K mg base "bytes_of_sixty" 6 f18 _ ["rows"] (sp_sixtyX K ((fun i => [e0, e1, e2, e3, e4, e5, e6, e7, e8, e9, e10, e11, e12, e13, e14, e15, e16, e17, e18, e19].getD i e0) 13)) := ⟨ok_sixtyX (ca := (fun i => [e0, e1, e2, e3, e4, e5, e6, e7, e8, e9, e10, e11, e12, e13, e14, e15, e16, e17, e18, e19].getD i e0)) F18 T WC_BadSixty D12 D14 D16 D17, PySem.W.mg_of X G a18, F18.kp, b18⟩
  have D19 : Def l.prog w K mg base "_law_kind" 1 f19 _ ["_law_e"] (sp_kind K (fun i => [e0, e1, e2, e3, e4, e5, e6, e7, e8, e9, e10, e11, e12, e13, e14, e15, e16, e17, e18, e19].getD i e0)) := ⟨ok_kind (ca := (fun i => [e0, e1, e2, e3, e4, e5, e6, e7, e8, e9, e10, e11, e12, e13, e14, e15, e16, e17, e18, e19].getD i e0)) F19 T E, PySem.W.mg_of X G a19, F19.kp, b19⟩
  have D20 : Def l.prog w K mg base "_law_told" 7 f20 _ ["_law_rows"] (sp_toldW K) := ⟨ok_toldW (ca := (fun i => [e0, e1, e2, e3, e4, e5, e6, e7, e8, e9, e10, e11, e12, e13, e14, e15, e16, e17, e18, e19].getD i e0)) F20 T E RW_BadSixty KR_BadSixty DX18 D19, PySem.W.mg_of X G a20, F20.kp, b20⟩
  have D21 : Def l.prog w K mg base "_law_read" 2 f21 _ ["_law_rows"] sp_lread := ⟨ok_lread F21 T D5 D3 D4, PySem.W.mg_of X G a21, F21.kp, b21⟩
  have D22 : Def l.prog w K mg base "_law_whole" 1 f22 _ ["_law_found"] sp_whole := ⟨ok_whole F22 T, PySem.W.mg_of X G a22, F22.kp, b22⟩
  have D23 : Def l.prog w K mg base "_law_right" 8 f23 _ ["_law_rows"] sp_right := ⟨ok_right F23 T D9 D20 D21 D22, PySem.W.mg_of X G a23, F23.kp, b23⟩
  have D24 : Def l.prog w K mg base "_law_bent" 1 f24 _ ["_law_rows", "_law_number_here", "_law_menu"] sp_bent := ⟨ok_bent F24 T, PySem.W.mg_of X G a24, F24.kp, b24⟩
  have D25 : Def l.prog w K mg base "_law_odd_rows" 1 f25 _ ["_law_rows", "_law_number_here"] (sp_odd K) := ⟨ok_odd F25 T, PySem.W.mg_of X G a25, F25.kp, b25⟩
  exact ok_law F26 T D2 D6 D5 D1 D23 D0 D24 D25 D20
end K06
open PySem PySem.W PyProof.Rows
set_option maxHeartbeats 0 in
theorem PySem.Challenge.cw_letterhouse_k06_sixty_read_or_refused_holds : PySem.Challenge.rw_letterhouse_k06_sixty_read_or_refused.Holds := by
  w_on; o_law; k_head; (case hw => w_witness2)
  k_fill
  refine L2.walk_of (l := PySem.Challenge.rw_letterhouse_k06_sixty_read_or_refused) (n := 63) (k := 9) (x := "_law_script") (CX := fun _ => L2.CX0) (sp := fun w => K06.spLaw _) rfl (by decide) rfl ⟨rfl, by decide, by decide⟩ (fun w h Y => PySem.W.kIn_of Y) ?F (fun _ _ a ns hl _ hS => ⟨a, ns, rfl, hS, hl, fun _ => rfl⟩) (fun _ _ _ _ _ h => h)
  case F =>
    intro w mg fa h KX G hmg
    refine' K06.all_mk KX G hmg ?a0 ?l0 ?c0 ?k0 ?a1 ?l1 ?c1 ?k1 ?a2 ?l2 ?c2 ?k2 ?a3 ?l3 ?c3 ?k3 ?a4 ?l4 ?c4 ?k4 ?a5 ?l5 ?c5 ?k5 ?a6 ?l6 ?c6 ?k6 ?a7 ?l7 ?c7 ?k7 ?a8 ?l8 ?c8 ?k8 ?a9 ?l9 ?c9 ?k9 ?a10 ?l10 ?c10 ?k10 ?a11 ?l11 ?c11 ?k11 ?a12 ?l12 ?c12 ?k12 ?a13 ?l13 ?c13 ?k13 ?a14 ?l14 ?c14 ?k14 ?a15 ?l15 ?c15 ?k15 ?a16 ?l16 ?c16 ?k16 ?a17 ?l17 ?c17 ?k17 ?a18 ?l18 ?c18 ?k18 ?a19 ?l19 ?c19 ?k19 ?a20 ?l20 ?c20 ?k20 ?a21 ?l21 ?c21 ?k21 ?a22 ?l22 ?c22 ?k22 ?a23 ?l23 ?c23 ?k23 ?a24 ?l24 ?c24 ?k24 ?a25 ?l25 ?c25 ?k25 ?a26 ?l26 ?c26 ?k26 ?m0 ?m1 ?m2 ?m3 ?m4 ?m5 ?m6 ?m7 ?m8 ?m9 ?m10 ?m11 ?m12 ?m13 ?m14 ?m15 ?m16 ?m17 ?m18 ?m19 ?ic0 ?tp0 ?ic1 ?tp1 ?ic2 ?tp2 ?ic3 ?tp3 ?ic4 ?tp4 ?ic5 ?tp5 ?ic6 ?tp6 ?ic7 ?tp7 ?ic8 ?tp8 ?ic9 ?tp9 ?ic10 ?tp10 ?ic11 ?tp11 ?ic12 ?tp12 ?ic13 ?tp13 ?ic14 ?tp14 ?ic15 ?tp15 ?ic16 ?tp16 ?ic17 ?tp17 ?ic18 ?tp18 ?ic19 ?tp19 ?hb0 ?kp13 ?sb13 ?ty13 ?x0_13 ?x1_13 ?x2_13 ?x3_13 ?x4_13 ?x5_13 ?x6_13 ?x7_13 ?fi13 ?ba13 ?ki13_0 ?nq13_0 ?ki13_1 ?nq13_1 ?ki13_2 ?nq13_2 ?ki13_3 ?nq13_3 ?ki13_4 ?nq13_4 ?ki13_5 ?nq13_5 ?ki13_6 ?nq13_6 ?ki13_7 ?nq13_7 ?ki13_8 ?nq13_8 ?ki13_9 ?nq13_9 ?ki13_10 ?ki13_11 ?nq13_11 ?ki13_12 ?ki13_13 ?nq13_13 ?ki13_14 ?nq13_14 ?ki13_15 ?nq13_15 ?ki13_16 ?nq13_16 ?ki13_17 ?nq13_17 ?ki13_18 ?nq13_18 ?nl13 ?np13 ?yi ?yl ?yc ?yq1 ?yq2 ?yT ?yd ?ye ?yf ?yg ?yy ?yfn ?yj ?yk ?ym ?yx13 ?yo13 ?ys13 ?yt13 ?yv13 ?yw13 ?yr13 ?yn13 ?yz13 ?yza13 ?yzb13 ?yzc13 ?wi ?wl ?wc ?wq ?wd ?we ?wf ?wg ?wh ?wj ?wk ?wm ?wn ?wi13 ?wx13 ?wo13 ?ws13 ?wt13 ?wu13 ?wv13 ?ww13 ?z0 ?z1 ?z2 ?z3 ?z4 ?z5 ?z6 ?z7 ?z8 ?z9 ?z10 ?z11 ?v0 ?v1
    (case a0 => k_is); (case l0 => k_is); (case c0 => k_is); (case k0 => k_is); (case a1 => k_is); (case l1 => k_is); (case c1 => k_is); (case k1 => k_is); (case a2 => k_is); (case l2 => k_is); (case c2 => k_is); (case k2 => k_is); (case a3 => k_is); (case l3 => k_is); (case c3 => k_is); (case k3 => k_is); (case a4 => k_is); (case l4 => k_is); (case c4 => k_is); (case k4 => k_is); (case a5 => k_is); (case l5 => k_is); (case c5 => k_is); (case k5 => k_is); (case a6 => k_is); (case l6 => k_is); (case c6 => k_is); (case k6 => k_is); (case a7 => k_is); (case l7 => k_is); (case c7 => k_is); (case k7 => k_is); (case a8 => k_is); (case l8 => k_is); (case c8 => k_is); (case k8 => k_is); (case a9 => k_is); (case l9 => k_is); (case c9 => k_is); (case k9 => k_is); (case a10 => k_is); (case l10 => k_is); (case c10 => k_is); (case k10 => k_is); (case a11 => k_is); (case l11 => k_is); (case c11 => k_is); (case k11 => k_is); (case a12 => k_is); (case l12 => k_is); (case c12 => k_is); (case k12 => k_is); (case a13 => k_is); (case l13 => k_is); (case c13 => k_is); (case k13 => k_is); (case a14 => k_is); (case l14 => k_is); (case c14 => k_is); (case k14 => k_is); (case a15 => k_is); (case l15 => k_is); (case c15 => k_is); (case k15 => k_is); (case a16 => k_is); (case l16 => k_is); (case c16 => k_is); (case k16 => k_is); (case a17 => k_is); (case l17 => k_is); (case c17 => k_is); (case k17 => k_is); (case a18 => k_is); (case l18 => k_is); (case c18 => k_is); (case k18 => k_is); (case a19 => k_is); (case l19 => k_is); (case c19 => k_is); (case k19 => k_is); (case a20 => k_is); (case l20 => k_is); (case c20 => k_is); (case k20 => k_is); (case a21 => k_is); (case l21 => k_is); (case c21 => k_is); (case k21 => k_is); (case a22 => k_is); (case l22 => k_is); (case c22 => k_is); (case k22 => k_is); (case a23 => k_is); (case l23 => k_is); (case c23 => k_is); (case k23 => k_is); (case a24 => k_is); (case l24 => k_is); (case c24 => k_is); (case k24 => k_is); (case a25 => k_is); (case l25 => k_is); (case c25 => k_is); (case k25 => k_is); (case a26 => k_is); (case l26 => k_is); (case c26 => k_is); (case k26 => k_is); (case m0 => k_is); (case m1 => k_is); (case m2 => k_is); (case m3 => k_is); (case m4 => k_is); (case m5 => k_is); (case m6 => k_is); (case m7 => k_is); (case m8 => k_is); (case m9 => k_is); (case m10 => k_is); (case m11 => k_is); (case m12 => k_is); (case m13 => k_is); (case m14 => k_is); (case m15 => k_is); (case m16 => k_is); (case m17 => k_is); (case m18 => k_is); (case m19 => k_is); (case ic0 => k_is); (case tp0 => k_is); (case ic1 => k_is); (case tp1 => k_is); (case ic2 => k_is); (case tp2 => k_is); (case ic3 => k_is); (case tp3 => k_is); (case ic4 => k_is); (case tp4 => k_is); (case ic5 => k_is); (case tp5 => k_is); (case ic6 => k_is); (case tp6 => k_is); (case ic7 => k_is); (case tp7 => k_is); (case ic8 => k_is); (case tp8 => k_is); (case ic9 => k_is); (case tp9 => k_is); (case ic10 => k_is); (case tp10 => k_is); (case ic11 => k_is); (case tp11 => k_is); (case ic12 => k_is); (case tp12 => k_is); (case ic13 => k_is); (case tp13 => k_is); (case ic14 => k_is); (case tp14 => k_is); (case ic15 => k_is); (case tp15 => k_is); (case ic16 => k_is); (case tp16 => k_is); (case ic17 => k_is); (case tp17 => k_is); (case ic18 => k_is); (case tp18 => k_is); (case ic19 => k_is); (case tp19 => k_is); (case hb0 => k_is); (case kp13 => k_is); (case sb13 => k_is); (case ty13 => k_is); (case x0_13 => k_is); (case x1_13 => k_is); (case x2_13 => k_is); (case x3_13 => k_is); (case x4_13 => k_is); (case x5_13 => k_is); (case x6_13 => k_is); (case x7_13 => k_is); (case fi13 => k_is); (case ba13 => k_is); (case ki13_0 => k_is); (case nq13_0 => exact rfl); (case ki13_1 => k_is); (case nq13_1 => exact rfl); (case ki13_2 => k_is); (case nq13_2 => exact rfl); (case ki13_3 => k_is); (case nq13_3 => exact rfl); (case ki13_4 => k_is); (case nq13_4 => exact rfl); (case ki13_5 => k_is); (case nq13_5 => exact rfl); (case ki13_6 => k_is); (case nq13_6 => exact rfl); (case ki13_7 => k_is); (case nq13_7 => exact rfl); (case ki13_8 => k_is); (case nq13_8 => exact rfl); (case ki13_9 => k_is); (case nq13_9 => exact rfl); (case ki13_10 => k_is); (case ki13_11 => k_is); (case nq13_11 => exact rfl); (case ki13_12 => k_is); (case ki13_13 => k_is); (case nq13_13 => exact rfl); (case ki13_14 => k_is); (case nq13_14 => exact rfl); (case ki13_15 => k_is); (case nq13_15 => exact rfl); (case ki13_16 => k_is); (case nq13_16 => exact rfl); (case ki13_17 => k_is); (case nq13_17 => exact rfl); (case ki13_18 => k_is); (case nq13_18 => exact rfl); (case nl13 => k_is); (case np13 => k_is); (case yi => k_is); (case yl => k_is); (case yc => k_is); (case yq1 => exact rfl); (case yq2 => exact rfl); (case yT => k_is); (case yd => k_is); (case ye => exact rfl); (case yf => decide +kernel); (case yg => k_is); (case yy => k_is); (case yfn => k_is); (case yj => k_is); (case yk => decide +kernel); (case ym => k_is); (case yx13 => kx_is); (case yo13 => kx_is); (case ys13 => k_is); (case yt13 => k_is); (case yv13 => k_is); (case yw13 => ks_is); (case yr13 => k_is); (case yn13 => k_is); (case yz13 => k_is); (case yza13 => exact rfl); (case yzb13 => decide +kernel); (case yzc13 => decide +kernel); (case wi => k_is); (case wl => k_is); (case wc => k_is); (case wq => exact rfl); (case wd => k_is); (case we => exact rfl); (case wf => decide +kernel); (case wg => k_is); (case wh => k_is); (case wj => k_is); (case wk => decide +kernel); (case wm => k_is); (case wn => k_is); (case wi13 => k_is); (case wx13 => kx_is); (case wo13 => kx_is); (case ws13 => k_is); (case wt13 => k_is); (case wu13 => k_is); (case wv13 => k_is); (case ww13 => ks_is); (case z0 => k_is); (case z1 => k_is); (case z2 => k_is); (case z3 => k_is); (case z4 => k_is); (case z5 => k_is); (case z6 => k_is); (case z7 => k_is); (case z8 => k_is); (case z9 => k_is); (case z10 => k_is); (case z11 => k_is); (case v0 => k_is); (case v1 => k_is)

