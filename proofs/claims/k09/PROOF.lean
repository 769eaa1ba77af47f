import PyProof.Rows.All
import Wide.All
import OpenK.AllK
import Wide.FinOn
import HandS.ForMost
import HandS.Walk
import HandS.IsInst
import HandS.MapJoin
import HandS.Style
import HandS.FStr
import HandS.IntHex
import HandS.StrMore
import HandS.Codes
import HandS.Deep
import HandS.Replace
import HandS.ForExc
import HandS.ExcIs
import HandS.Ends
import HandS.JoinGen
import HandS.TupAny
import HandS.TryOnly
import HandS.DictTup
import HandS.ReplaceLit
import KE.KTupSum
import KE.GoesMore
import KE.GoesEnum
import KE.KDictZip
import KE.KDictList
import KE.KxField
import KE.KExcLine
import KE.KExcIs
import KE.KTypeName
import PyProof.Rows.StrIntSpec
import PyProof.FString3
import PyProof.CollectIter
import PyProof.Walks
import PyProof.WalksS
import PyProof.EqKinds
import PyProof.ToksMono
import PySem.Challenge.RW_letterhouse_k09_values_of_bytes
set_option Elab.async false
set_option linter.all false
set_option maxRecDepth 100000
namespace LH
open PySem PySem.Spec PyProof.Rows L2
/-! ### heaps -/
theorem same_upd {H : Hp} {p : Addr} {o : HO} (h : H p = none) : Same H (upd H p o) := fun b x e => by
  rw [upd_ne (ne_of_none e h)]
  exact e
theorem seqT {K : PySem.W.Frag} {H H' : Hp} {a : Addr} {xs : List V} (e : Same H H') (h : SqT K H a xs) : SqT K H' a xs := by
  rcases h with (h | ⟨o, h⟩) | h
  · exact .inl (.inl (e _ _ h))
  · exact .inl (.inr ⟨o, e _ _ h⟩)
  · exact .inr h
/-- a list that is told new, in a heap that keeps all that stood -/
def New (H : Hp) (xs : List V) (Q : VK) : Prop := ∀ H' p, Same H H' → H p = none → H' p = some (.lst xs) → Q (.ref p) H'
/-- a value that is told in a heap that keeps all that stood -/
def Tell (H : Hp) (v : V) (Q : VK) : Prop := ∀ H', Same H H' → Q v H'
/-! ### a comprehension over anything that yields xs 0 .. xs (n - 1), its element f i -/
theorem lc_pure {J : It} {n : Nat} {G : Hp → Prop} {te : TE} {c : Nat} {σ : L2.St} {H1 : Hp} {D : Addr} {Qd : Hp → Prop} (xs f : Nat → V) (w : Walk J n G (YFn xs)) (hG : ∀ H, Same H1 H → G H) (hD : H1 D = none) (hn : n ≤ sizeLine)
    (he : ∀ i H Q, i < n → Same H1 H → Tell H (f i) Q → te ((σ.set c none).set c (some (xs i))) H Q)
    (hd : ∀ H, Same H1 H → H D = some (.lst ((List.range n).map f)) → Qd H) :
    ∃ W : Nat → Nat → Hp → Prop, (∃ m, W 0 m (upd H1 D (.lst []))) ∧ ∀ i m H, W i m H →
      (J.stop i H ∧ Qd H) ∨ (J.go i H ∧ ∃ Nx : Hp → Prop, (∀ H', Nx H' → ∃ m', m' < m ∧ W (i + 1) m' H') ∧ ∀ x H', J.yld i H x H' → gName c x (wipe σ [c]) H' fun σ2 H2 => wipe σ2 [c] = wipe σ [c] ∧ tYes σ2 H2 fun b H3 =>
        if b = true then te σ2 H3 fun y H4 => ∃ acc, H4 D = some (.lst acc) ∧ acc.length < sizeLine ∧ Nx (upd H4 D (.lst (acc ++ [y]))) else Nx H3) := by
  refine lc_it w (fun i H => Same H1 H ∧ H D = some (.lst ((List.range i).map f))) ⟨same_upd hD, upd_same⟩ (fun i H _ h => hG H h.1) (fun i x H H' hi hP hy => ?_) (fun H h => hd H h.1 h.2)
  obtain ⟨sm, eD⟩ := hP
  obtain ⟨rfl, rfl⟩ := hy
  refine ⟨?_, ?_⟩
  rotate_left
  · show (if true = true then te ((σ.set c none).set c (some (xs i))) H' fun y H4 => ∃ acc, H4 D = some (.lst acc) ∧ acc.length < sizeLine ∧ Same H1 (upd H4 D (.lst (acc ++ [y]))) ∧ upd H4 D (.lst (acc ++ [y])) D = some (.lst ((List.range (i + 1)).map f)) else (Same H1 H' ∧ H' D = some (.lst ((List.range (i + 1)).map f))))
    rw [if_pos rfl]
    refine he i H' _ hi sm fun H2 s2 => ⟨_, s2 _ _ eD, ?_, ?_, ?_⟩
    · rw [List.length_map, List.length_range]
      omega
    · intro b o hb
      rw [upd_ne (ne_of_none hb hD)]
      exact s2 _ _ (sm _ _ hb)
    · rw [upd_same, List.range_succ, List.map_append]
      rfl
  · show (((σ.set c none).set c (some (xs i))).set c none) = σ.set c none
    rw [List.set_set, List.set_set]
/-! ### a def as its callers see it -/
structure Def (P : Program) (w : World) (K : PySem.W.Frag) (mg : Str → Option Value) (base : Heap) (x : Str) (k : Nat) (f : Addr) (fd : FuncData) (ps : List Str) (sp : Sp) : Prop where
  ok : FnOk P w K mg base CX0 k f fd ps sp
  mg : mg x = some (.ref f)
  kp : PySem.W.keepIn K (.ref f) = true
  bd : Binds K fd ps []
section
variable {X : Cx} {x : Str} {k j : Nat} {f : Addr} {fd : FuncData} {ps : List Str} {sp : Sp} {e : Expr} {es : List Expr} {t : TA} {p pos : Pos}
theorem pe_def (D : Def X.prog X.w X.K X.mg X.base x k f fd ps sp) (hr : Room k X.A) (ha : PA X (e :: es) t) (hg : Gl X x := by rfl) (hdb : (x == ("__debug__" : Str)) = false := by decide)
    (he : starEach (e :: es) X.env = (false, eval e X.env) :: starEach es X.env := by rfl) (hpl : (backTo pos (starEach es X.env)).any (·.1) = false := by rfl) : PE X (.Call (.Name x p) (e :: es) [] pos) (tCall sp [] E0 t) :=
  pe_call D.ok hr hg D.mg D.kp D.bd .nil pass0 ha hdb he hpl
theorem pe_def0 (D : Def X.prog X.w X.K X.mg X.base x k f fd ps sp) (hr : Room k X.A) (hg : Gl X x := by rfl) (hdb : (x == ("__debug__" : Str)) = false := by decide) : PE X (.Call (.Name x p) [] [] pos) (tCall sp [] E0 tNil) :=
  pe_call0 D.ok hr hg D.mg D.kp D.bd .nil pass0 hdb
end
/-! ### a text times a number -/
section
variable {X : Cx}
def repS (x : Str) (n : Int) : Str := ⟨(List.replicate n.toNat x.cps.toList).flatten.toArray⟩
theorem foldl_app (l : List (Array Nat)) : ∀ a : Array Nat, (l.foldl (· ++ ·) a).toList = a.toList ++ (l.map (·.toList)).flatten := by
  induction l with
  | nil => intro a; simp
  | cons x r ih => intro a; simp [ih]
theorem mul_rep (x : Str) (n : Int) : Txt.mul x n = repS x n := by
  unfold Txt.mul repS
  by_cases h : n < 1
  · rw [if_pos h, show n.toNat = 0 by omega]
    rfl
  · rw [if_neg h]
    by_cases h2 : (n == 1 || x.length == 0) = true
    · rw [if_pos h2]
      refine TL.ext_tl ?_
      show x.cps.toList = (List.replicate n.toNat x.cps.toList).flatten
      rcases (Bool.or_eq_true _ _).mp h2 with e | e
      · have : n = 1 := eq_of_beq e
        subst this
        simp
      · have : x.cps.toList = [] := by
          have e' : x.length = 0 := eq_of_beq e
          have e3 : x.cps.toList.length = 0 := by simpa [Str.length] using e'
          exact List.length_eq_zero_iff.mp e3
        rw [this]
        simp
    · rw [if_neg h2]
      refine TL.ext_tl ?_
      show ((List.replicate n.toNat x.cps).foldl (· ++ ·) #[]).toList = (List.replicate n.toNat x.cps.toList).flatten
      rw [foldl_app]
      simp
theorem op_mul_str : OpR X (binaryOp .Mult) (fun x y H Q => ∃ z n, x = .str z ∧ y = .int n ∧ -(2 ^ 63) ≤ n ∧ n ≤ 4096 ∧ z.length ≤ 4096 ∧ Q (.str (repS z n)) H) := by
  intro pins s σ H x y v u Q I rx ry h
  obtain ⟨z, n, rfl, rfl, h0, h1, h2, q⟩ := h
  obtain ⟨t, rfl⟩ := rx
  obtain ⟨t', rfl⟩ := ry
  refine SB.mul (mulOk_of 4096 4096 h2 (by exact_mod_cast h1) h0 (by decide) (by decide)) fun t2 k => ?_
  rw [mul_rep]
  exact ⟨.str (repS z n), H, I.tok _, ⟨_, rfl⟩, q⟩
end
/-! ### chunks -/
def chunks {α : Type} (k : Nat) (t : List α) : List (List α) := (List.range ((t.length + (k - 1)) / k)).map fun i => (t.drop (i * k)).take k
theorem chunks_nil {α : Type} {k : Nat} (hk : 0 < k) : chunks k ([] : List α) = [] := by
  unfold chunks
  rw [show (([] : List α).length + (k - 1)) / k = 0 from Nat.div_eq_of_lt (by simp; omega)]
  rfl
theorem chunks_cons {α : Type} {k : Nat} (hk : 0 < k) {t : List α} (ht : t ≠ []) : chunks k t = t.take k :: chunks k (t.drop k) := by
  unfold chunks
  have hl : 0 < t.length := List.length_pos_iff.mpr ht
  have e : (t.length + (k - 1)) / k = ((t.drop k).length + (k - 1)) / k + 1 := by
    rw [List.length_drop]
    by_cases h : t.length ≤ k
    · rw [show t.length - k = 0 by omega, show (0 + (k - 1)) / k = 0 from Nat.div_eq_of_lt (by omega)]
      exact Nat.div_eq_of_lt_le (by omega) (by omega)
    · rw [show t.length + (k - 1) = (t.length - k + (k - 1)) + k by omega, Nat.add_div_right _ hk]
  rw [e, List.range_succ_eq_map, List.map_cons, List.map_map]
  congr 1
  · simp
  · refine List.map_congr_left fun i _ => ?_
    show (t.drop ((i + 1) * k)).take k = ((t.drop k).drop (i * k)).take k
    rw [List.drop_drop, Nat.succ_mul, Nat.add_comm]
/-! ### slices and ranges -/
theorem cutS_at (z : Str) (a b : Nat) : cutS z (some (a : Int)) (some (b : Int)) = ⟨((TL.tl z).drop a |>.take (b - a)).toArray⟩ := by
  unfold cutS
  rw [HT.sIx_nat, HT.sIx_nat]
  refine TL.ext_tl ?_
  show ((TL.tl z).drop (min a z.length)).take (min b z.length - min a z.length) = ((TL.tl z).drop a).take (b - a)
  have hz : z.length = (TL.tl z).length := TL.len_tl z
  rw [hz]
  generalize TL.tl z = l
  by_cases h : a ≤ l.length
  · rw [Nat.min_eq_left h]
    by_cases h2 : b ≤ l.length
    · rw [Nat.min_eq_left h2]
    · rw [Nat.min_eq_right (by omega), List.take_of_length_le (by rw [List.length_drop]; omega), List.take_of_length_le (by rw [List.length_drop]; omega)]
  · have h' : l.length ≤ a := by omega
    rw [Nat.min_eq_right h', List.drop_of_length_le (Nat.le_refl _), List.drop_of_length_le h']
    simp
theorem cutV_at (z : List V) (a b : Nat) : cutV z (some (a : Int)) (some (b : Int)) = (z.drop a).take (b - a) := by
  unfold cutV
  rw [HT.sIx_nat, HT.sIx_nat]
  by_cases h : a ≤ z.length
  · rw [Nat.min_eq_left h]
    by_cases h2 : b ≤ z.length
    · rw [Nat.min_eq_left h2]
    · rw [Nat.min_eq_right (by omega), List.take_of_length_le (by rw [List.length_drop]; omega), List.take_of_length_le (by rw [List.length_drop]; omega)]
  · have h' : z.length ≤ a := by omega
    rw [Nat.min_eq_right h', List.drop_of_length_le (Nat.le_refl _), List.drop_of_length_le h']
    simp
theorem cutV_to (z : List V) (b : Nat) : cutV z none (some (b : Int)) = z.take b := by
  unfold cutV
  rw [HT.sIx_nat, HT.sIx_none]
  by_cases h2 : b ≤ z.length
  · rw [Nat.min_eq_left h2]; simp
  · rw [Nat.min_eq_right (by omega), List.take_of_length_le (by simp), List.take_of_length_le (by omega)]; simp
theorem cutS_to (z : Str) (b : Nat) : cutS z none (some (b : Int)) = ⟨((TL.tl z).take b).toArray⟩ := by
  have := cutS_at z 0 b
  have e : cutS z none (some (b : Int)) = cutS z (some ((0 : Nat) : Int)) (some (b : Int)) := by
    unfold cutS
    rw [HT.sIx_none, HT.sIx_nat, HT.sIx_nat, Nat.zero_min]
  rw [e, this]
  simp
theorem cutS_from (z : Str) (a : Nat) : cutS z (some (a : Int)) none = ⟨((TL.tl z).drop a).toArray⟩ := by
  have e : cutS z (some (a : Int)) none = cutS z (some (a : Int)) (some ((z.length : Nat) : Int)) := by
    unfold cutS
    rw [HT.sIx_none, HT.sIx_nat, HT.sIx_nat]
    simp
  rw [e, cutS_at, TL.len_tl, List.take_of_length_le (by simp)]
theorem rgC (n k : Nat) (hk : 0 < k) (hk2 : k < 1000) (hn : n < 2 ^ 40) : RgC 0 (n : Int) (k : Int) ((n + (k - 1)) / k) := by
  refine ⟨by omega, by omega, ?_, ?_⟩
  · have e := rangeSize_pos (len := (n : Int)) (c := (k : Int)) (by omega) (by omega)
    have q : ((n : Int) + (k : Int) - 1) / (k : Int) ≤ (n : Int) + (k : Int) - 1 := Int.ediv_le_self _ (by omega)
    have q0 : 0 ≤ ((n : Int) + (k : Int) - 1) / (k : Int) := Int.ediv_nonneg (by omega) (by omega)
    unfold Builtin.Range.small
    rw [e]
    simp only [Builtin.Range.rangeFitsLong, Bool.and_eq_true, Bool.or_eq_true, decide_eq_true_eq, beq_iff_eq, show ((k : Int) > 0) by omega, if_true]
    have p1 : (0:Int) < 2 ^ 63 := by decide
    omega
  · rw [rangeSize_pos (by omega) (by omega)]
    rw [show (n : Int) + (k : Int) - 1 = ((n + (k - 1) : Nat) : Int) by omega]
    exact (Int.natCast_ediv _ _).symm
end LH
namespace LH
open PySem PySem.Spec PyProof.Rows L2
theorem walk_listF {K : PySem.W.Frag} {a : Addr} {xs : List V} : Walk (Itl K a) xs.length (fun H => SqL K H a xs) (YFn fun i => xs.getD i .non) :=
  walk_list.mono (fun _ h => h) fun i H x H' hi _ y => ⟨y.1, by show x = xs.getD i .non; rw [List.getD_eq_getElem?_getD, y.2]; rfl⟩
theorem walk_tupF {K : PySem.W.Frag} {a : Addr} {xs : List V} : Walk (Itt K a) xs.length (fun H => SqT K H a xs) (YFn fun i => xs.getD i .non) :=
  walk_tup.mono (fun _ h => h) fun i H x H' hi _ y => ⟨y.1, by show x = xs.getD i .non; rw [List.getD_eq_getElem?_getD, y.2]; rfl⟩
theorem getD_map_int (bs : List Int) (i : Nat) (h : i < bs.length) : (bs.map V.int).getD i .non = .int (bs.getD i 0) := by
  rw [List.getD_eq_getElem?_getD, List.getElem?_map, List.getElem?_eq_getElem h, List.getD_eq_getElem?_getD, List.getElem?_eq_getElem h]
  rfl
theorem range_getD {α : Type} (xs : List α) (d : α) : (List.range xs.length).map (fun i => xs.getD i d) = xs := by
  apply List.ext_getElem?
  intro i
  rw [List.getElem?_map]
  by_cases h : i < xs.length
  · rw [List.getElem?_range h]
    show some (xs.getD i d) = _
    rw [List.getD_eq_getElem?_getD, List.getElem?_eq_getElem h]
    rfl
  · rw [List.getElem?_eq_none (by rw [List.length_range]; omega), List.getElem?_eq_none (by omega)]
    rfl
section
variable {X : Cx}
theorem ixL (K : PySem.W.Frag) (h : X.K = K := by rfl) : IxR X (rIxL K) := h ▸ ix_list
theorem ixT (K : PySem.W.Frag) (h : X.K = K := by rfl) : IxR X (rIxT K) := h ▸ ix_tup
theorem slL (K : PySem.W.Frag) (h : X.K = K := by rfl) : SlR X (rSlL K) := h ▸ sl_list
theorem slT (K : PySem.W.Frag) (h : X.K = K := by rfl) : SlR X (rSlT K) := h ▸ sl_tup
theorem cIsi (K : PySem.W.Frag) (h : X.K = K := by rfl) : CallR X (.builtin "isinstance") (rIsi K) := h ▸ call_isi
def rLenS (K : PySem.W.Frag) : List V → Hp → VK → Prop := fun xs H Q => ∃ p ys, xs = [.ref p] ∧ (SqL K H p ys ∨ SqT K H p ys) ∧ Q (.int ys.length) H
theorem cLen (K : PySem.W.Frag) (h : X.K = K := by rfl) : CallR X (.builtin "len") (rLenS K) := h ▸ call_len_seq
theorem cAll (K : PySem.W.Frag) (h : X.K = K := by rfl) (hc : X.calm = true := by rfl) : CallR X (.builtin "all") (rAll K) := h ▸ cr_all hc
theorem cAny (K : PySem.W.Frag) (h : X.K = K := by rfl) (hc : X.calm = true := by rfl) : CallR X (.builtin "any") (rAny K) := h ▸ cr_any hc
theorem oIn (K : PySem.W.Frag) (h : X.K = K := by rfl) : OpR X (compareOp .In) (rIn K false) := h ▸ op_in_seq
theorem oNotIn (K : PySem.W.Frag) (h : X.K = K := by rfl) : OpR X (compareOp .NotIn) (rIn K true) := h ▸ op_notIn_seq
theorem oEqD (K : PySem.W.Frag) (hu : X.A.units + 64 < cLine) (h : X.K = K := by rfl) : OpR X (compareOp .Eq) (rEqD K) := h ▸ op_eqD hu
theorem oNeD (K : PySem.W.Frag) (hu : X.A.units + 64 < cLine) (h : X.K = K := by rfl) : OpR X (compareOp .NotEq) (rNeD K) := h ▸ op_neD hu
end
end LH
namespace LH
open PySem PySem.Spec PyProof.Rows L2
/-! ### data: flat lists compared -/
def OkS (x : Str) : Prop := ∀ c ∈ TL.tl x, c < 1114112
theorem strOk_of (x : Str) (h : OkS x) : PyData.strOk x = true := by
  unfold PyData.strOk
  rw [Array.all_eq_true']
  intro c hc
  exact decide_eq_true (h c (Array.mem_toList_iff.mpr hc))
theorem dpAll_ints {K : PySem.W.Frag} {H : Hp} : ∀ bs : List Int, DpAll K H (bs.map V.int) (bs.map PyData.int)
  | [] => .nil
  | b :: r => .cons (.int b) (dpAll_ints r)
theorem dpAll_strs {K : PySem.W.Frag} {H : Hp} : ∀ bs : List Str, DpAll K H (bs.map V.str) (bs.map PyData.str)
  | [] => .nil
  | b :: r => .cons (.str b) (dpAll_strs r)
theorem dp_ints {K : PySem.W.Frag} {H : Hp} {a : Addr} {bs : List Int} (h : SqL K H a (bs.map V.int)) : Dp K H (.ref a) (.list (bs.map PyData.int)) := .lst h (dpAll_ints bs)
theorem dp_strs {K : PySem.W.Frag} {H : Hp} {a : Addr} {bs : List Str} (h : SqL K H a (bs.map V.str)) : Dp K H (.ref a) (.list (bs.map PyData.str)) := .lst h (dpAll_strs bs)
theorem lay_strs : ∀ bs : List Str, (∀ x ∈ bs, OkS x) → PyData.canLayAll0 (bs.map PyData.str) = true
  | [], _ => by simp [PyData.canLayAll0]
  | b :: r, h => by simp [PyData.canLayAll0, PyData.canLay0, strOk_of b (h b (by simp)), lay_strs r fun x hx => h x (by simp [hx])]
theorem depth_strs : ∀ bs : List Str, PyData.depthAll (bs.map PyData.str) = 0
  | [] => rfl
  | _ :: r => by simp [PyData.depthAll, PyData.depth, depth_strs r]
theorem shaped_strs (bs : List Str) (h : ∀ x ∈ bs, OkS x) : SeqAt.shaped (.list (bs.map PyData.str)) = true := by
  simp [SeqAt.shaped, PyData.canLay0, PyData.depth, lay_strs bs h, depth_strs]
theorem shaped_intsL (bs : List Int) : SeqAt.shaped (.list (bs.map PyData.int)) = true := PySem.W.ke_shaped_ints bs
theorem eqv_ints : ∀ bs cs : List Int, PyData.eqvAll (bs.map PyData.int) (cs.map PyData.int) = decide (bs = cs)
  | [], [] => by simp [PyData.eqvAll]
  | [], _ :: _ => by simp [PyData.eqvAll]
  | _ :: _, [] => by simp [PyData.eqvAll]
  | b :: r, c :: q => by
    rw [List.map_cons, List.map_cons, PyData.eqvAll, PyData.eqv, eqv_ints r q]
    by_cases h : b = c <;> simp [h]
theorem eqv_strs : ∀ bs cs : List Str, PyData.eqvAll (bs.map PyData.str) (cs.map PyData.str) = decide (bs = cs)
  | [], [] => by simp [PyData.eqvAll]
  | [], _ :: _ => by simp [PyData.eqvAll]
  | _ :: _, [] => by simp [PyData.eqvAll]
  | b :: r, c :: q => by
    rw [List.map_cons, List.map_cons, PyData.eqvAll, PyData.eqv, eqv_strs r q]
    by_cases h : b = c <;> simp [h]
theorem eqv_intsL (bs cs : List Int) : PyData.eqv (.list (bs.map PyData.int)) (.list (cs.map PyData.int)) = decide (bs = cs) := by rw [PyData.eqv, eqv_ints]
theorem eqv_strsL (bs cs : List Str) : PyData.eqv (.list (bs.map PyData.str)) (.list (cs.map PyData.str)) = decide (bs = cs) := by rw [PyData.eqv, eqv_strs]
theorem map_true {α : Type} (l : List α) : (l.map fun _ => true).all id = true := by
  induction l with
  | nil => rfl
  | cons x r ih => simpa using ih
end LH

namespace LH
open PySem PySem.Spec PyProof.Rows L2
/-! ### a comprehension with a test -/
theorem lc_filt {J : It} {n : Nat} {G : Hp → Prop} {tt : TT} {te : TE} {c : Nat} {σ : L2.St} {H1 : Hp} {D : Addr} {Qd : Hp → Prop} (xs f : Nat → V) (b : Nat → Bool) (w : Walk J n G (YFn xs)) (hG : ∀ H, Same H1 H → G H) (hD : H1 D = none) (hn : n ≤ sizeLine)
    (ht : ∀ (i : Nat) (H : Hp) (Q : Bool → Hp → Prop), i < n → Same H1 H → (∀ H', Same H H' → Q (b i) H') → tt ((σ.set c none).set c (some (xs i))) H Q)
    (he : ∀ i H Q, i < n → Same H1 H → b i = true → Tell H (f i) Q → te ((σ.set c none).set c (some (xs i))) H Q)
    (hd : ∀ H, Same H1 H → H D = some (.lst (((List.range n).filter b).map f)) → Qd H) :
    ∃ W : Nat → Nat → Hp → Prop, (∃ m, W 0 m (upd H1 D (.lst []))) ∧ ∀ i m H, W i m H →
      (J.stop i H ∧ Qd H) ∨ (J.go i H ∧ ∃ Nx : Hp → Prop, (∀ H', Nx H' → ∃ m', m' < m ∧ W (i + 1) m' H') ∧ ∀ x H', J.yld i H x H' → gName c x (wipe σ [c]) H' fun σ2 H2 => wipe σ2 [c] = wipe σ [c] ∧ tt σ2 H2 fun b H3 =>
        if b = true then te σ2 H3 fun y H4 => ∃ acc, H4 D = some (.lst acc) ∧ acc.length < sizeLine ∧ Nx (upd H4 D (.lst (acc ++ [y]))) else Nx H3) := by
  refine lc_it w (fun i H => Same H1 H ∧ H D = some (.lst (((List.range i).filter b).map f))) ⟨same_upd hD, upd_same⟩ (fun i H _ h => hG H h.1) (fun i x H H' hi hP hy => ?_) (fun H h => hd H h.1 h.2)
  obtain ⟨sm, eD⟩ := hP
  obtain ⟨rfl, rfl⟩ := hy
  refine ⟨?_, ?_⟩
  rotate_left
  · refine ht i H' _ hi sm fun H2 s2 => ?_
    cases hb : b i with
    | true =>
      rw [if_pos rfl]
      refine he i H2 _ hi (sm.trans s2) hb fun H3 s3 => ⟨_, s3 _ _ (s2 _ _ eD), ?_, ?_, ?_⟩
      · rw [List.length_map]
        have := List.length_filter_le b (List.range i)
        rw [List.length_range] at this
        omega
      · intro b' o hb'
        rw [upd_ne (ne_of_none hb' hD)]
        exact s3 _ _ (s2 _ _ (sm _ _ hb'))
      · rw [upd_same, List.range_succ, List.filter_append, List.map_append]
        simp [hb]
    | false =>
      rw [if_neg Bool.false_ne_true]
      refine ⟨sm.trans s2, ?_⟩
      rw [s2 _ _ eD, List.range_succ, List.filter_append, List.map_append]
      simp [hb]
  · show (((σ.set c none).set c (some (xs i))).set c none) = σ.set c none
    rw [List.set_set, List.set_set]
/-! ### the signs of a text -/
theorem walk_strF {z : Str} : Walk (Its z) (TL.tl z).length (fun _ => True) (YFn fun i => .str ⟨#[(TL.tl z).getD i 0]⟩) := by
  have e : (TL.tl z).length = z.cps.size := Array.length_toList
  rw [e]
  refine walk_str.mono (fun _ h => h) fun i H x H' hi _ y => ⟨y.1, ?_⟩
  obtain ⟨_, c, hc, rfl⟩ := y
  show V.str ⟨#[c]⟩ = .str ⟨#[(TL.tl z).getD i 0]⟩
  have : (TL.tl z)[i]? = some c := by rw [← hc]; exact Array.getElem?_toList
  rw [List.getD_eq_getElem?_getD, this]
  rfl
theorem lall_range {α : Type} (l : List α) (d : α) (p : α → Bool) : ((List.range l.length).map fun i => p (l.getD i d)).all id = l.all p := by
  have e : ((List.range l.length).map fun i => p (l.getD i d)) = ((List.range l.length).map fun i => l.getD i d).map p := by rw [List.map_map]; rfl
  rw [e, range_getD, List.all_map]
  rfl
/-! ### one sign's split -/
def splitL (s : Nat) : List Nat → List (List Nat)
  | [] => [[]]
  | c :: r => if c = s then [] :: splitL s r else (c :: (splitL s r).headD []) :: (splitL s r).tail
theorem splitL_ne (s : Nat) (l : List Nat) : splitL s l ≠ [] := by
  cases l with
  | nil => simp [splitL]
  | cons c r => unfold splitL; split <;> simp
theorem splitL_eta (s : Nat) (l : List Nat) : splitL s l = (splitL s l).headD [] :: (splitL s l).tail := by
  cases h : splitL s l with
  | nil => exact absurd h (splitL_ne s l)
  | cons x r => rfl
theorem spl_one (s : Nat) : ∀ (l acc : List Nat), TL.spl [s] 0 acc l = (acc ++ (splitL s l).headD []) :: (splitL s l).tail
  | [], acc => by rw [TL.spl_nil]; simp [splitL]
  | c :: r, acc => by
    by_cases h : c = s
    · subst h
      rw [TL.spl_hit (show TL.pre [c] (c :: r) = true by simp [TL.pre])]
      show acc :: TL.spl [c] 0 [] r = _
      rw [spl_one c r []]
      have e : splitL c (c :: r) = [] :: splitL c r := by
        conv => lhs; unfold splitL
        rw [if_pos rfl]
      rw [e]
      simp only [List.headD_cons, List.tail_cons, List.append_nil, List.nil_append]
      rw [← splitL_eta]
    · rw [TL.spl_miss (show TL.pre [s] (c :: r) = false by simp [TL.pre]; exact h), spl_one s r]
      conv => rhs; unfold splitL
      rw [if_neg h]
      simp
theorem split_tl {x y : Str} {s : Nat} (hy : TL.tl y = [s]) (hs : s < 256) : (Txt.split x y).map TL.tl = splitL s (TL.tl x) := by
  rw [TL.split_spl x y (by rw [hy]; simp) (TL.kind_ok ?_), hy, spl_one, List.nil_append, ← splitL_eta]
  rw [Array.all_eq_true']
  intro c hc
  have : c ∈ TL.tl y := Array.mem_toList_iff.mpr hc
  rw [hy] at this
  exact decide_eq_true (by rw [List.mem_singleton.mp this]; exact hs)
theorem splitL_len (s : Nat) : ∀ l : List Nat, (splitL s l).length ≤ l.length + 1
  | [] => Nat.le_refl _
  | c :: r => by
    have ih := splitL_len s r
    unfold splitL
    split
    · simp only [List.length_cons]; omega
    · have := splitL_eta s r
      have h2 := congrArg List.length this
      simp only [List.length_cons] at h2 ⊢
      omega
theorem splitL_mem (s : Nat) : ∀ (l : List Nat) (w : List Nat), w ∈ splitL s l → ∀ c ∈ w, c ∈ l
  | [], w, h, c, hc => by
    simp [splitL] at h
    rw [h] at hc
    cases hc
  | d :: r, w, h, c, hc => by
    unfold splitL at h
    have e := splitL_eta s r
    split at h
    · rcases List.mem_cons.mp h with rfl | h
      · cases hc
      · exact List.mem_cons_of_mem _ (splitL_mem s r w h c hc)
    · rcases List.mem_cons.mp h with rfl | h
      · rcases List.mem_cons.mp hc with rfl | hc
        · exact List.mem_cons_self
        · exact List.mem_cons_of_mem _ (splitL_mem s r _ (by rw [e]; exact List.mem_cons_self) c hc)
      · exact List.mem_cons_of_mem _ (splitL_mem s r w (by rw [e]; exact List.mem_cons_of_mem _ h) c hc)
theorem splitL_le (s : Nat) : ∀ (l : List Nat) (w : List Nat), w ∈ splitL s l → w.length ≤ l.length
  | [], w, h => by
    simp [splitL] at h
    rw [h]
    exact Nat.le_refl _
  | d :: r, w, h => by
    unfold splitL at h
    have e := splitL_eta s r
    have mem1 : (splitL s r).headD [] ∈ splitL s r := by rw [e]; exact List.mem_cons_self
    have mem2 : ∀ x ∈ (splitL s r).tail, x ∈ splitL s r := fun x hx => by rw [e]; exact List.mem_cons_of_mem _ hx
    split at h
    · rcases List.mem_cons.mp h with rfl | h
      · exact Nat.zero_le _
      · exact Nat.le_succ_of_le (splitL_le s r w h)
    · rcases List.mem_cons.mp h with rfl | h
      · exact Nat.succ_le_succ (splitL_le s r _ mem1)
      · exact Nat.le_succ_of_le (splitL_le s r w (mem2 w h))
theorem mk_len (l : List Nat) : (⟨l.toArray⟩ : Str).length = l.length := by rw [TL.len_tl]
theorem str_eq_iff (x y : Str) : x = y ↔ TL.tl x = TL.tl y := ⟨fun h => by rw [h], TL.ext_tl⟩
end LH
namespace LH
open PySem PySem.Spec PyProof.Rows L2
/-! ### an empty part in a split: a sign at an end, or two side by side -/
def Gap (s : Nat) (l : List Nat) : Prop := ∃ i, l[i]? = some s ∧ (l[i + 1]? = none ∨ l[i + 1]? = some s)
theorem gap_nil (s : Nat) : ¬ Gap s [] := fun ⟨i, h, _⟩ => by simp at h
theorem gap_cons (s c : Nat) (r : List Nat) : Gap s (c :: r) ↔ (c = s ∧ (r = [] ∨ r[0]? = some s)) ∨ Gap s r := by
  constructor
  · rintro ⟨i, h1, h2⟩
    cases i with
    | zero =>
      left
      have : c = s := by simpa using h1
      refine ⟨this, ?_⟩
      rcases h2 with h2 | h2
      · left
        have : r[0]? = none := by simpa using h2
        cases r with
        | nil => rfl
        | cons x r => simp at this
      · right; simpa using h2
    | succ i => exact .inr ⟨i, by simpa using h1, by simpa using h2⟩
  · rintro (⟨rfl, h⟩ | ⟨i, h1, h2⟩)
    · refine ⟨0, by simp, ?_⟩
      rcases h with rfl | h
      · left; rfl
      · right; simpa using h
    · exact ⟨i + 1, by simpa using h1, by simpa using h2⟩
theorem split_head (s : Nat) (l : List Nat) : (splitL s l).headD [] = [] ↔ l = [] ∨ l[0]? = some s := by
  cases l with
  | nil => simp [splitL]
  | cons c r =>
    unfold splitL
    by_cases h : c = s
    · rw [if_pos h]; simp [h]
    · rw [if_neg h]; simp [h]
theorem split_tail (s : Nat) : ∀ l : List Nat, [] ∈ (splitL s l).tail ↔ Gap s l
  | [] => by simp [splitL, gap_nil]
  | c :: r => by
    rw [gap_cons, ← split_tail s r]
    by_cases h : c = s
    · have e : splitL s (c :: r) = [] :: splitL s r := by
        conv => lhs; unfold splitL
        rw [if_pos h]
      rw [e, List.tail_cons, splitL_eta s r, List.mem_cons, eq_comm, split_head]
      simp [h]
    · have e : splitL s (c :: r) = (c :: (splitL s r).headD []) :: (splitL s r).tail := by
        conv => lhs; unfold splitL
        rw [if_neg h]
      rw [e, List.tail_cons]
      simp [h]
theorem split_gap (s : Nat) (l : List Nat) : [] ∈ splitL s l ↔ l = [] ∨ l[0]? = some s ∨ Gap s l := by
  rw [splitL_eta s l, List.mem_cons, eq_comm, split_head, split_tail, or_assoc]
theorem joinL_nil (l : List (List Nat)) : TL.joinL [] l = l.flatten := by
  induction l with
  | nil => rfl
  | cons x r ih =>
    cases r with
    | nil => simp [TL.joinL]
    | cons y r => rw [TL.joinL, ih]; simp
theorem tl_empty : TL.tl (Str.ofString "") = [] := by decide +kernel
theorem tl_join0 (ys : List Str) : TL.tl (Txt.join (Str.ofString "") ys) = (ys.map TL.tl).flatten := by
  rw [TL.join_eq, TL.tl_join, tl_empty, joinL_nil]
theorem flatten_le {α : Type} {k : Nat} : ∀ l : List (List α), (∀ x ∈ l, x.length ≤ k) → l.flatten.length ≤ k * l.length
  | [], _ => Nat.le_refl _
  | x :: r, h => by
    have ih := flatten_le r fun y hy => h y (List.mem_cons_of_mem _ hy)
    have hx := h x (by simp)
    rw [List.flatten_cons, List.length_append, List.length_cons, Nat.mul_succ]
    omega
theorem chunks_len {α : Type} (k : Nat) (t : List α) : (chunks k t).length = (t.length + (k - 1)) / k := by
  unfold chunks
  rw [List.length_map, List.length_range]
theorem sum_len (ys : List Str) : (ys.map (·.length)).sum = ((ys.map TL.tl).flatten).length := by
  rw [List.length_flatten, List.map_map]
  rfl
/-! ### texts and their signs -/
theorem okS_app {x y : Str} (hx : OkS x) (hy : OkS y) : OkS (x ++ y) := fun c hc => by
  rw [TL.tl_append] at hc
  rcases List.mem_append.mp hc with h | h
  · exact hx c h
  · exact hy c h
theorem len_app (x y : Str) : (x ++ y).length = x.length + y.length := by
  rw [TL.len_tl, TL.tl_append, List.length_append, ← TL.len_tl, ← TL.len_tl]
theorem okS_cut {x : Str} (hx : OkS x) (lo hi : Option Int) : OkS (cutS x lo hi) := fun c hc => hx c (List.mem_of_mem_drop (List.mem_of_mem_take hc))
theorem okS_one {c : Nat} (h : c < 1114112) : OkS ⟨#[c]⟩ := fun d hd => by
  have : d = c := by simpa [TL.tl] using hd
  rw [this]; exact h
theorem joinL_mem (S : List Nat) : ∀ (ps : List (List Nat)) (c : Nat), c ∈ TL.joinL S ps → c ∈ S ∨ ∃ p ∈ ps, c ∈ p
  | [], c, h => by cases h
  | [p], c, h => .inr ⟨p, by simp, h⟩
  | p :: q :: r, c, h => by
    rw [TL.joinL] at h
    rcases List.mem_append.mp h with h | h
    · exact .inr ⟨p, by simp, h⟩
    · rcases List.mem_append.mp h with h | h
      · exact .inl h
      · rcases joinL_mem S (q :: r) c h with h | ⟨x, hx, hc⟩
        · exact .inl h
        · exact .inr ⟨x, List.mem_cons_of_mem _ hx, hc⟩
theorem joinL_len (S : List Nat) : ∀ (ps : List (List Nat)), (TL.joinL S ps).length ≤ (ps.map List.length).sum + ps.length * S.length
  | [] => by simp [TL.joinL]
  | [p] => by simp [TL.joinL]
  | p :: q :: r => by
    have ih := joinL_len S (q :: r)
    rw [TL.joinL, List.length_append, List.length_append, List.map_cons, List.sum_cons, List.length_cons, Nat.succ_mul]
    omega
theorem sum_le (k : Nat) : ∀ l : List Nat, (∀ x ∈ l, x ≤ k) → l.sum ≤ l.length * k
  | [], _ => by simp
  | x :: r, h => by
    have ih := sum_le k r fun y hy => h y (List.mem_cons_of_mem _ hy)
    have hx := h x (by simp)
    rw [List.sum_cons, List.length_cons, Nat.succ_mul]
    omega
theorem join_len_le {sep : Str} {ws : List Str} {k n : Nat} (hw : ∀ x ∈ ws, x.length ≤ k) (hn : ws.length ≤ n) : (ws.map (·.length)).sum + ws.length * sep.length ≤ n * (k + sep.length) := by
  have h1 := sum_le k (ws.map (·.length)) fun x hx => by
    obtain ⟨y, hy, rfl⟩ := List.mem_map.mp hx
    exact hw y hy
  rw [List.length_map] at h1
  calc (ws.map (·.length)).sum + ws.length * sep.length ≤ ws.length * k + ws.length * sep.length := Nat.add_le_add_right h1 _
    _ = ws.length * (k + sep.length) := (Nat.mul_add _ _ _).symm
    _ ≤ n * (k + sep.length) := Nat.mul_le_mul_right _ hn
theorem joined_len (sep : Str) (ws : List Str) : (Txt.join sep ws).length ≤ (ws.map (·.length)).sum + ws.length * sep.length := by
  rw [TL.len_tl, TL.join_eq, TL.tl_join]
  refine Nat.le_trans (joinL_len _ _) ?_
  rw [List.map_map, List.length_map, ← TL.len_tl]
  have : (ws.map (List.length ∘ TL.tl)) = ws.map (·.length) := List.map_congr_left fun x _ => (TL.len_tl x).symm
  rw [this]
  exact Nat.le_refl _
theorem okS_join {sep : Str} {ws : List Str} (hs : OkS sep) (hw : ∀ x ∈ ws, OkS x) : OkS (Txt.join sep ws) := fun c hc => by
  rw [TL.join_eq, TL.tl_join] at hc
  rcases joinL_mem _ _ c hc with h | ⟨p, hp, hc⟩
  · exact hs c h
  · obtain ⟨x, hx, rfl⟩ := List.mem_map.mp hp
    exact hw x hx c hc
/-- lists of truth values compared -/
theorem dpAll_bls {K : PySem.W.Frag} {H : Hp} : ∀ bs : List Bool, DpAll K H (bs.map V.bl) (bs.map PyData.bool)
  | [] => .nil
  | b :: r => .cons (.bl b) (dpAll_bls r)
theorem dp_bls {K : PySem.W.Frag} {H : Hp} {a : Addr} {bs : List Bool} (h : SqL K H a (bs.map V.bl)) : Dp K H (.ref a) (.list (bs.map PyData.bool)) := .lst h (dpAll_bls bs)
theorem lay_bls : ∀ bs : List Bool, PyData.canLayAll0 (bs.map PyData.bool) = true
  | [] => by simp [PyData.canLayAll0]
  | b :: r => by simp [PyData.canLayAll0, PyData.canLay0, lay_bls r]
theorem depth_bls : ∀ bs : List Bool, PyData.depthAll (bs.map PyData.bool) = 0
  | [] => rfl
  | _ :: r => by simp [PyData.depthAll, PyData.depth, depth_bls r]
theorem shaped_bls (bs : List Bool) : SeqAt.shaped (.list (bs.map PyData.bool)) = true := by
  simp [SeqAt.shaped, PyData.canLay0, PyData.depth, lay_bls bs, depth_bls]
theorem eqv_bls : ∀ bs cs : List Bool, PyData.eqvAll (bs.map PyData.bool) (cs.map PyData.bool) = decide (bs = cs)
  | [], [] => by simp [PyData.eqvAll]
  | [], _ :: _ => by simp [PyData.eqvAll]
  | _ :: _, [] => by simp [PyData.eqvAll]
  | b :: r, c :: q => by
    rw [List.map_cons, List.map_cons, PyData.eqvAll, PyData.eqv, eqv_bls r q]
    by_cases h : b = c <;> simp [h]
theorem eqv_blsL (bs cs : List Bool) : PyData.eqv (.list (bs.map PyData.bool)) (.list (cs.map PyData.bool)) = decide (bs = cs) := by rw [PyData.eqv, eqv_bls]
theorem lat_of {α : Type} {xs : List α} {z : Int} {j : Nat} {v : α} (e : z = (j : Int)) (h : xs[j]? = some v) : atI xs z = some v := by
  rw [e]
  exact atI_nat h
theorem getD_str (ws : List Str) (i : Nat) (hi : i < ws.length) : (ws.map V.str).getD i .non = .str (ws.getD i Str.empty) := by
  rw [List.getD_eq_getElem?_getD, List.getElem?_map, List.getElem?_eq_getElem hi, List.getD_eq_getElem?_getD, List.getElem?_eq_getElem hi]
  rfl
end LH
namespace LH
open PySem PySem.Spec PyProof.Rows L2
/-! ### and, or of values, each part told by its truth -/
theorem andV {ta tb : TE} {σ : L2.St} {H : Hp} {Q : VK} (c d : Bool) (ha : ∀ Q' : VK, Tell H (.bl c) Q' → ta σ H Q') (hb : c = true → ∀ (H1 : Hp) (Q' : VK), Same H H1 → Tell H1 (.bl d) Q' → tb σ H1 Q') (q : Tell H (.bl (c && d)) Q) : tAndV ta tb σ H Q := by
  refine ha _ fun H1 s1 => ⟨c, rfl, ?_⟩
  cases c with
  | true => exact iteT (hb rfl H1 Q s1 fun H2 s2 => q H2 (s1.trans s2))
  | false => exact iteF (q H1 s1)
theorem orV {ta tb : TE} {σ : L2.St} {H : Hp} {Q : VK} (c d : Bool) (ha : ∀ Q' : VK, Tell H (.bl c) Q' → ta σ H Q') (hb : c = false → ∀ (H1 : Hp) (Q' : VK), Same H H1 → Tell H1 (.bl d) Q' → tb σ H1 Q') (q : Tell H (.bl (c || d)) Q) : tOrV ta tb σ H Q := by
  refine ha _ fun H1 s1 => ⟨c, rfl, ?_⟩
  cases c with
  | true => exact iteT (q H1 s1)
  | false => exact iteF (hb rfl H1 Q s1 fun H2 s2 => q H2 (s1.trans s2))
/-- two blanks side by side -/
def dbl (s : Nat) (l : List Nat) : Bool := (List.range l.length).any fun i => decide (l[i]? = some s) && decide (l[i + 1]? = some s)
theorem dbl_iff (s : Nat) (l : List Nat) : dbl s l = true ↔ ∃ i, l[i]? = some s ∧ l[i + 1]? = some s := by
  unfold dbl
  rw [List.any_eq_true]
  constructor
  · rintro ⟨i, _, h⟩
    rw [Bool.and_eq_true, decide_eq_true_eq, decide_eq_true_eq] at h
    exact ⟨i, h⟩
  · rintro ⟨i, h1, h2⟩
    refine ⟨i, List.mem_range.mpr (List.getElem?_eq_some_iff.mp h1).1, ?_⟩
    rw [Bool.and_eq_true, decide_eq_true_eq, decide_eq_true_eq]
    exact ⟨h1, h2⟩
theorem take2 (s : Nat) : ∀ (l : List Nat) (i : Nat), (l.drop i).take 2 = [s, s] ↔ l[i]? = some s ∧ l[i + 1]? = some s
  | [], i => by simp
  | c :: r, 0 => by cases r <;> simp
  | c :: r, i + 1 => by simpa using take2 s r i
theorem in_two {x y : Str} {s : Nat} (hy : TL.tl y = [s, s]) : (!(Builtin.Str.occurrences x y 0 x.length 1).isEmpty) = dbl s (TL.tl x) := by
  rw [Bool.eq_iff_iff, PySem.StrLaws.found_iff, dbl_iff]
  have hyl : y.length = 2 := by rw [TL.len_tl, hy]; rfl
  constructor
  · rintro ⟨i, h1, h2⟩
    rw [PySem.StrLaws.subAt_eq, hyl] at h2
    exact ⟨i, (take2 s _ i).mp ((eq_of_beq h2).trans hy)⟩
  · rintro ⟨i, h⟩
    have hl := (List.getElem?_eq_some_iff.mp h.2).1
    refine ⟨i, by rw [hyl, TL.len_tl]; omega, ?_⟩
    rw [PySem.StrLaws.subAt_eq, hyl]
    refine beq_iff_eq.mpr ?_
    rw [show x.cps.toList = TL.tl x from rfl, (take2 s _ i).mpr h]
    exact hy.symm
theorem take1 (s : Nat) (l : List Nat) : l.take 1 = [s] ↔ l[0]? = some s := by cases l <;> simp
theorem dropL (s : Nat) (l : List Nat) : l.drop (l.length - 1) = [s] ↔ ∃ i, l[i]? = some s ∧ l[i + 1]? = none := by
  constructor
  · intro h
    refine ⟨l.length - 1, ?_, ?_⟩
    · have := congrArg (fun m : List Nat => m[0]?) h
      simpa using this
    · rw [List.getElem?_eq_none_iff]; omega
  · rintro ⟨i, h1, h2⟩
    obtain ⟨hl, e⟩ := List.getElem?_eq_some_iff.mp h1
    have hl2 := List.getElem?_eq_none_iff.mp h2
    have : i = l.length - 1 := by omega
    subst this
    rw [List.drop_eq_getElem_cons hl, e, List.drop_of_length_le (by omega)]
theorem blanks_iff (s : Nat) (l : List Nat) (h0 : l ≠ []) : (decide (l.take 1 = [s]) || (decide (l.drop (l.length - 1) = [s]) || dbl s l)) = decide ([] ∈ splitL s l) := by
  rw [Bool.eq_iff_iff, Bool.or_eq_true, Bool.or_eq_true, decide_eq_true_eq, decide_eq_true_eq, dbl_iff, decide_eq_true_eq, split_gap, take1, dropL]
  constructor
  · rintro (h | ⟨i, h1, h2⟩ | ⟨i, h1, h2⟩)
    · exact .inr (.inl h)
    · exact .inr (.inr ⟨i, h1, .inl h2⟩)
    · exact .inr (.inr ⟨i, h1, .inr h2⟩)
  · rintro (h | h | ⟨i, h1, h2 | h2⟩)
    · exact absurd h h0
    · exact .inl h
    · exact .inr (.inl ⟨i, h1, h2⟩)
    · exact .inr (.inr ⟨i, h1, h2⟩)
theorem cutS_last (z : Str) : TL.tl (cutS z (some (-1)) none) = (TL.tl z).drop ((TL.tl z).length - 1) := by
  unfold cutS
  rw [HT.sIx_none]
  have e : HT.sIx z.length 0 (some (-1)) = z.length - 1 := by
    show (if (-1 : Int) < 0 then (-1 + ((z.length : Nat) : Int)).toNat else min (-1 : Int).toNat z.length) = _
    rw [if_pos (by decide)]
    omega
  rw [e]
  show ((TL.tl z).drop (z.length - 1)).take (z.length - (z.length - 1)) = _
  rw [TL.len_tl]
  exact List.take_of_length_le (by rw [List.length_drop]; exact Nat.le_refl _)
end LH
namespace LH
open PySem PySem.Spec PyProof.Rows L2
theorem pickL {α : Type} (xs : List α) (m : Int) (h0 : 0 ≤ m) (h1 : m < xs.length) : ∃ x, x ∈ xs ∧ atI xs m = some x := by
  obtain ⟨j, rfl⟩ : ∃ j : Nat, m = (j : Int) := ⟨m.toNat, by omega⟩
  have hj : j < xs.length := by omega
  exact ⟨xs[j], List.getElem_mem hj, atI_nat (List.getElem?_eq_getElem hj)⟩
/-- a thing that is no text -/
def Odd (H : Hp) (x : V) : Prop := x = .non ∨ (∃ i, x = .int i) ∨ (∃ b, x = .bl b) ∨ ∃ a, x = .ref a ∧ ((∃ xs, H a = some (.lst xs)) ∨ (∃ xs, H a = some (.tup xs)) ∨ ∃ kvs, H a = some (.dK kvs))
theorem Odd.same {H H' : Hp} {x : V} (s : Same H H') (h : Odd H x) : Odd H' x := by
  rcases h with h | h | h | ⟨a, e, h⟩
  · exact .inl h
  · exact .inr (.inl h)
  · exact .inr (.inr (.inl h))
  · refine .inr (.inr (.inr ⟨a, e, ?_⟩))
    rcases h with ⟨xs, h⟩ | ⟨xs, h⟩ | ⟨xs, h⟩
    · exact .inl ⟨xs, s _ _ h⟩
    · exact .inr (.inl ⟨xs, s _ _ h⟩)
    · exact .inr (.inr ⟨xs, s _ _ h⟩)
theorem Odd.ty {K : PySem.W.Frag} {H : Hp} {x : V} (h : Odd H x) : ∃ t, TyX K H x t ∧ PySem.W.kitOne K t (.type "str") = some false := by
  rcases h with rfl | ⟨i, rfl⟩ | ⟨b, rfl⟩ | ⟨a, rfl, ⟨xs, h⟩ | ⟨xs, h⟩ | ⟨xs, h⟩⟩
  · exact ⟨_, .base .non, kit_ty (by decide +kernel)⟩
  · exact ⟨_, .base (.int i), kit_ty (by decide +kernel)⟩
  · exact ⟨_, .base (.bl b), kit_ty (by decide +kernel)⟩
  · exact ⟨_, .base (.lst h), kit_ty (by decide +kernel)⟩
  · exact ⟨_, .base (.tup h), kit_ty (by decide +kernel)⟩
  · exact ⟨_, .base (.dK h), kit_ty (by decide +kernel)⟩
end LH

namespace LH
open PySem PySem.Spec PySem.Calls PyProof.Rows L2
/-! ### enumerate(text) -/
/-- the signs of x, each in a new pair with its number -/
def ItES (x : Str) : It :=
  ⟨fun i _ => i < x.cps.size, fun i H v H' => ∃ T c, v = .ref T ∧ H T = none ∧ H' = upd H T (.tup [.int (i : Nat), .str ⟨#[c]⟩]) ∧ x.cps[i]? = some c, fun i _ => x.cps.size = i⟩
theorem turn_enumS {P : Program} {w : World} {K : PySem.W.Frag} {elts : List Expr} {kk : Nat} {tpos : Pos} (x : Str) (t : Tok) (e it : Addr) :
    Turn P w K (.Tuple elts kk tpos) (ItES x) [e, it] e (fun i h => (∃ old, IsEnum h e it ((i : Nat) : Int) old) ∧ h.IsStrIter it (strIterType x) x t i ∧ e ≠ it) where
  mem := by simp
  obj := fun i h st b hb => by
    obtain ⟨⟨old, he⟩, ⟨o, ho, hc, hd⟩, _⟩ := st
    have e' : b = e ∨ b = it := by simpa using hb
    rcases e' with z | z
    · rw [z]; exact ⟨_, he, fun v q => nomatch q⟩
    · rw [z]; exact ⟨o, ho, fun v q => by rw [hd] at q; cases q⟩
  keep := fun i h h' st k => let ⟨⟨old, he⟩, ⟨o, ho, r⟩, hne⟩ := st; ⟨⟨old, k e (by simp) _ he⟩, ⟨o, k it (by simp) o ho, r⟩, hne⟩
  item := by
    intro X hP hw hK hc i pins s σ H E I hf st hg
    subst hP hw hK
    obtain ⟨⟨old, he⟩, hit, hne⟩ := st
    have hel : e < s.heap.objs.size := Heap.lt_size he
    have hil : it < s.heap.objs.size := by obtain ⟨_, q, _⟩ := hit; exact Heap.lt_size q
    refine wpAny_pyNext_enum_itemD (Draws.text (A := X.A.in1) (I.ok.hd hc) it x t) he hit hg hne (by simpa using hne) fun v h' tk hv ho hit' hT hsz hk => ?_
    obtain ⟨c, u, hcx, rfl⟩ := hv
    refine ⟨_, rfl, wpAny_letOwnedTupleGo_enum (s := { s with heap := h', toks := tk + 1 }) ho fun h'' he' sb => ?_⟩
    have hT2 : h''.get? s.heap.objs.size = some { cls := .type "tuple", data := .seq #[.int i tk, .str ⟨#[c]⟩ u] } := (sb.2 _ (Nat.ne_of_gt hel)).trans hT
    have new : ObjOk X.prog X.w (upd H s.heap.objs.size (.tup [.int (i : Nat), .str ⟨#[c]⟩])) h'' s.heap.objs.size (.tup [.int (i : Nat), .str ⟨#[c]⟩]) :=
      ⟨by show 2 ≤ sizeLine; decide, [.int i tk, .str ⟨#[c]⟩ u], .cons ⟨_, rfl⟩ (.cons ⟨_, rfl⟩ .nil), ⟨_, hT2, rfl, _, rfl⟩⟩
    have I1 : Inv X pins σ (upd H s.heap.objs.size (.tup [.int (i : Nat), .str ⟨#[c]⟩])) { s with heap := h'', toks := tk + 1 } :=
      I.turnedNew (ch := [e, it]) (fun b ob hb q => (sb.2 b (fun z => hb (by simp [z]))).trans (hk b ob (fun z => hb (by simp [z])) (fun z => hb (by simp [z])) q)) hf (Nat.le_refl _) new
    refine ⟨.ref s.heap.objs.size, _, I1, rfl, ⟨_, c, rfl, I.hok.fresh (Nat.le_refl _), rfl, hcx⟩, ⟨⟨.str ⟨#[c]⟩ u, ?_⟩, ?_, hne⟩, fun b hb => ?_⟩
    · have e1 : ((i + 1 : Nat) : Int) = (i : Int) + 1 := by omega
      rw [e1]; exact he'
    · obtain ⟨o, ho', r⟩ := hit'
      exact ⟨o, (sb.2 it (Ne.symm hne)).trans ho', r⟩
    · have hb' : b < s.heap.objs.size := by
        have e' : b = e ∨ b = it := by simpa using hb
        rcases e' with z | z
        · rw [z]; exact hel
        · rw [z]; exact hil
      rw [upd_ne (Nat.ne_of_lt hb')]
      exact (hf b hb).1
  done := by
    intro X hP hw hK hc i pins s σ H E I hf st hg
    subst hP hw hK
    obtain ⟨⟨old, he⟩, hit, hne⟩ := st
    obtain ⟨f0, f1, f2, f3, f4, f5⟩ := hf it (by simp)
    have heq : x.cps.size = i := hg
    subst heq
    exact wpAny_pyNext_enum_endD (Draws.text (A := X.A.in1) (I.ok.hd hc) it x t) he hit fun h' eb => ⟨rfl, I.turned (t' := s.toks) (fun b o hb q => eb b o hb q) f0 f1 f3 f4 f5⟩
  self := fun A i s Q E st h => let ⟨⟨_, he⟩, _⟩ := st; wpAny_pyIter_enum he h
def iEnumS (ta : TA) : TI := fun σ H R => ta σ H fun vs H1 => ∃ x, vs = [.str x] ∧ R (ItES x) H1
theorem pi_enumS {X : Cx} {e : Expr} {ta : TA} {p pos tpos : Pos} {elts : List Expr} {kk : Nat} (hg : Gl X "enumerate") (hm : X.mg "enumerate" = none) (ha : PA X [e] ta) (hs : starEach [e] X.env = [(false, eval e X.env)] := by rfl) :
    PI X (.Tuple elts kk tpos) (.Call (.Name "enumerate" p) [e] [] pos) (iEnumS ta) := by
  refine ⟨fun pins s σ H R I h => ?_⟩
  refine Call_ (ld_blt I hg hm boot_enumerate (PyProof.Rows.callWith_type1 (thn (ha.run pos pins s σ H _ I h) fun us s1 ⟨vs, H1, I1, r1, q1⟩ => ?_) hs rfl))
  obtain ⟨x, ex, q⟩ := q1
  subst ex
  cases r1 with
  | cons r rr =>
    cases rr
    obtain ⟨t, rfl⟩ := r
    refine call_enumerate_str fun h' he hit hsz hk => wpAny_pyIter_enum he ?_
    have I2 : Inv X pins σ H1 { s1 with heap := h' } := I1.kept (t' := s1.toks) hk
    refine ⟨s1.heap.objs.size + 1, [s1.heap.objs.size + 1, s1.heap.objs.size], _, _, H1, rfl, I2, turn_enumS x t (s1.heap.objs.size + 1) s1.heap.objs.size, ⟨⟨.none, he⟩, hit, Nat.succ_ne_self _⟩, fun b hb => ?_, q⟩
    have e' : b = s1.heap.objs.size + 1 ∨ b = s1.heap.objs.size := by simpa using hb
    have hle : s1.heap.objs.size ≤ b := by
      rcases e' with z | z
      · rw [z]; exact Nat.le_add_right _ _
      · rw [z]; exact Nat.le_refl _
    exact I1.fpOk hle (I1.hok.fresh hle)
theorem walk_enumS {x : Str} : Walk (ItES x) (TL.tl x).length (fun _ => True) (YPair (fun i => some (.int (i : Nat))) (fun i => some (.str ⟨#[(TL.tl x).getD i 0]⟩))) := by
  have e : (TL.tl x).length = x.cps.size := Array.length_toList
  rw [e]
  refine ⟨fun i _ hi q => hi, fun _ q => rfl, fun i H v H' _ q y => ?_⟩
  obtain ⟨T, c, h1, h2, h3, h4⟩ := y
  have : (TL.tl x)[i]? = some c := by rw [← h4]; exact Array.getElem?_toList
  exact ⟨T, .int (i : Nat), .str ⟨#[c]⟩, h1, h2, h3, rfl, by show some (V.str ⟨#[(TL.tl x).getD i 0]⟩) = _; rw [List.getD_eq_getElem?_getD, this]; rfl⟩
end LH

namespace LH
open PySem PySem.Spec PyProof.Rows L2
/-! ### tests told by their truth; an if by its two branches -/
def TellB (H : Hp) (c : Bool) (k : Bool → Hp → Prop) : Prop := ∀ H1, Same H H1 → k c H1
section
variable {t u : TT} {σ : L2.St} {H : Hp} {k : Bool → Hp → Prop}
theorem orT (c d : Bool) (ha : ∀ k', TellB H c k' → t σ H k') (hb : c = false → ∀ H1 k', Same H H1 → TellB H1 d k' → u σ H1 k') (q : TellB H (c || d) k) : tOr t u σ H k := by
  refine ha _ fun H1 s1 => ?_
  cases c with
  | true => exact iteT (q H1 s1)
  | false => exact iteF (hb rfl H1 k s1 fun H2 s2 => q H2 (s1.trans s2))
theorem andT (c d : Bool) (ha : ∀ k', TellB H c k' → t σ H k') (hb : c = true → ∀ H1 k', Same H H1 → TellB H1 d k' → u σ H1 k') (q : TellB H (c && d) k) : tAnd t u σ H k := by
  refine ha _ fun H1 s1 => ?_
  cases c with
  | true => exact iteT (hb rfl H1 k s1 fun H2 s2 => q H2 (s1.trans s2))
  | false => exact iteF (q H1 s1)
theorem notT (c : Bool) (ha : ∀ k', TellB H c k' → t σ H k') (q : TellB H (!c) k) : tNot t σ H k := ha _ fun H1 s1 => q H1 s1
theorem ifT {tc : TT} {t u : TS} {D : Ends} (c : Bool) (hc : ∀ k', TellB H c k' → tc σ H k') (ht : c = true → ∀ H1, Same H H1 → t D σ H1) (hf : c = false → ∀ H1, Same H H1 → u D σ H1) : tIfS tc t u D σ H := by
  refine hc _ fun H1 s1 => ?_
  cases c with
  | true => exact iteT (ht rfl H1 s1)
  | false => exact iteF (hf rfl H1 s1)
theorem ifK {tc : TT} {t u : TS} {D : Ends} (G : ∀ D' : Ends, D' = D → tIfS tc t u D' σ H) : tIfS tc t u D σ H := G D rfl
theorem TellB.eq {c d : Bool} (h : c = d) (q : TellB H d k) : TellB H c k := h ▸ q
end
/-! ### lengths and signs of slices -/
theorem cutTo_len (z : Str) (p : Nat) : (cutS z none (some (p : Int))).length = min p z.length := by rw [cutS_to, mk_len, List.length_take, ← TL.len_tl]
theorem cutFrom_len (z : Str) (p : Nat) : (cutS z (some (p : Int)) none).length = z.length - p := by rw [cutS_from, mk_len, List.length_drop, ← TL.len_tl]
theorem mem_cut {z : Str} {lo hi : Option Int} {c : Nat} (h : c ∈ TL.tl (cutS z lo hi)) : c ∈ TL.tl z := List.mem_of_mem_drop (List.mem_of_mem_take h)
theorem cutV_from (z : List V) (a : Nat) : cutV z (some (a : Int)) none = z.drop a := by
  have e : cutV z (some (a : Int)) none = cutV z (some (a : Int)) (some ((z.length : Nat) : Int)) := by
    unfold cutV
    rw [HT.sIx_none, HT.sIx_nat, HT.sIx_nat]
    simp
  rw [e, cutV_at, List.take_of_length_le (by simp)]
theorem vint_dec (a b : Int) : decide (V.int a = V.int b) = decide (a = b) := decide_eq_decide.mpr ⟨V.int.inj, congrArg _⟩
theorem vstr_dec (a b : Str) : decide (V.str a = V.str b) = decide (a = b) := decide_eq_decide.mpr ⟨V.str.inj, congrArg _⟩
theorem or_false' {a b : Bool} (h : (a || b) = false) : a = false ∧ b = false := by cases a <;> cases b <;> simp_all
end LH
namespace LH
open PySem PySem.Spec PyProof.Rows L2
/-! ### while, its test told by its truth -/
theorem whileT {c : TT} {tb : TS} {D : Ends} {σ : L2.St} {H : Hp} (Pv : L2.St → Hp → Prop) (μ : L2.St → Hp → Nat) (h0 : Pv σ H)
    (hs : ∀ σ H, Pv σ H → ∃ b : Bool, (∀ k, TellB H b k → c σ H k) ∧ (b = true → ∀ H1, Same H H1 → tb { D with nx := fun σ' H' => Pv σ' H' ∧ μ σ' H' < μ σ H, ct := fun σ' H' => Pv σ' H' ∧ μ σ' H' < μ σ H, bk := D.nx } σ H1) ∧ (b = false → ∀ H1, Same H H1 → D.nx σ H1)) : tWhile c tb D σ H := by
  refine ⟨fun m σ H => m = μ σ H ∧ Pv σ H, ⟨_, rfl, h0⟩, ?_⟩
  rintro m σ H ⟨rfl, p⟩
  obtain ⟨b, ht, h1, h2⟩ := hs σ H p
  refine ht _ fun H1 s1 => ?_
  cases b with
  | true => exact ⟨_, fun σ' H' ⟨p', l⟩ => ⟨_, l, rfl, p'⟩, h1 rfl H1 s1⟩
  | false => exact h2 rfl H1 s1
end LH

namespace LH
open PySem PySem.Spec PyProof.Rows L2
/-! ### a comprehension over two clauses, the second one over a new list that the first one's item leads to -/
theorem lc_two {K : PySem.W.Frag} {J : It} {n : Nat} {G : Hp → Prop} {wi1 : TI} {te : TE} {c c1 : Nat} {σ : L2.St} {H1 : Hp} {D : Addr} {Qd : Hp → Prop} (xs : Nat → V) (ys : Nat → List V) (f : Nat → Nat → V) (hne : c ≠ c1) (w : Walk J n G (YFn xs)) (hG : ∀ H, Same H1 H → G H) (hD : H1 D = none)
    (hn : ∀ i, i ≤ n → (((List.range i).map fun i => (List.range (ys i).length).map (f i)).flatten).length ≤ sizeLine)
    (hi : ∀ i H (R : It → Hp → Prop), i < n → Same H1 H → (∀ H' p, Same H H' → H p = none → H' p = some (.lst (ys i)) → R (Itl K p) H') → wi1 (((σ.set c1 none).set c none).set c (some (xs i))) H R)
    (he : ∀ i j H Q, i < n → j < (ys i).length → Same H1 H → Tell H (f i j) Q → te (((((σ.set c1 none).set c none).set c (some (xs i))).set c1 none).set c1 (some ((ys i).getD j .non))) H Q)
    (hd : ∀ H, Same H1 H → H D = some (.lst (((List.range n).map fun i => (List.range (ys i).length).map (f i)).flatten)) → Qd H) :
    ∃ W : Nat → Nat → Hp → Prop, (∃ m, W 0 m (upd H1 D (.lst []))) ∧ ∀ i m H, W i m H →
      (J.stop i H ∧ Qd H) ∨ (J.go i H ∧ ∃ Nx : Hp → Prop, (∀ H', Nx H' → ∃ m', m' < m ∧ W (i + 1) m' H') ∧ ∀ x H', J.yld i H x H' → gName c x (wipe σ [c, c1]) H' fun σ2 H2 => wipe σ2 [c, c1] = wipe σ [c, c1] ∧ tYes σ2 H2 fun b H3 =>
        if b = true then wi1 σ2 H3 fun J1 H4 => ∃ W1 : Nat → Nat → Hp → Prop, (∃ m, W1 0 m H4) ∧ ∀ j k H, W1 j k H →
          (J1.stop j H ∧ Nx H) ∨ (J1.go j H ∧ ∃ Nx1 : Hp → Prop, (∀ H', Nx1 H' → ∃ k', k' < k ∧ W1 (j + 1) k' H') ∧ ∀ x H', J1.yld j H x H' → gName c1 x (wipe σ2 [c1]) H' fun σ3 H5 => wipe σ3 [c1] = wipe σ2 [c1] ∧ tYes σ3 H5 fun b H6 =>
            if b = true then te σ3 H6 fun y H7 => ∃ acc, H7 D = some (.lst acc) ∧ acc.length < sizeLine ∧ Nx1 (upd H7 D (.lst (acc ++ [y]))) else Nx1 H6)
        else Nx H3) := by
  let A : Nat → List V := fun i => ((List.range i).map fun i => (List.range (ys i).length).map (f i)).flatten
  have hA : ∀ i, A (i + 1) = A i ++ (List.range (ys i).length).map (f i) := fun i => by
    show ((List.range (i + 1)).map _).flatten = _
    rw [List.range_succ, List.map_append, List.flatten_append]
    simp [A]
  refine ⟨fun i m H => m = n - i ∧ i ≤ n ∧ Same H1 H ∧ H D = some (.lst (A i)), ⟨n, by simp, Nat.zero_le _, same_upd hD, upd_same⟩, ?_⟩
  rintro i m H ⟨rfl, hin, sm, eD⟩
  have q := hG H sm
  by_cases hlt : i < n
  · refine .inr ⟨w.goes i H hlt q, fun H' => Same H1 H' ∧ H' D = some (.lst (A (i + 1))), fun H' p' => ⟨n - (i + 1), by omega, rfl, hlt, p'⟩, fun x H' y => ?_⟩
    obtain ⟨rfl, rfl⟩ := w.yields i H x H' hlt q y
    refine ⟨?_, ?_⟩
    · show (((((σ.set c1 none).set c none).set c (some (xs i))).set c1 none).set c none) = (σ.set c1 none).set c none
      rw [List.set_set, List.set_comm _ _ hne]
      simp only [List.set_set]
    · unfold tYes
      dsimp only
      rw [if_pos rfl]
      refine hi i H' _ hlt sm fun H4 p s4 np ep => ?_
      have hpD : p ≠ D := fun e => by rw [e, eD] at np; exact nomatch np
      have hl := hn (i + 1) hlt
      refine ⟨fun j k H => k = (ys i).length - j ∧ j ≤ (ys i).length ∧ Same H1 H ∧ H p = some (.lst (ys i)) ∧ H D = some (.lst (A i ++ ((List.range j).map (f i)))), ⟨(ys i).length, by simp, Nat.zero_le _, sm.trans s4, ep, by simpa using s4 _ _ eD⟩, ?_⟩
      rintro j k H5 ⟨rfl, hj, s5, e5, eD5⟩
      by_cases hjl : j < (ys i).length
      · refine .inr ⟨⟨ys i, (ys i)[j], .inl (.inl e5), by simp [hjl]⟩, fun H' => Same H1 H' ∧ H' p = some (.lst (ys i)) ∧ H' D = some (.lst (A i ++ ((List.range (j + 1)).map (f i)))), fun H' p' => ⟨(ys i).length - (j + 1), by omega, rfl, hjl, p'⟩, fun x H6 y => ?_⟩
        obtain ⟨rfl, hx⟩ := y
        have hx := hx (ys i) (.inl (.inl e5))
        have ex : x = (ys i).getD j .non := by rw [List.getD_eq_getElem?_getD, hx]; rfl
        subst ex
        refine ⟨?_, ?_⟩
        · show (((((((σ.set c1 none).set c none).set c (some (xs i))).set c1 none).set c1 (some ((ys i).getD j .non)))).set c1 none) = (((σ.set c1 none).set c none).set c (some (xs i))).set c1 none
          rw [List.set_set, List.set_set]
        · rw [if_pos rfl]
          refine he i j H6 _ hlt hjl s5 fun H7 s7 => ⟨_, s7 _ _ eD5, ?_, ?_, ?_, ?_⟩
          · have e1 : (A (i + 1)).length ≤ sizeLine := hl
            rw [hA, List.length_append, List.length_map, List.length_range] at e1
            rw [List.length_append, List.length_map, List.length_range]
            omega
          · intro b o hb
            rw [upd_ne (ne_of_none hb hD)]
            exact s7 _ _ (s5 _ _ hb)
          · rw [upd_ne hpD]
            exact s7 _ _ e5
          · rw [upd_same, List.range_succ, List.map_append, List.append_assoc]
            rfl
      · have hj2 : j = (ys i).length := by omega
        subst hj2
        refine .inl ⟨⟨ys i, .inl (.inl e5), Nat.le_refl _⟩, s5, ?_⟩
        rw [hA]
        exact eD5
  · have e : i = n := by omega
    subst e
    exact .inl ⟨w.stops H q, hd H sm eD⟩
end LH
namespace LH
open PySem PySem.Spec PyProof.Rows L2
theorem cutV_last (z : List V) : cutV z (some (-1)) none = z.drop (z.length - 1) := by
  unfold cutV
  rw [HT.sIx_none]
  have e : HT.sIx z.length 0 (some (-1)) = z.length - 1 := by
    show (if (-1 : Int) < 0 then (-1 + (z.length : Int)).toNat else min (-1 : Int).toNat z.length) = _
    rw [if_pos (by decide)]
    omega
  rw [e, List.take_of_length_le]
  rw [List.length_drop]
  exact Nat.le_refl _
theorem drop_last_eq {α : Type} (l : List α) (x : α) : l.drop (l.length - 1) = [x] ↔ l.getLast? = some x := by
  rcases List.eq_nil_or_concat l with h | ⟨L, y, h⟩
  · subst h; simp
  · rw [List.concat_eq_append] at h
    subst h
    rw [List.length_append, List.length_singleton, Nat.add_sub_cancel, List.drop_left, List.getLast?_concat]
    simp
end LH
namespace LH
open PySem PySem.Spec PyProof.Rows L2
theorem pi_listK {X : Cx} {tg e : Expr} {te : TE} (K : PySem.W.Frag) (he : PE X e te) (h : X.K = K := by rfl) : PI X tg e (iList K te) := h ▸ pi_list he
end LH

namespace LH
open PySem PySem.Spec PySem.Calls PyProof.Rows L2 Builtin Builtin.Str Builtin.Int Builtin.Float
/-! ### a number by a written form -/
def FmtI (sp : Str) (i : Int) (y : Str) : Prop := ∀ (prog : Program) (w : World) (A : Around) (E : Value → Shared → Prop) (s : Shared) (t : Tok) (Q : Value → Shared → Prop), (∀ t' k, Q (.str y t') { s with toks := k }) → wpAny (model prog w) A (formatField (.int i t) sp) Q E s
def hexF : FormatSpec := { fill := 48, align := 61, width := some 2, type := some 88 }
def hexT (i : Int) : Str := intField' hexF (decide (i < 0)) [] ((Nat.toDigits 16 i.natAbs).map fun c => (if (88 : Nat) == 88 then c.toUpper else c).toNat) [] 4
theorem hex_parse : parseFormatSpec (Str.ofString "02X").cps.toList "int" 62 = .ok hexF := by kernel_rfl
def hexDig (n : Nat) : Nat := if n < 10 then 48 + n else 55 + n
theorem hexT_eq {b : Nat} (h : b < 256) : hexT (b : Nat) = ⟨#[hexDig (b / 16), hexDig (b % 16)]⟩ := by
  have : ∀ d : Fin 256, (hexT (d.val : Nat)).cps.toList = [hexDig (d.val / 16), hexDig (d.val % 16)] := by decide +kernel
  exact TL.ext_tl (this ⟨b, h⟩)
set_option maxHeartbeats 4000000 in
theorem fmt_hex {b : Nat} (h : b < 256) : FmtI (Str.ofString "02X") (b : Nat) ⟨#[hexDig (b / 16), hexDig (b % 16)]⟩ := by
  intro prog w A E s t Q q
  have hlen : (hexT (b : Nat)).length ≤ sizeLine := by rw [hexT_eq h, sizeLine_eq]; show 2 ≤ 16777216; decide
  rw [← hexT_eq h] at q
  refine PySem.W.KXf.field_int (spec' := Str.ofString "02X") (y := hexT (b : Nat)) rfl (by decide +kernel) (by decide +kernel) ?_ q
  intro _
  apply PySem.W.KPc.meets_of
  intro _ _ _ _ _ _ _
  unfold Builtin.«int.__format__»
  refine wpAny_bind (wpAny_of_eq (a := (_, _)) rfl ?_)
  refine wpAny_bind (wpAny_of_eq (a := _) rfl ?_)
  kxf_if
  refine wpAny_bind (wpAny_typeNameOf (T := "str") (typeIs_str _ _ _) (by decide) fun _ => ?_)
  refine wpAny_bind (wpAny_of_eq (a := some _) rfl ?_)
  kxf_if
  kxf_if
  refine wpAny_bind (wpAny_typeNameOfCut_int ?_)
  simp only [hex_parse, hexF]
  (repeat kxf_if)
  refine PySem.W.KXf.ret_text (T := hexT (b : Nat)) rfl hlen ?_
  assumption
/-! ### a number by figures, noughts ahead -/
def decF (k : Nat) : FormatSpec := { fill := 48, align := 61, width := some k, type := some 100 }
def decT (k : Nat) (i : Int) : Str := intField' (decF k) (decide (i < 0)) [] ((Nat.toDigits 10 i.natAbs).map fun c => (if (100 : Nat) == 88 then c.toUpper else c).toNat) [] 3
theorem dec2_parse : parseFormatSpec (Str.ofString "02d").cps.toList "int" 62 = .ok (decF 2) := by kernel_rfl
theorem dec4_parse : parseFormatSpec (Str.ofString "04d").cps.toList "int" 62 = .ok (decF 4) := by kernel_rfl
theorem dec2_eq {b : Nat} (h : b < 100) : decT 2 (b : Nat) = ⟨#[48 + b / 10, 48 + b % 10]⟩ := by
  have : ∀ d : Fin 100, (decT 2 (d.val : Nat)).cps.toList = [48 + d.val / 10, 48 + d.val % 10] := by decide +kernel
  exact TL.ext_tl (this ⟨b, h⟩)
section
variable {X : Cx}
def tFmtS (te : TE) (sp : Str) : TE := fun σ H Q => te σ H fun x H1 => ∃ i y, x = .int i ∧ FmtI sp i y ∧ Q (.str y) H1
theorem pe_fmtS {e spec : Expr} {te : TE} {sp : Str} {pos : Pos} (he : PE X e te) (hs : PE X spec (tC (.str sp))) : PE X (.FormattedValue e (-1) (some spec) pos) (tFmtS te sp) := by
  refine ⟨fun pins s σ H Q I h => ?_⟩
  refine wpAny_FormattedValue_spec (thn (he.run pins s σ H _ I h) fun v s1 hv => ?_)
  obtain ⟨x, H1, I1, r1, i, y, rfl, hf, q⟩ := hv
  obtain ⟨t, rfl⟩ := r1
  refine thn (hs.run pins s1 σ H1 (fun z H2 => z = .str sp ∧ Q (.str y) H2) I1 ⟨rfl, q⟩) fun v2 s2 hv => ?_
  obtain ⟨z, H2, I2, r2, rfl, q2⟩ := hv
  obtain ⟨t2, rfl⟩ := r2
  exact ⟨sp, t2, rfl, hf _ _ _ _ _ _ _ fun t' k => ⟨.str y, H2, I2.tok _, ⟨_, rfl⟩, q2⟩⟩
end
end LH

namespace LH
open PySem PySem.Spec PyProof.Rows L2
/-! ### o[i] op= e of a list -/
def rGetL (K : PySem.W.Frag) : V → V → Hp → VK → Prop := fun o i H Q => ∃ p xs k v, o = .ref p ∧ i = .int k ∧ SqL K H p xs ∧ atI xs k = some v ∧ Q v H
theorem get_list {X : Cx} : PGet X (rGetL X.K) := by
  intro pins s σ H x y v u Q I rx ry h
  obtain ⟨p, xs, i, z, rfl, rfl, hq, he, q⟩ := h
  cases rx
  obtain ⟨t, rfl⟩ := ry
  obtain ⟨its, r, pl, hz⟩ := I.list hq
  obtain ⟨j, h1, h2, h3, h4, h5⟩ := atI_get he
  obtain ⟨w, ew, rw'⟩ := r.get h2
  have hl := r.length
  have hn := line63
  have fin : EP X pins σ Q w s := ⟨z, H, I, rw', q⟩
  by_cases h0 : 0 ≤ i
  · have hj : i.toNat = j := by
      rw [seqIndex_of h0 h5] at h1
      exact Option.some.inj h1
    exact wpAny_getItem_list pl.isList h0 (by omega) (by rw [hj]; simpa using ew) fin
  · have hj : (i + (its.toArray.size : Int)).toNat = j := by
      rw [seqIndex_neg (by omega) h4] at h1
      rw [List.size_toArray, ← hl]
      exact Option.some.inj h1
    exact wpAny_getItem_list_neg pl.isList (by omega) (by rw [List.size_toArray] <;> omega) (by omega) (by rw [hj]; simpa using ew) fin
theorem get_listK {X : Cx} (K : PySem.W.Frag) (h : X.K = K := by rfl) : PGet X (rGetL K) := h ▸ get_list
theorem ixN_last {α : Type} (xs : List α) (v : α) : ixN (xs ++ [v]).length (-1) = some xs.length := by
  have hl : (xs ++ [v]).length = xs.length + 1 := by simp
  unfold ixN
  rw [hl, if_neg (by decide), if_pos (by omega)]
  congr 1
  omega
theorem set_last {α : Type} (xs : List α) (v u : α) : (xs ++ [v]).set xs.length u = xs ++ [u] := by
  rw [List.set_append_right _ _ (Nat.le_refl _), Nat.sub_self]
  rfl
/-! ### small letters made great -/
def Sm (l : List Nat) : Prop := ∀ c ∈ l, 97 ≤ c ∧ c ≤ 122
def cap : List Nat → List Nat
  | [] => []
  | c :: r => (c - 32) :: r
theorem title_small {c : Nat} (h : 97 ≤ c ∧ c ≤ 122) : Unicode.titleOf c = [c - 32] := by
  have : ∀ d : Fin 26, Unicode.titleOf (97 + d.val) = [97 + d.val - 32] := by decide +kernel
  have e := this ⟨c - 97, by omega⟩
  rwa [show 97 + (c - 97) = c by omega] at e
theorem upper_small {c : Nat} (h : 97 ≤ c ∧ c ≤ 122) : Unicode.upperOf c = [c - 32] := by
  have : ∀ d : Fin 26, Unicode.upperOf (97 + d.val) = [97 + d.val - 32] := by decide +kernel
  have e := this ⟨c - 97, by omega⟩
  rwa [show 97 + (c - 97) = c by omega] at e
theorem lower_small {c : Nat} (h : 97 ≤ c ∧ c ≤ 122) : Unicode.lowerOf c = [c] := by
  have : ∀ d : Fin 26, Unicode.lowerOf (97 + d.val) = [97 + d.val] := by decide +kernel
  have e := this ⟨c - 97, by omega⟩
  rwa [show 97 + (c - 97) = c by omega] at e
theorem tl_placed (x : Str) (f : Nat → Nat → List Nat) : TL.tl ⟨placed x f⟩ = ((TL.tl x).mapIdx f).flatten := by
  unfold placed TL.tl
  simp only [Array.toList_flatten, Array.toList_mapIdx]
  congr 1
  apply List.ext_getElem?
  intro i
  rw [List.getElem?_map, List.getElem?_mapIdx, List.getElem?_mapIdx]
  cases x.cps.toList[i]? <;> rfl
theorem mapIdx_same {f g : Nat → Nat → List Nat} : ∀ l : List Nat, (∀ i c, l[i]? = some c → f i c = g i c) → l.mapIdx f = l.mapIdx g := fun l h => by
  apply List.ext_getElem?
  intro i
  rw [List.getElem?_mapIdx, List.getElem?_mapIdx]
  cases e : l[i]? with
  | none => rfl
  | some c => exact congrArg some (h i c e)
theorem flat_one : ∀ l : List Nat, (l.mapIdx fun _ c => [c]).flatten = l := by
  intro l
  rw [List.mapIdx_eq_zipIdx_map]
  induction l with
  | nil => rfl
  | cons c r ih =>
    have : ∀ (l : List Nat) (n : Nat), ((l.zipIdx n).map fun (p : Nat × Nat) => [p.1]).flatten = l := by
      intro l
      induction l with
      | nil => intro n; rfl
      | cons c r ih => intro n; rw [List.zipIdx_cons, List.map_cons, List.flatten_cons, ih]; rfl
    exact this _ 0
theorem cap_eq (x : Str) (h : Sm (TL.tl x)) : TL.tl (Txt.capitalize x) = cap (TL.tl x) := by
  unfold Txt.capitalize
  by_cases h0 : (x.length == 0) = true
  · rw [if_pos h0]
    have : TL.tl x = [] := by
      have e := eq_of_beq h0
      rw [TL.len_tl] at e
      exact List.length_eq_zero_iff.mp e
    rw [this]
    rfl
  · rw [if_neg h0]
    unfold Txt.capitalized
    rw [tl_placed, mapIdx_same (g := fun i c => if i = 0 then [c - 32] else [c]) _ fun i c hc => ?_]
    · cases e : TL.tl x with
      | nil => rfl
      | cons c r =>
        rw [List.mapIdx_cons, List.flatten_cons]
        show [c - 32] ++ _ = (c - 32) :: r
        have : (r.mapIdx fun i c => if i + 1 = 0 then [c - 32] else [c]) = r.mapIdx fun _ c => [c] := mapIdx_same r fun i c _ => if_neg (by omega)
        rw [this, flat_one]
        rfl
    · have hm := h c (List.mem_of_getElem? hc)
      by_cases hi : i = 0
      · subst hi
        exact title_small hm
      · have hb : (i == 0) = false := by simpa using hi
        rw [if_neg hi]
        show (if (i == 0) = true then Unicode.titleOf c else Unicode.lowerAt x.cps i) = [c]
        rw [hb, if_neg Bool.false_ne_true]
        unfold Unicode.lowerAt
        have ec : x.cps[i]? = some c := by rw [← hc]; exact Array.getElem?_toList.symm
        rw [ec]
        show (if (c == 0x3A3 && Unicode.endsWord x.cps i) = true then [0x3C2] else Unicode.lowerOf c) = [c]
        have hb2 : (c == 0x3A3) = false := by simp; omega
        rw [hb2, Bool.false_and, if_neg Bool.false_ne_true]
        exact lower_small hm
theorem upper_eq (x : Str) (h : Sm (TL.tl x)) : TL.tl (Txt.upper x) = (TL.tl x).map fun c => c - 32 := by
  unfold Txt.upper
  rw [tl_placed, mapIdx_same (g := fun _ c => [c - 32]) _ fun i c hc => upper_small (h c (List.mem_of_getElem? hc))]
  generalize TL.tl x = l
  have : (l.mapIdx fun _ c => [c - 32]) = (l.map fun c => c - 32).mapIdx fun _ c => [c] := by
    apply List.ext_getElem?
    intro i
    rw [List.getElem?_mapIdx, List.getElem?_mapIdx, List.getElem?_map]
    cases l[i]? <;> rfl
  rw [this, flat_one]
theorem upper_cap (x : Str) (h : Sm (TL.tl x)) : TL.tl (Txt.upper (cutS x none (some 1)) ++ cutS x (some 1) none) = cap (TL.tl x) := by
  have e1 : TL.tl (cutS x none (some 1)) = (TL.tl x).take 1 := by rw [show (1 : Int) = ((1 : Nat) : Int) from rfl, cutS_to]
  have e2 : TL.tl (cutS x (some 1) none) = (TL.tl x).drop 1 := by rw [show (1 : Int) = ((1 : Nat) : Int) from rfl, cutS_from]
  rw [TL.tl_append, upper_eq _ (by rw [e1]; exact fun c hc => h c (List.mem_of_mem_take hc)), e1, e2]
  cases TL.tl x with
  | nil => rfl
  | cons c r => simp [cap]
theorem cap_len (l : List Nat) : (cap l).length = l.length := by cases l <;> rfl
/-! ### words of a text -/
/-- a word's signs: none of them a blank -/
def WordL (l : List Nat) : Prop := l ≠ [] ∧ ∀ c ∈ l, 33 ≤ c ∧ c ≤ 126 ∧ c ≠ 37
theorem space_no {c : Nat} (h : 33 ≤ c ∧ c ≤ 126) : Unicode.isSpace c = false := by
  have : ∀ d : Fin 94, Unicode.isSpace (33 + d.val) = false := by decide +kernel
  have e := this ⟨c - 33, by omega⟩
  rwa [show 33 + (c - 33) = c by omega] at e
theorem words_join (ws : List Str) (h : ∀ x ∈ ws, WordL (TL.tl x)) (sp : Str) (hs : TL.tl sp = [32]) : Txt.words (Txt.join sp ws) = ws := by
  refine TL.map_tl_inj ?_
  rw [TL.words_tl, TL.join_eq, TL.tl_join, hs]
  cases ws with
  | nil => rfl
  | cons x r =>
    rw [TL.wfold_join _ _ (by simp) fun p hp => ?_, List.nil_append]
    obtain ⟨y, hy, rfl⟩ := List.mem_map.mp hp
    exact ⟨(h y hy).1, fun c hc => space_no ⟨((h y hy).2 c hc).1, ((h y hy).2 c hc).2.1⟩⟩
/-! ### joined by a sign and split there again -/
theorem splitL_app (s : Nat) (w r : List Nat) (hw : s ∉ w) : splitL s (w ++ s :: r) = w :: splitL s r := by
  induction w with
  | nil => simp [splitL]
  | cons c w ih =>
    have hc : c ≠ s := fun h => hw (by rw [h]; exact List.mem_cons_self)
    have ih' := ih fun h => hw (List.mem_cons_of_mem _ h)
    show splitL s (c :: (w ++ s :: r)) = _
    rw [splitL, if_neg hc, ih']
    rfl
theorem splitL_self (s : Nat) (w : List Nat) (hw : s ∉ w) : splitL s w = [w] := by
  induction w with
  | nil => rfl
  | cons c w ih =>
    have hc : c ≠ s := fun h => hw (by rw [h]; exact List.mem_cons_self)
    rw [splitL, if_neg hc, ih fun h => hw (List.mem_cons_of_mem _ h)]
    rfl
theorem splitL_join (s : Nat) : ∀ ps : List (List Nat), ps ≠ [] → (∀ p ∈ ps, s ∉ p) → splitL s (TL.joinL [s] ps) = ps
  | [], h, _ => absurd rfl h
  | [p], _, h => splitL_self s p (h p (by simp))
  | p :: q :: r, _, h => by
    rw [TL.joinL]
    show splitL s (p ++ s :: TL.joinL [s] (q :: r)) = _
    rw [splitL_app s p _ (h p (by simp)), splitL_join s (q :: r) (by simp) fun x hx => h x (List.mem_cons_of_mem _ hx)]
/-! ### a header's rows -/
def hstep (st : List (List Nat) × List Nat) (w : List Nat) : List (List Nat) × List Nat :=
  if 60 < st.2.length + 1 + w.length then (st.1 ++ [st.2], 32 :: w) else (st.1, st.2 ++ 32 :: w)
def great (l : List Nat) : List Nat := TL.joinL [45] ((splitL 45 l).map cap)
def hfold (l : List Nat) (ws : List (List Nat)) : List (List Nat) × List Nat := ws.foldl hstep ([], great l ++ [58])
def hrows (l : List Nat) (ws : List (List Nat)) : List (List Nat) := (hfold l ws).1 ++ [(hfold l ws).2]
def strL (ls : List (List Nat)) : List Str := ls.map fun l => ⟨l.toArray⟩
theorem strL_app (a b : List (List Nat)) : strL (a ++ b) = strL a ++ strL b := by unfold strL; rw [List.map_append]
theorem hfold_snoc (l : List Nat) (ws : List (List Nat)) (w : List Nat) : hfold l (ws ++ [w]) = hstep (hfold l ws) w := by
  unfold hfold
  rw [List.foldl_append]
  rfl
theorem foldl_rev_ind {P : List (List Nat) → Prop} (h0 : P []) (hs : ∀ ws w, P ws → P (ws ++ [w])) : ∀ ws, P ws := by
  intro ws
  have key : ∀ r : List (List Nat), P r.reverse := by
    intro r
    induction r with
    | nil => exact h0
    | cons w r ih => rw [List.reverse_cons]; exact hs _ _ ih
  have := key ws.reverse
  rwa [List.reverse_reverse] at this
theorem hfold_len (l : List Nat) (hl : (great l).length ≤ 59) : ∀ ws : List (List Nat), (∀ w ∈ ws, w.length ≤ 59) → (hfold l ws).2.length ≤ 60 ∧ (∀ r ∈ (hfold l ws).1, r.length ≤ 60) ∧ (hfold l ws).1.length ≤ ws.length := by
  refine foldl_rev_ind (P := fun ws => (∀ w ∈ ws, w.length ≤ 59) → (hfold l ws).2.length ≤ 60 ∧ (∀ r ∈ (hfold l ws).1, r.length ≤ 60) ∧ (hfold l ws).1.length ≤ ws.length) ?_ ?_
  · intro _
    refine ⟨?_, (fun r hr => by cases hr), Nat.le_refl _⟩
    show (great l ++ [58]).length ≤ 60
    rw [List.length_append, List.length_singleton]
    omega
  · intro ws w ih h
    obtain ⟨h1, h2, h3⟩ := ih fun x hx => h x (by simp [hx])
    have hw := h w (by simp)
    rw [hfold_snoc]
    unfold hstep
    split
    · refine ⟨by simp only [List.length_cons]; omega, fun r hr => ?_, by simp only [List.length_append, List.length_singleton]; omega⟩
      rcases List.mem_append.mp hr with hr | hr
      · exact h2 r hr
      · rw [List.mem_singleton.mp hr]; exact h1
    · refine ⟨by simp only [List.length_append, List.length_cons]; omega, h2, by simp only [List.length_append, List.length_singleton]; omega⟩
theorem hfold_ok (l : List Nat) (hl : ∀ c ∈ great l, c < 1114112) : ∀ ws : List (List Nat), (∀ w ∈ ws, ∀ c ∈ w, c < 1114112) → (∀ c ∈ (hfold l ws).2, c < 1114112) ∧ ∀ r ∈ (hfold l ws).1, ∀ c ∈ r, c < 1114112 := by
  refine foldl_rev_ind (P := fun ws => (∀ w ∈ ws, ∀ c ∈ w, c < 1114112) → (∀ c ∈ (hfold l ws).2, c < 1114112) ∧ ∀ r ∈ (hfold l ws).1, ∀ c ∈ r, c < 1114112) ?_ ?_
  · intro _
    refine ⟨fun c hc => ?_, fun r hr => by cases hr⟩
    rcases List.mem_append.mp (show c ∈ great l ++ [58] from hc) with h | h
    · exact hl c h
    · rw [List.mem_singleton.mp h]; decide
  · intro ws w ih h
    obtain ⟨h1, h2⟩ := ih fun x hx => h x (by simp [hx])
    have hw := h w (by simp)
    have hw' : ∀ c ∈ 32 :: w, c < 1114112 := fun c hc => by
      rcases List.mem_cons.mp hc with rfl | hc
      · decide
      · exact hw c hc
    rw [hfold_snoc]
    unfold hstep
    split
    · refine ⟨hw', fun r hr => ?_⟩
      rcases List.mem_append.mp hr with hr | hr
      · exact h2 r hr
      · rw [List.mem_singleton.mp hr]; exact h1
    · refine ⟨fun c hc => ?_, h2⟩
      rcases List.mem_append.mp hc with h | h
      · exact h1 c h
      · exact hw' c h
end LH

set_option maxHeartbeats 2000000
namespace LH
open PySem PySem.Spec PyProof.Rows L2
/-! ### an exception that is caught and held as a value -/
/-- the exception object at a: its class, its own dict -/
def ExH (cls : Value) (d : Option Addr) (a : Addr) : HO := .ext fun h => ∃ (oe : Obj) (fv : Array Value), h.get? a = some oe ∧ (oe.cls = cls ∧ oe.dict = d) ∧ oe.data = .fields fv
section
variable {X : Cx} {pins : List (Addr × Obj)} {σ : L2.St} {H : Hp} {s : Shared}
theorem hold_inv {a : Addr} {oe : Obj} {fv : Array Value} {cls : Value} {d : Option Addr} (I : Inv X pins σ H s) (ha : s.heap.get? a = some oe) (hz : Zc cls d oe) (hd : oe.data = .fields fv) (na : H a = none) (nL : a ≠ X.env.locals)
    (n0 : X.s_0.heap.get? a = none) (np : ∀ p ∈ X.pn ++ pins, p.1 ≠ a) : Inv X pins σ (upd H a (ExH cls d a)) s := by
  have far : ∀ {b : Addr} {u : HO}, H b = some u → b ≠ a := fun e => ne_of_none e na
  have old : ∀ {b : Addr} {o : Obj}, X.s_0.heap.get? b = some o → b ≠ a := fun {b o} e z => by
    subst z
    rw [n0] at e
    exact nomatch e
  have noCell : ∀ {y : Str} {c : Addr}, X.env.cells.lookup y = some c → c ≠ a := fun {y c} e z => by
    obtain ⟨v, o, ho, hv⟩ := I.cell y c e
    subst z
    rw [ha] at ho
    cases ho
    rw [hd] at hv
    exact nomatch hv
  have keepU : ∀ {b : Addr} {u : HO}, H b = some u → upd H a (ExH cls d a) b = some u := fun e => (upd_ne (far e)).trans e
  have base' : Un X.fs X.ex X.H_0 (upd H a (ExH cls d a)) X.s_0.heap s.heap :=
    { keep := I.base.keep, slot := I.base.slot, there := I.base.there, free := fun b o e n hx => (upd_ne (old e)).trans (I.base.free b o e n hx), tups := fun b xs e => keepU (I.base.tups b xs e), frzs := fun b o u e => keepU (I.base.frzs b o u e),
      tbls := fun b ps e => (I.base.tbls b ps e).imp fun _ q => keepU q }
  have hok' : HOk X.prog X.w (upd H a (ExH cls d a)) s.heap := fun b ob e => by
    by_cases hb : b = a
    · subst hb
      rw [upd_same] at e
      cases e
      exact ⟨⟨oe, fv, ha, hz, hd⟩, ⟨oe, ha⟩, fun _ _ ⟨o, v, q, r⟩ k => ⟨o, v, k o q, r⟩⟩
    · rw [upd_ne hb] at e
      exact (I.hok b ob e).stay (fun _ _ _ q => q) (fun _ q => keepU q) fun _ _ q => keepU q
  exact { ok := I.ok, os := I.os, bare := I.bare, base := base', loc := I.loc, cell := I.cell, free := (upd_ne (Ne.symm nL)).trans I.free, freeC := fun y c e => (upd_ne (noCell e)).trans (I.freeC y c e),
          pin := fun p hp => ⟨(I.pin p hp).1, (upd_ne (np p hp)).trans (I.pin p hp).2.1, (I.pin p hp).2.2⟩, hok := hok', len := I.len }
/-- what such a clause wishes of the body's exception: it is of the class, and the suite's end stands with the object held -/
def wHold (K : PySem.W.Frag) (c : Value) (i : Nat) (ts : TS) (D : Ends) : WX := fun cls d σ H =>
  PySem.W.exmOne K cls c = some true ∧ ∀ a, H a = none → ts { nx := fun σ' H' => H' a = none → D.nx (σ'.set i none) (upd H' a (ExH cls d a)), rt := fun _ _ => False, bk := fun _ _ => False, ct := fun _ _ => False } (σ.set i (some (.ref a))) H
theorem ps_try_hold {x n : Str} {c : Value} {i : Nat} {body rest : List Stmt} {b0 : Stmt} {np pos pos' : Pos} {tb : WX → TS} {ts : TS} (hs : X.stack = X.env :: X.outer) (hf : X.env.frame = some X.env.locals) (hx : X.ex = []) (hN : X.N.Nodup) (hi : X.N[i]? = some n)
    (hln : X.env.kindOf n = some .local) (hc : Names X x c) (hb : ∀ (W : WX) (pn : List (Addr × Obj)) (xe : Value → Shared → Prop), Takes (X.tr pn xe) W → PassesOwn (model X.prog X.w) X.A X.env xe → PSs (X.tr pn xe) body (tb W))
    (hsu : ∀ (a : Addr) (oe : Obj) (pn : List (Addr × Obj)), PSs (X.suite a ((a, oe) :: pn)) (b0 :: rest) ts) :
    PS X (.Try body [.ExceptHandler (some (.Name x np)) (some n) (b0 :: rest) pos'] [] [] pos) (fun D σ H => tb (wHold X.K c i ts D) D σ H) := by
  constructor
  intro pins s σ H D I h
  have hok := I.ok
  have hframes : X.A.frames = some (X.env :: X.outer) := hok.frames.trans (by rw [hs])
  apply wpAny_Try_except
  refine wpAny_mono (PSs.run (hb (wHold X.K c i ts D) (X.pn ++ pins) _ (fun u s' air => ?_) PassesOwn.looking) [] s σ H D (I.toTry _) h) (fun f s1 done => ?_) (fun _ _ z => z)
  · -- an exception is in the air
    obtain ⟨a, B, sI, pins', σ1, H1, cls, d, rfl, J1, nb, up, sky, na, os, ag, fits, wish⟩ := air
    have J : Inv X pins σ1 H1 sI := Inv.ofTry J1 hok
    refine Sky.land (Z := Zc cls d) Zc.steady hframes hf (by rw [hs] at sky; exact sky) fun g fly upg => ?_
    have Jg : Inv X pins σ1 H1 { s' with heap := g } := Inv.landed J nb fly.1 (Heap.UpToSlots.trans up upg) os ag
    obtain ⟨og, fg, hog, zg, dg⟩ := HandSPX.FlyingZ.there fly
    have offFrames : a ∉ frs (X.env :: X.outer) := fun hm => by
      obtain ⟨_, o', e', hno⟩ := fly.2.2.1.mem hm
      rw [hog] at e'
      cases e'
      exact hno _ dg
    have offLocals : a ≠ X.env.locals := fun z => offFrames (List.mem_filterMap.mpr ⟨X.env, by simp, by rw [hf, z]⟩)
    have offFs : a ∉ X.fs := fun hm => by
      obtain ⟨ev, hev, q⟩ := List.mem_filterMap.mp hm
      exact offFrames (List.mem_filterMap.mpr ⟨ev, List.mem_cons_of_mem _ hev, q⟩)
    have gone : sI.heap.get? a = none := by
      cases e : sI.heap.get? a with
      | none => rfl
      | some o => exact absurd ((nb a o e (by rw [hs]; exact offFrames)).symm.trans fly.2.1) (fun z => nomatch z)
    have new0 : X.s_0.heap.get? a = none := by
      cases e : X.s_0.heap.get? a with
      | none => rfl
      | some o =>
        obtain ⟨o', e'⟩ := J.base.there a o e (by rw [hx]; exact List.not_mem_nil)
        rw [gone] at e'
        exact nomatch e'
    have offPins : ∀ p ∈ X.pn ++ pins, p.1 ≠ a := fun p hp z => by
      have e' := (J.pin p hp).1
      rw [z, gone] at e'
      exact nomatch e'
    have Sg := Inv.suite Jg hog dg na offLocals offFs
    refine wpAny_handleBy_cons (codeAny_handlers_test ?_) (fun q => nomatch q)
    have seen := PySem.W.exm_one (M := model X.prog X.w) Jg.kIn (fun A' Q' E' t k q => wpAny_typeOf_ref (k _ _ hog) (by rw [zg.1]; exact q)) fits
    have named : ∀ {Q : Value → Shared → Prop} {E : Value → Shared → Prop}, Q c { s' with heap := g } → wpAny (model X.prog X.w) (X.A.mark (some (.ref a))) (eval (.Name x np) X.env) Q E { s' with heap := g } := fun {Q E} q => by
      rcases hc with ⟨hg, hdbg, hm | ⟨hm, hv, hnn⟩⟩
      · exact ld_glob (X := X.suite a ((a, og) :: (X.pn ++ pins))) Sg hg hm q hdbg
      · exact ld_blt (X := X.suite a ((a, og) :: (X.pn ++ pins))) Sg hg hm hv q hnn hdbg
    refine named (seen.here (codeAny_handlers_suite_as (HandSPX.lands_againZ fly fun k flk upk => ?_)))
    have Jk : Inv X pins σ1 H1 { s' with heap := k } := Inv.landed J nb flk.1 (Heap.UpToSlots.trans (Heap.UpToSlots.trans up upg) upk) os ag
    obtain ⟨ok', fk, hok4, zk, dk⟩ := HandSPX.FlyingZ.there flk
    have Sk := Inv.suite Jk hok4 dk na offLocals offFs
    refine store_ok (X := X.suite a ((a, ok') :: (X.pn ++ pins))) (v := .ref a) Sk hN hi (.inl hln) rfl (fun t St' => ?_) (.inr hln)
    refine wpAny_mono ((hsu a ok' (X.pn ++ pins)).run [] t _ H1 _ St' (wish a na)) (fun fl t1 end1 => ?_) (fun _ _ z => z.elim)
    cases fl with
    | next =>
      obtain ⟨σ2, H2, S2, q2⟩ := end1
      refine gone_ok (X := X.suite a ((a, ok') :: (X.pn ++ pins))) S2 hN hi hln fun t2 S3 => ?_
      obtain ⟨e3, n3, _⟩ := S3.pin (a, ok') (by simp)
      exact ⟨_, _, hold_inv (Inv.unsuite S3 hok) e3 zk dk n3 offLocals new0 offPins, q2 n3⟩
    | brk => obtain ⟨_, _, _, q2⟩ := end1; exact q2.elim
    | cont => obtain ⟨_, _, _, q2⟩ := end1; exact q2.elim
    | ret u => obtain ⟨_, _, _, _, _, q2⟩ := end1; exact q2.elim
  · -- nothing was raised
    cases f with
    | next => obtain ⟨σ1, H1, J1, q⟩ := done; exact wpAny_execs_nil ⟨σ1, H1, Inv.ofTry J1 hok, q⟩
    | brk => obtain ⟨σ1, H1, J1, q⟩ := done; exact ⟨σ1, H1, Inv.ofTry J1 hok, q⟩
    | cont => obtain ⟨σ1, H1, J1, q⟩ := done; exact ⟨σ1, H1, Inv.ofTry J1 hok, q⟩
    | ret u => obtain ⟨v, σ1, H1, J1, r, q⟩ := done; exact ⟨v, σ1, H1, Inv.ofTry J1 hok, r, q⟩
end
end LH
namespace LH
open PySem PySem.Spec PyProof.Rows L2
/-! ### isinstance of a held exception; a walk over pairs -/
theorem getD_app_l {α : Type} (xs ys : List α) (d : α) {i : Nat} (h : i < xs.length) : (xs ++ ys).getD i d = xs.getD i d := by
  rw [List.getD_eq_getElem?_getD, List.getD_eq_getElem?_getD, List.getElem?_append_left h]
theorem getD_app_r {α : Type} (xs ys : List α) (d : α) {i : Nat} (h : xs.length ≤ i) : (xs ++ ys).getD i d = ys.getD (i - xs.length) d := by
  rw [List.getD_eq_getElem?_getD, List.getD_eq_getElem?_getD, List.getElem?_append_right h]
/-- isinstance(e, c), e a held exception of the class at D without an own dict -/
def rIsH (K : PySem.W.Frag) : List V → Hp → VK → Prop := fun xs H Q => ∃ (a D : Addr) (c : V) (cv : Value) (b : Bool), xs = [.ref a, c] ∧ H a = some (ExH (.ref D) none a) ∧ ExcC K D ∧ (∀ u, RelV c u → u = cv) ∧ PySem.W.kitOne K (.ref D) cv = some b ∧ Q (.bl b) H
theorem call_isH {X : Cx} : CallR X (.builtin "isinstance") (rIsH X.K) := by
  intro pins s σ H xs us Q I r h
  obtain ⟨a, D, c, cv, b, rfl, ha, C, hcv, e, q⟩ := h
  obtain ⟨u1, u2, rfl, r1, r2⟩ := vals2 r
  cases (show u1 = Value.ref a from r1)
  obtain rfl := hcv _ r2
  obtain ⟨⟨oe, fv, hget, ⟨h1, h2⟩, h3⟩, _, _⟩ := (show ObjOk X.prog X.w H s.heap a (ExH (.ref D) none a) from I.hok a _ ha)
  have J : PySem.W.InstAt s.heap a oe D none := by
    obtain ⟨oc, od, oda, osl⟩ := oe
    dsimp only at h1 h2 h3
    subst h1 h2 h3
    exact ⟨hget, rfl, rfl, trivial⟩
  exact PySem.W.kia_one (PySem.W.handS_kitx_exc C.hg C.hk C.hs C.hd C.ha C.hn C.ht C.hm) I.kIn J e (fun z => nomatch z) fun tk => ⟨.bl b, H, I.kept (t' := tk) fun _ _ z => z, rfl, q⟩
theorem cIsH {X : Cx} (K : PySem.W.Frag) (h : X.K = K := by rfl) : CallR X (.builtin "isinstance") (rIsH K) := h ▸ call_isH
/-- a comprehension with a test over a list of pairs (tuples that stand), its element f i -/
theorem lc_pairs {K : PySem.W.Frag} {a : Addr} {ts : List Addr} {ps : Nat → V × V} {tt : TT} {te : TE} {c1 c2 : Nat} {σ : L2.St} {H1 : Hp} {D : Addr} {Qd : Hp → Prop} (f : Nat → V) (b : Nat → Bool) (hne : c1 ≠ c2) (hL : SqL K H1 a (ts.map V.ref)) (hT : ∀ i, i < ts.length → SqT K H1 (ts.getD i 0) [(ps i).1, (ps i).2])
    (hD : H1 D = none) (hn : ts.length ≤ sizeLine)
    (ht : ∀ (i : Nat) (H : Hp) (Q : Bool → Hp → Prop), i < ts.length → Same H1 H → (∀ H', Same H H' → Q (b i) H') → tt ((((σ.set c2 none).set c1 none).set c1 (some (ps i).1)).set c2 (some (ps i).2)) H Q)
    (he : ∀ i H Q, i < ts.length → Same H1 H → b i = true → Tell H (f i) Q → te ((((σ.set c2 none).set c1 none).set c1 (some (ps i).1)).set c2 (some (ps i).2)) H Q)
    (hd : ∀ H, Same H1 H → H D = some (.lst (((List.range ts.length).filter b).map f)) → Qd H) :
    ∃ W : Nat → Nat → Hp → Prop, (∃ m, W 0 m (upd H1 D (.lst []))) ∧ ∀ i m H, W i m H →
      ((Itl K a).stop i H ∧ Qd H) ∨ ((Itl K a).go i H ∧ ∃ Nx : Hp → Prop, (∀ H', Nx H' → ∃ m', m' < m ∧ W (i + 1) m' H') ∧ ∀ x H', (Itl K a).yld i H x H' → gTup K 2 (gCons (gName c1) (gCons (gName c2) gNil)) x (wipe σ [c1, c2]) H' fun σ2 H2 => wipe σ2 [c1, c2] = wipe σ [c1, c2] ∧ tt σ2 H2 fun b H3 =>
        if b = true then te σ2 H3 fun y H4 => ∃ acc, H4 D = some (.lst acc) ∧ acc.length < sizeLine ∧ Nx (upd H4 D (.lst (acc ++ [y]))) else Nx H3) := by
  have hm : (ts.map V.ref).length = ts.length := List.length_map ..
  refine lc_it walk_list (fun i H => Same H1 H ∧ H D = some (.lst (((List.range i).filter b).map f))) ⟨same_upd hD, upd_same⟩ (fun i H _ h => h.1.seq hL) (fun i x H H' hi hP hy => ?_) (fun H h => hd H h.1 (by rw [← hm]; exact h.2))
  obtain ⟨sm, eD⟩ := hP
  obtain ⟨rfl, hx⟩ := hy
  rw [hm] at hi
  rw [List.getElem?_map, List.getElem?_eq_getElem hi] at hx
  obtain rfl := Option.some.inj hx
  have hTi := hT i hi
  rw [List.getD_eq_getElem?_getD, List.getElem?_eq_getElem hi] at hTi
  refine ⟨ts[i], _, rfl, seqT sm hTi, rfl, _, _, rfl, _, _, rfl, rfl, ?_, ?_⟩
  · show (((((σ.set c2 none).set c1 none).set c1 (some (ps i).1)).set c2 (some (ps i).2)).set c2 none).set c1 none = (σ.set c2 none).set c1 none
    rw [List.set_set, List.set_set, List.set_comm _ _ hne, List.set_set, List.set_comm _ _ hne.symm, List.set_comm _ _ hne, List.set_set]
  · refine ht i H' _ hi sm fun H2 s2 => ?_
    cases hb : b i with
    | true =>
      rw [if_pos rfl]
      refine he i H2 _ hi (sm.trans s2) hb fun H3 s3 => ⟨_, s3 _ _ (s2 _ _ eD), ?_, ?_, ?_⟩
      · rw [List.length_map]
        have := List.length_filter_le b (List.range i)
        rw [List.length_range] at this
        omega
      · intro b' o hb'
        rw [upd_ne (ne_of_none hb' hD)]
        exact s3 _ _ (s2 _ _ (sm _ _ hb'))
      · rw [upd_same, List.range_succ, List.filter_append, List.map_append]
        simp [hb]
    | false =>
      rw [if_neg Bool.false_ne_true]
      refine ⟨sm.trans s2, ?_⟩
      rw [s2 _ _ eD, List.range_succ, List.filter_append, List.map_append]
      simp [hb]
end LH
namespace LH
open PySem PySem.Spec PyProof.Rows L2
section
variable {P : Program} {w : World} {K : PySem.W.Frag} {mg : Str → Option Value} {base : Heap} {k : Nat} {f : Addr} {fd : FuncData} {ps : List Str} {sp sp' : Sp} {CX : CXT}
/-- what lets nothing out may stand where something may be let out -/
theorem fn_toX (F : FnOk P w K mg base CX0 k f fd ps sp) : FnOk P w K mg base CX k f fd ps sp :=
  ⟨F.len, fun A outer s H args us vs Q E hr he hb hv hs => codeAny_mono (F.run A outer s H args us vs Q E hr he hb hv hs) fun r s' h => by
    cases r with
    | ok r => cases r <;> exact h
    | error e => exact h.elim⟩
/-- two promises of one def -/
theorem fn_or (F : FnOk P w K mg base CX k f fd ps sp) (G : FnOk P w K mg base CX k f fd ps sp') : FnOk P w K mg base CX k f fd ps (fun vs H Q E => sp vs H Q E ∨ sp' vs H Q E) :=
  ⟨fun vs H Q E h => h.elim (F.len vs H Q E) (G.len vs H Q E), fun A outer s H args us vs Q E hr he hb hv hs => hs.elim (F.run A outer s H args us vs Q E hr he hb hv) (G.run A outer s H args us vs Q E hr he hb hv)⟩
end
end LH

namespace LH
open PySem PySem.Spec PyProof.Rows L2
/-! ### small letters of great ones -/
def lowC (c : Nat) : Nat := if 65 ≤ c ∧ c ≤ 90 then c + 32 else c
theorem lower_C {c : Nat} (h : c < 128) : Unicode.lowerOf c = [lowC c] := by
  have : ∀ d : Fin 128, Unicode.lowerOf d.val = [lowC d.val] := by decide +kernel
  exact this ⟨c, h⟩
theorem lower_eq (x : Str) (h : ∀ c ∈ TL.tl x, c < 128) : TL.tl (Txt.lower x) = (TL.tl x).map lowC := by
  unfold Txt.lower
  rw [tl_placed, mapIdx_same (g := fun _ c => [lowC c]) _ fun i c hc => ?_]
  · generalize TL.tl x = l
    have : (l.mapIdx fun _ c => [lowC c]) = (l.map lowC).mapIdx fun _ c => [c] := by
      apply List.ext_getElem?
      intro i
      rw [List.getElem?_mapIdx, List.getElem?_mapIdx, List.getElem?_map]
      cases l[i]? <;> rfl
    rw [this, flat_one]
  · have hm := h c (List.mem_of_getElem? hc)
    unfold Unicode.lowerAt
    have ec : x.cps[i]? = some c := by rw [← hc]; exact Array.getElem?_toList.symm
    rw [ec]
    show (if (c == 0x3A3 && Unicode.endsWord x.cps i) = true then [0x3C2] else Unicode.lowerOf c) = [lowC c]
    have hb2 : (c == 0x3A3) = false := by simp; omega
    rw [hb2, Bool.false_and, if_neg Bool.false_ne_true]
    exact lower_C hm
theorem low_small {c : Nat} (h : 97 ≤ c ∧ c ≤ 122) : lowC c = c := by
  unfold lowC
  rw [if_neg (by omega)]
theorem low_cap : ∀ l : List Nat, Sm l → (cap l).map lowC = l
  | [], _ => rfl
  | c :: r, h => by
    have hc := h c (by simp)
    show lowC (c - 32) :: r.map lowC = c :: r
    have e : lowC (c - 32) = c := by unfold lowC; rw [if_pos (by omega)]; omega
    have er : r.map lowC = r := by
      have : ∀ l : List Nat, Sm l → l.map lowC = l := by
        intro l
        induction l with
        | nil => intro _; rfl
        | cons d r ih => intro h; rw [List.map_cons, low_small (h d (by simp)), ih fun x hx => h x (by simp [hx])]
      exact this r fun x hx => h x (by simp [hx])
    rw [e, er]
theorem joinL_map (f : Nat → Nat) (S : List Nat) : ∀ ps : List (List Nat), (TL.joinL S ps).map f = TL.joinL (S.map f) (ps.map fun p => p.map f)
  | [] => rfl
  | [p] => rfl
  | p :: q :: r => by
    have ih := joinL_map f S (q :: r)
    rw [TL.joinL, List.map_append, List.map_append, ih]
    rfl
theorem joinL_split (s : Nat) : ∀ l : List Nat, TL.joinL [s] (splitL s l) = l
  | [] => rfl
  | c :: r => by
    have ih := joinL_split s r
    have e := splitL_eta s r
    unfold splitL
    by_cases h : c = s
    · rw [if_pos h]
      generalize splitL s r = w at *
      cases w with
      | nil => exact nomatch e
      | cons x t =>
        rw [TL.joinL, ih, h]
        rfl
    · rw [if_neg h]
      generalize splitL s r = w at *
      cases w with
      | nil => exact nomatch e
      | cons x t =>
        show TL.joinL [s] ((c :: x) :: t) = c :: r
        rw [← ih]
        cases t with
        | nil => rfl
        | cons y t => rw [TL.joinL, TL.joinL]; rfl
theorem low_great {l : List Nat} (h : ∀ x ∈ splitL 45 l, Sm x) : (great l).map lowC = l := by
  unfold great
  rw [joinL_map, List.map_map]
  have e : (splitL 45 l).map ((fun p => p.map lowC) ∘ cap) = splitL 45 l := by
    have : ∀ ws : List (List Nat), (∀ x ∈ ws, Sm x) → ws.map ((fun p => p.map lowC) ∘ cap) = ws := by
      intro ws
      induction ws with
      | nil => intro _; rfl
      | cons x r ih => intro h; rw [List.map_cons, ih fun y hy => h y (by simp [hy])]; exact congrArg (· :: r) (low_cap x (h x (by simp)))
    exact this _ h
  rw [e]
  exact joinL_split 45 l
theorem great_length {l : List Nat} (h : ∀ x ∈ splitL 45 l, Sm x) : (great l).length = l.length := by
  have := congrArg List.length (low_great h)
  rwa [List.length_map] at this
/-! ### the beginning of a row that may be a name -/
def isLet (c : Nat) : Bool := (decide (97 ≤ c) && decide (c ≤ 122)) || (decide (65 ≤ c) && decide (c ≤ 90))
def nsig : Nat → Nat → List Nat → Nat
  | _, _, [] => 0
  | w, k, c :: r => if c = 45 ∧ 0 < k ∧ w < 3 then 1 + nsig (w + 1) 0 r else if isLet c = true ∧ k < 8 then 1 + nsig w (k + 1) r else 0
theorem let_no_dash {c : Nat} (h : isLet c = true) : c ≠ 45 ∧ c ≠ 58 ∧ c < 128 := by
  unfold isLet at h
  simp only [Bool.or_eq_true, Bool.and_eq_true, decide_eq_true_eq] at h
  omega
theorem nsig_word : ∀ (p r : List Nat) (w k : Nat), (∀ c ∈ p, isLet c = true) → k + p.length ≤ 8 → nsig w k (p ++ r) = p.length + nsig w (k + p.length) r
  | [], r, w, k, _, _ => by simp
  | c :: p, r, w, k, h, hl => by
    have hc := h c (by simp)
    have hd := let_no_dash hc
    rw [List.length_cons] at hl
    rw [List.cons_append, nsig, if_neg (fun z => hd.1 z.1), if_pos ⟨hc, by omega⟩, nsig_word p r w (k + 1) (fun x hx => h x (by simp [hx])) (by omega), List.length_cons, show k + 1 + p.length = k + (p.length + 1) by omega]
    omega
theorem nsig_join (r : List Nat) : ∀ (ps : List (List Nat)) (w : Nat), ps ≠ [] → w + ps.length ≤ 4 → (∀ p ∈ ps, (∀ c ∈ p, isLet c = true) ∧ 1 ≤ p.length ∧ p.length ≤ 8) → nsig w 0 (TL.joinL [45] ps ++ 58 :: r) = (TL.joinL [45] ps).length
  | [], _, h, _, _ => absurd rfl h
  | [p], w, _, _, h => by
    have hp := h p (by simp)
    show nsig w 0 (p ++ 58 :: r) = p.length
    rw [nsig_word p _ w 0 hp.1 (by omega), nsig, if_neg (fun z => absurd z.1 (by decide)), if_neg (fun z => absurd z.1 (by decide))]
    rfl
  | p :: q :: t, w, _, hl, h => by
    have hp := h p (by simp)
    rw [List.length_cons, List.length_cons] at hl
    have ih := nsig_join r (q :: t) (w + 1) (by simp) (by rw [List.length_cons]; omega) fun x hx => h x (List.mem_cons_of_mem _ hx)
    rw [TL.joinL, List.append_assoc, nsig_word p _ w 0 hp.1 (by omega)]
    show p.length + nsig w (0 + p.length) (45 :: (TL.joinL [45] (q :: t) ++ 58 :: r)) = (p ++ 45 :: TL.joinL [45] (q :: t)).length
    rw [nsig, if_pos ⟨rfl, by omega, by omega⟩, ih, List.length_append, List.length_cons]
    omega
/-! ### words each behind a blank -/
def spw (us : List (List Nat)) : List Nat := (us.map fun u => 32 :: u).flatten
theorem spw_app (a b : List (List Nat)) : spw (a ++ b) = spw a ++ spw b := by unfold spw; rw [List.map_append, List.flatten_append]
theorem spw_join (u : List Nat) : ∀ us : List (List Nat), spw (u :: us) = 32 :: TL.joinL [32] (u :: us)
  | [] => by simp [spw, TL.joinL]
  | v :: us => by
    have ih := spw_join v us
    have e : spw (u :: v :: us) = (32 :: u) ++ spw (v :: us) := by unfold spw; rw [List.map_cons, List.flatten_cons]
    rw [e, ih, TL.joinL]
    rfl
theorem words_spw (x : Str) (us : List (List Nat)) (hx : TL.tl x = spw us) (h : ∀ u ∈ us, WordL u) : (Txt.words x).map TL.tl = us := by
  rw [TL.words_tl, hx]
  cases us with
  | nil => rfl
  | cons u us =>
    rw [spw_join, List.foldl_cons]
    have e : TL.wstep ([], []) 32 = ([], []) := by
      unfold TL.wstep
      rw [if_pos (by decide +kernel), if_pos rfl]
    rw [e, TL.wfold_join _ _ (by simp) fun p hp => ⟨(h p hp).1, fun c hc => space_no ⟨((h p hp).2 c hc).1, ((h p hp).2 c hc).2.1⟩⟩, List.nil_append]
/-! ### a header's rows by their words -/
/-- the rows of a header: its first words behind the name, then rows of at least one word -/
def rowsBy (l : List Nat) (us0 : List (List Nat)) (uss : List (List (List Nat))) : List (List Nat) := (great l ++ 58 :: spw us0) :: uss.map spw
theorem hrows_by (l : List Nat) : ∀ ws : List (List Nat), ∃ us0 uss, hrows l ws = rowsBy l us0 uss ∧ us0 ++ uss.flatten = ws ∧ ∀ us ∈ uss, us ≠ [] := by
  refine foldl_rev_ind (P := fun ws => ∃ us0 uss, hrows l ws = rowsBy l us0 uss ∧ us0 ++ uss.flatten = ws ∧ ∀ us ∈ uss, us ≠ []) ⟨[], [], rfl, rfl, fun _ h => by cases h⟩ ?_
  rintro ws w ⟨us0, uss, e, ew, hne⟩
  unfold hrows at e ⊢
  rw [hfold_snoc]
  generalize hfold l ws = st at *
  obtain ⟨d, c⟩ := st
  unfold hstep
  by_cases h : 60 < c.length + 1 + w.length
  · rw [if_pos h]
    refine ⟨us0, uss ++ [[w]], ?_, ?_, ?_⟩
    · show (d ++ [c]) ++ [32 :: w] = _
      have e' : d ++ [c] = rowsBy l us0 uss := e
      rw [e']
      unfold rowsBy
      rw [List.map_append]
      simp [spw]
    · rw [List.flatten_append, ← List.append_assoc, ew]; simp
    · intro us hus
      rcases List.mem_append.mp hus with h | h
      · exact hne us h
      · rw [List.mem_singleton.mp h]; simp
  · rw [if_neg h]
    have e' : d ++ [c] = rowsBy l us0 uss := e
    rcases List.eq_nil_or_concat uss with rfl | ⟨t, u, rfl⟩
    · refine ⟨us0 ++ [w], [], ?_, ?_, fun _ h => by cases h⟩
      · show d ++ [c ++ 32 :: w] = _
        unfold rowsBy at e' ⊢
        have hd : d = [] := by
          cases d with
          | nil => rfl
          | cons x r => have := congrArg List.length e'; simp at this
        subst hd
        have hc : c = great l ++ 58 :: spw us0 := by simpa using e'
        rw [hc, spw_app]
        simp [spw]
      · rw [← ew]; simp
    · refine ⟨us0, t ++ [u ++ [w]], ?_, ?_, ?_⟩
      · show d ++ [c ++ 32 :: w] = _
        unfold rowsBy at e' ⊢
        rw [List.concat_eq_append, List.map_append, List.map_singleton, ← List.cons_append] at e'
        have h1 := List.append_inj' e' rfl
        have hc : c = spw u := by simpa using h1.2
        rw [List.map_append, List.map_singleton, ← List.cons_append, ← h1.1, hc, spw_app]
        simp [spw]
      · rw [← ew]; simp
      · intro us hus
        rcases List.mem_append.mp hus with h | h
        · exact hne us (by simp [h])
        · rw [List.mem_singleton.mp h]; simp
/-! ### one sign at a text's head -/
theorem starts_one (x y : Str) (s : Nat) (hy : TL.tl y = [s]) : Txt.startswith x y = decide ((TL.tl x)[0]? = some s) := by
  unfold Txt.startswith
  have hyl : y.length = 1 := by rw [TL.len_tl, hy]; rfl
  rw [PySem.StrLaws.subAt_eq, hyl, Bool.eq_iff_iff, Bool.and_eq_true, decide_eq_true_eq, decide_eq_true_eq]
  rw [show x.cps.toList = TL.tl x from rfl, show y.cps.toList = TL.tl y from rfl, hy, List.drop_zero, TL.len_tl]
  cases TL.tl x with
  | nil => simp
  | cons c r => simp
end LH

namespace LH
open PySem PySem.Spec PyProof.Rows L2
/-! ### a text parted at a sign -/
theorem part_at (x y : Str) (c : Nat) (p r : List Nat) (hy : TL.tl y = [c]) (hx : TL.tl x = p ++ c :: r) (hp : c ∉ p) : TL.tl (Txt.partition x y).1 = p ∧ TL.tl (Txt.partition x y).2.2 = r := by
  obtain rfl : y = ⟨#[c]⟩ := TL.ext_tl hy
  have hm0 : x.cps.toList[p.length]? = some c := by
    show (TL.tl x)[p.length]? = some c
    rw [hx]; simp
  have hn0 : ∀ k, k < p.length → x.cps.toList[k]? ≠ some c := fun k hk e => by
    have e' : (TL.tl x)[k]? = some c := e
    rw [hx, List.getElem?_append_left hk] at e'
    exact hp (List.mem_of_getElem? e')
  have hlen : x.length = p.length + (r.length + 1) := by rw [TL.len_tl, hx, List.length_append, List.length_cons]
  unfold Txt.partition
  rcases StrLaws.occ_head x ⟨#[c]⟩ 1 (Nat.le_refl 1) with ⟨h0, hn⟩ | ⟨i, q, h0, hi, hn⟩
  · exact absurd ((StrLaws.subAt_one x c p.length).mpr hm0) (hn _)
  · rw [h0]
    have hm := (StrLaws.subAt_one x c i).mp hi
    have e : i = p.length := by
      rcases Nat.lt_trichotomy i p.length with h | h | h
      · exact absurd hm (hn0 i h)
      · exact h
      · exact absurd ((StrLaws.subAt_one x c p.length).mpr hm0) (hn _ h)
    subst e
    constructor
    · show (Builtin.Str.strSub x 0 p.length).cps.toList = p
      rw [StrLaws.strSub_toList]
      show ((TL.tl x).drop 0).take (p.length - 0) = p
      rw [hx]; simp
    · show (Builtin.Str.strSub x (p.length + 1) x.length).cps.toList = r
      rw [StrLaws.strSub_toList]
      show ((TL.tl x).drop (p.length + 1)).take (x.length - (p.length + 1)) = r
      rw [hx, hlen, show p.length + 1 = p.length + 1 from rfl, List.drop_append, List.drop_of_length_le (by omega)]
      simp
      rw [List.take_of_length_le (by omega)]
theorem part_lens (x y : Str) : (Txt.partition x y).1.length ≤ x.length ∧ (Txt.partition x y).2.2.length ≤ x.length := ⟨(fact_partition x y).1, (fact_partition x y).2.2⟩
/-- str.join inside a comprehension's block -/
theorem pe_joinK {X : Cx} {o e : Expr} {to te : TE} (K : PySem.W.Frag) {apos pos : Pos} (ho : PE X o to) (he : PE X e te) (h : X.K = K := by rfl) (hs : starEach [e] X.env = [(false, eval e X.env)] := by rfl) (hbase : attributeBase o "join" X.env (eval o X.env) = eval o X.env := by rfl) (hline : (apos.endLine == pos.line) = true := by rfl) :
    PE X (.Call (.Attribute o "join" apos) [e] [] pos) (tM1 (fun x xs H Q => ∃ a p, ∃ ys : List Str, x = .str a ∧ xs = [.ref p] ∧ (SqL K H p (ys.map V.str) ∨ SqT K H p (ys.map V.str)) ∧
      (ys.map (·.length)).sum + ys.length * a.length ≤ 16777216 ∧ Q (.str (Txt.join a ys)) H) to te) := by
  subst h
  exact pe_join ho he hs hbase hline
/-! ### a comprehension over a list of pairs that tells a new tuple of each -/
theorem lc_tups {K : PySem.W.Frag} {a : Addr} {ts : List Addr} {ps : Nat → V × V} {te : TE} {c1 c2 : Nat} {σ : L2.St} {H1 : Hp} {D : Addr} {Qd : Hp → Prop} (g : Nat → List V) (hne : c1 ≠ c2) (hL : SqL K H1 a (ts.map V.ref)) (hT : ∀ i, i < ts.length → SqT K H1 (ts.getD i 0) [(ps i).1, (ps i).2])
    (hD : H1 D = none) (hn : ts.length ≤ sizeLine)
    (he : ∀ i H Q, i < ts.length → Same H1 H → (∀ p H', Same H H' → H p = none → H' p = some (.tup (g i)) → Q (.ref p) H') → te ((((σ.set c2 none).set c1 none).set c1 (some (ps i).1)).set c2 (some (ps i).2)) H Q)
    (hd : ∀ H (us : List Addr), Same H1 H → us.length = ts.length → (∀ i, i < ts.length → H (us.getD i 0) = some (.tup (g i))) → H D = some (.lst (us.map V.ref)) → Qd H) :
    ∃ W : Nat → Nat → Hp → Prop, (∃ m, W 0 m (upd H1 D (.lst []))) ∧ ∀ i m H, W i m H →
      ((Itl K a).stop i H ∧ Qd H) ∨ ((Itl K a).go i H ∧ ∃ Nx : Hp → Prop, (∀ H', Nx H' → ∃ m', m' < m ∧ W (i + 1) m' H') ∧ ∀ x H', (Itl K a).yld i H x H' → gTup K 2 (gCons (gName c1) (gCons (gName c2) gNil)) x (wipe σ [c1, c2]) H' fun σ2 H2 => wipe σ2 [c1, c2] = wipe σ [c1, c2] ∧ tYes σ2 H2 fun b H3 =>
        if b = true then te σ2 H3 fun y H4 => ∃ acc, H4 D = some (.lst acc) ∧ acc.length < sizeLine ∧ Nx (upd H4 D (.lst (acc ++ [y]))) else Nx H3) := by
  have hm : (ts.map V.ref).length = ts.length := List.length_map ..
  refine lc_it walk_list (fun i H => Same H1 H ∧ ∃ us : List Addr, us.length = i ∧ (∀ j, j < i → H (us.getD j 0) = some (.tup (g j))) ∧ H D = some (.lst (us.map V.ref))) ⟨same_upd hD, [], rfl, fun j hj => absurd hj (Nat.not_lt_zero j), upd_same⟩ (fun i H _ h => h.1.seq hL) (fun i x H H' hi hP hy => ?_) (fun H h => by
    obtain ⟨sm, us, hl, hu, e⟩ := h
    rw [hm] at hl hu
    exact hd H us sm hl hu e)
  obtain ⟨sm, us, hl, hu, eD⟩ := hP
  obtain ⟨rfl, hx⟩ := hy
  rw [hm] at hi
  rw [List.getElem?_map, List.getElem?_eq_getElem hi] at hx
  obtain rfl := Option.some.inj hx
  have hTi := hT i hi
  rw [List.getD_eq_getElem?_getD, List.getElem?_eq_getElem hi] at hTi
  refine ⟨ts[i], _, rfl, seqT sm hTi, rfl, _, _, rfl, _, _, rfl, rfl, ?_, ?_⟩
  · show (((((σ.set c2 none).set c1 none).set c1 (some (ps i).1)).set c2 (some (ps i).2)).set c2 none).set c1 none = (σ.set c2 none).set c1 none
    rw [List.set_set, List.set_set, List.set_comm _ _ hne, List.set_set, List.set_comm _ _ hne.symm, List.set_comm _ _ hne, List.set_set]
  · refine he i H' _ hi sm fun p H3 s3 np e3 => ⟨_, s3 _ _ eD, ?_, ?_, us ++ [p], ?_, ?_, ?_⟩
    · rw [List.length_map]; omega
    · intro b' o hb'
      rw [upd_ne (ne_of_none hb' hD)]
      exact s3 _ _ (sm _ _ hb')
    · rw [List.length_append, hl]; rfl
    · intro j hj
      have hDt : ∀ q xs, H3 q = some (.tup xs) → q ≠ D := fun q xs e z => by
        rw [z, s3 _ _ eD] at e
        exact nomatch e
      by_cases hj2 : j < i
      · rw [getD_app_l _ _ _ (by omega)]
        have e4 := s3 _ _ (hu j hj2)
        rw [upd_ne (hDt _ _ e4)]
        exact e4
      · have : j = i := by omega
        subst this
        rw [getD_app_r _ _ _ (by omega), hl, Nat.sub_self]
        show upd H3 D _ p = _
        rw [upd_ne (hDt _ _ e3)]
        exact e3
    · rw [upd_same, List.map_append]
      rfl
end LH

namespace LH
open PySem PySem.Spec PyProof.Rows L2
/-! ### what isinstance and except say of the program's own classes -/
section
variable {K : PySem.W.Frag} {C D : Addr} {b : Bool}
theorem kit_cls' (ic : PySem.W.isClsIn K D = true) (tp : PySem.W.typeIn K (.ref D) = some (.type "type")) (sub : PySem.W.subIn K (.ref C) (.ref D) = some b) : PySem.W.kitCls K (.ref C) (.ref D) = some b := by
  have h : ((PySem.W.clsIn K D).isSome && PySem.W.typeIn K (.ref D) == some (.type "type")) = true := by
    rw [tp]
    exact Bool.and_eq_true_iff.mpr ⟨ic, beq_iff_eq.mpr rfl⟩
  show (if ((PySem.W.clsIn K D).isSome && PySem.W.typeIn K (.ref D) == some (.type "type")) = true then PySem.W.subIn K (.ref C) (.ref D) else none) = some b
  rw [if_pos h]
  exact sub
theorem exm_ref (hb : PySem.W.subIn K (.ref D) (.type "BaseException") = some true) (ic : PySem.W.isClsIn K D = true) (tp : PySem.W.typeIn K (.ref D) = some (.type "type")) (sub : PySem.W.subIn K (.ref C) (.ref D) = some b) : PySem.W.exmOne K (.ref C) (.ref D) = some b := by
  unfold PySem.W.exmOne
  rw [hb, if_pos (beq_iff_eq.mpr rfl)]
  exact kit_cls' ic tp sub
theorem kit_ref (ic : PySem.W.isClsIn K D = true) (tp : PySem.W.typeIn K (.ref D) = some (.type "type")) (sub : PySem.W.subIn K (.ref C) (.ref D) = some b) (h : (C == D) = b ∨ b = true) : PySem.W.kitOne K (.ref C) (.ref D) = some b := by
  unfold PySem.W.kitOne
  by_cases e : (Value.ref C == Value.ref D) = true
  · rw [if_pos e]
    have e' : C = D := Value.ref.inj (beq_iff_eq.mp e)
    rcases h with h | h
    · rw [e', beq_self_eq_true] at h
      rw [← h]
    · rw [h]
  · rw [if_neg e]
    exact kit_cls' ic tp sub
theorem kit_base (sub : PySem.W.subIn K (.ref C) (.type "ValueError") = some true) : PySem.W.kitOne K (.ref C) (.type "ValueError") = some true := by
  unfold PySem.W.kitOne
  by_cases e : (Value.ref C == Value.type "ValueError") = true
  · rw [if_pos e]
  · rw [if_neg e]
    show (if PySem.W.kitMeta "ValueError" = true then PySem.W.subIn K (.ref C) (.type "ValueError") else none) = some true
    rw [if_pos (by decide +kernel)]
    exact sub
end
end LH

set_option maxHeartbeats 2000000
namespace LH
open PySem PySem.Spec PySem.Calls PyProof.Rows L2
open PySem.Builtin PySem.Builtin.ObjectAttr PySem.Builtin.Getset_descriptor
open PySem.W (Frag clsIn findIn subIn typeIn nsIn keepIn codeIn hasDictIn mroIn ksFn ksEnv ks_superIn excInitIn excOver takerIn ks_superObj kxs_mw excObj excTup InstAt dictOf findCls readsIn findObj looks_findIn looks_find looks_typeIn looks_subIn)
abbrev bmV : List Value := [.type "ValueError", .type "Exception", .type "BaseException", .type "object"]
/-! ### an own exception whose base's __init__ is super().__init__(why), self.kind = self.__class__.__name__.lower() -/
section
variable {prog : Program} {w : World} {A : Around} {E : Value → Shared → Prop} {R : Result → Shared → Prop} {K : Frag} {s : Shared} {C x : Addr} {ox : Obj} {odx : Option Obj}
/-- x.__class__ of an error -/
theorem err_class {expr : Bool} {Q : Value → Shared → Prop} (X : K.In s.heap) (I : InstAt s.heap x ox C odx) (T : ExcC K C) (hcl : (clsIn K C).isSome = true) (h : Q (.ref C) { s with toks := s.toks + 1 }) :
    wpAny (model prog w) A (getAttr (.ref x) "__class__" expr) Q E s := by
  obtain ⟨h0, gs, dr, n, o⟩ := s
  let M := model prog w
  have bga : (Value.builtin "BaseException.__getattribute__" == Value.builtin "object.__getattribute__") = false := by decide +kernel
  have hop : (expr && onTheHeap (Value.builtin "BaseException.__getattribute__")) = false := Bool.and_false _
  have ofC : PySem.W.Looks M h0 (typeOf (.ref x)) (.ref C) := I.type
  have isE : PySem.W.Looks M h0 (isInstance (.ref x) (.type "BaseException")) true := ofC.andThen (looks_subIn X T.hs)
  have slot := looks_find (M := M) X I (PySem.W.findObj_dataE (od := odx) hcl T.ha T.hn T.ht)
  -- what BaseException.__getattribute__ comes to at x
  have inner : ∀ (B : Around) (P G : Value → Shared → Prop), P (.ref C) ⟨h0, gs, dr, n + 1, o⟩ → wpAny M B (call (.builtin "BaseException.__getattribute__") [.ref x, .str "__class__" n]) P G ⟨h0, gs, dr, n + 1, o⟩ := fun B P G hP => by
    refine wpAny_call (codeAny_call_builtin PySem.F.excAttr_ValueError.ga.plain PySem.F.entry_bexc_ga (@PySem.W.check_slot M _ _ ⟨h0, gs, dr, n + 1, o⟩ "BaseException.__getattribute__" "BaseException" "__getattribute__" (.ref x) [.str "__class__" n] [] _ (by decide +kernel) (by decide +kernel) isE (PySem.F.args_bexc_ga _ _) ?_))
    show wpAny _ _ (Builtin.«object.__getattribute__» _) _ _ _
    unfold Builtin.«object.__getattribute__»
    refine wpAny_bind (wpAny_of_eq (a := ((Value.ref x : Value), [Value.str "__class__" n])) rfl (wpAny_bind (wpAny_pure (wpAny_bind (ofC.at (wpAny_bind (slot.at ?_)))))))
    exact wpAny_bind (wpAny_holding (wpAny_call (PySem.W.class_get (s := ⟨h0, gs, dr, n + 1, o⟩) (ox := ox) (od := odx) X I T.hm (wpAny_pure hP))))
  unfold getAttr getAttrBy
  refine wpAny_bind (wpAny_mkText (wpAny_holding (wpAny_bind (ofC.at (wpAny_bind ((looks_findIn (M := M) X T.hg).at ?_))))))
  dsimp only
  rw [if_neg (show ¬ (onTheHeap (Value.ref C) && Value.builtin "BaseException.__getattribute__" == Value.builtin "object.__getattribute__") = true from by rw [bga, Bool.and_false]; exact Bool.false_ne_true)]
  unfold getAttrByItsOwn hookBefore callGetattribute boundAndCalled
  rw [if_pos (show onTheHeap (Value.ref C) = true from rfl), hop, PySem.F.excAttr_ValueError.ga.bind (.ref x)]
  refine wpAny_bind ((looks_findIn (M := M) X T.hk).at (wpAny_bind (wpAny_attempt (wpAny_holding ?_))))
  rw [if_neg Bool.false_ne_true]
  refine wpAny_bind (wpAny_pure (inner _ _ _ ?_))
  show wpAny _ _ (handedOut (.ref C)) _ _ _
  rw [PySem.W.handedOut_of (show PySem.W.handedIn (.ref C) = true from rfl)]
  exact wpAny_pure h
theorem dga_ref (d tp : Value) (C : Addr) : descrGetArgs ⟨[d, .ref C, tp], []⟩ = pure (d, some (.ref C), (if tp == .none then none else some tp)) := by kernel_rfl
theorem name_get {tp : Value} {od : Option Addr} {cd : ClassData} {sl : Array (Option Value)} {nm : Str} {tk : Tok} (X : K.In s.heap) (hc : K.lookup C = some ⟨.type "type", od, .cls cd, sl⟩) (hs : sl[2]? = some (some (.str nm tk))) (h : R (.ok (.ret (.str nm tk))) s) :
    codeAny (model prog w) A (.call (.builtin "getset_descriptor.__get__") ⟨[.builtin "type.__name__", .ref C, tp], []⟩) R s := by
  have ho := X _ _ hc
  obtain ⟨hh, g, dr, t, os⟩ := s
  have L0 : PySem.W.Looks (model prog w) hh (typeOf (.ref C)) (.type "type") := looks_typeIn X (by show Option.map (fun x => x.cls) (List.lookup C K) = _; rw [hc]; rfl)
  have L1 : PySem.W.Looks (model prog w) hh (isSubtype (.type "type") (.type "type")) true := PySem.W.Looks.of_pure (by rw [isSubtype_type]; kernel_rfl)
  refine codeAny_call_builtin PySem.W.KF.slot_gs.plain PySem.W.KF.entry_gs (PySem.W.KF.slot_gs.check _ _ _ _ _ _ _ _ PySem.W.ktyn_type (PySem.W.KF.args_gs _ _ _) ?_)
  unfold Builtin.«getset_descriptor.__get__» descrGet
  rw [dga_ref]
  refine wpAny_bind (wpAny_pure ?_)
  unfold descrGetter descrCheckInstance descrNameAndClass isInstance
  simp only [PySem.W.ktyn_owner]
  repeat lk
  refine ⟨Code.quiet_builtin _ (by decide +kernel), codeAny_builtin PySem.W.ktyn_entry ?_⟩
  unfold Builtin.«type.__name__»
  dsimp only
  unfold keptObject slotAt
  dsimp only
  refine wpAny_bind (wpAny_bind (wpAny_loadPart_at ho (wpAny_pure ?_)))
  dsimp only
  rw [hs]
  dsimp only [Option.join, Option.bind, _root_.id]
  first | exact wpAny_bind (wpAny_pure h) | exact wpAny_pure h | (repeat lk; exact h)
theorem cls_name {expr : Bool} {Q : Value → Shared → Prop} {od : Option Addr} {cd : ClassData} {sl : Array (Option Value)} {nm : Str} {tk : Tok} (X : K.In s.heap) (hr : readsIn K C (.type "type") = true)
    (e : findCls K (.ref C) (.type "type") "__name__" = some (.get (.builtin "getset_descriptor.__get__") (.builtin "type.__name__") (.ref C) (.type "type"))) (hc : K.lookup C = some ⟨.type "type", od, .cls cd, sl⟩) (hs : sl[2]? = some (some (.str nm tk)))
    (h : Q (.str nm tk) { s with toks := s.toks + 1 }) : wpAny (model prog w) A (getAttr (.ref C) "__name__" expr) Q E s := by
  refine PySem.W.cls_bind X hr e (wpAny_call (name_get (s := { s with toks := s.toks + 1 }) X hc hs ?_))
  exact PySem.W.handed_on rfl h
end
structure HePos where
  (a1 a2 a3 s0 s1 s2 s3 s4 n0 l0 l1 l2 l3 l4 l5 l6 l7 : Pos)
  (u0 : Nat)
def hA (P : HePos) : Arguments := { posonlyargs := [], args := [{ arg := "self", annotation := none, pos := P.a1 }, { arg := "why", annotation := none, pos := P.a2 }], vararg := none, kwonlyargs := [], kw_defaults := [], kwarg := none, defaults := [.Constant (.str "") P.u0 P.a3] }
def hB (P : HePos) : List Stmt :=
  [.Expr (.Call (.Attribute (.Call (.Name "super" P.s0) [] [] P.s1) "__init__" P.s2) [.Name "why" P.n0] [] P.s3) P.s4,
   .Assign [.Attribute (.Name "self" P.l0) "kind" P.l1] (.Call (.Attribute (.Attribute (.Attribute (.Name "self" P.l2) "__class__" P.l3) "__name__" P.l4) "lower" P.l5) [] [] P.l6) P.l7]
def hS : Scope := { kind := .function, names := [("self", .local), ("why", .local), ("__class__", .free), ("super", .globalImplicit)], isGenerator := false, isCoroutine := false, more := [] }
/-- what the written part says of the class at C, whose base at D is made by the __init__ at fH; kd: the text of its kind -/
structure HeTxt (prog : Program) (K : Frag) (C D fH cc cda : Addr) (kd : Str) : Prop where
  exi : excInitIn K C bmV "ValueError.__new__" = true
  exo : excOver K C bmV = true
  sa : findIn K (.ref C) "__setattr__" = some (some (.builtin "object.__setattr__"))
  tkk : takerIn K C "kind" = some none
  hdC : hasDictIn K C = true
  tyf : typeIn K (.ref fH) = some (.type "function")
  fn : ∃ (oc : Value) (od : Option Addr) (kV doc pm : Value) (an : Option Addr) (ct : Value) (osl : Array (Option Value)) (P : HePos) (T : Addr) (o : Obj) (dv : Value) (m : Nat),
    K.lookup fH = some ⟨oc, od, .func (ksFn "__init__" "HouseError.__init__" (hA P) (hB P) hS (.ref T) kV doc pm an (.ref cda) ct cc), osl⟩ ∧ codeIn K (.ref cda) "HouseError.__init__" = true ∧ (P.s2.endLine == P.s3.line) = true ∧ (P.l5.endLine == P.l6.line) = true ∧
    K.lookup T = some o ∧ o.data = .seq #[dv] m
  code : ∃ (ccl : Value) (cdd : Option Addr) (vs : Array Value) (ccs : Array (Option Value)) (file : Str) (tf : Tok), K.lookup cda = some ⟨ccl, cdd, .fields vs, ccs⟩ ∧ vs[2]? = some (.str file tf) ∧ ((prog.main.file : Str) == file) = true
  cell : ∃ (cl : Value) (cld : Option Addr) (csl : Array (Option Value)), K.lookup cc = some ⟨cl, cld, .cell (some (.ref D)), csl⟩
  icD : PySem.W.isClsIn K D = true
  sub : mroIn K C (.ref D) = some true
  sup : nsIn K mainGlobals "super" = some none
  top : (prog.main.scope.names.lookup ("super" : Str)).isSome = false
  thp : nsIn K cStatics "thirdparty.any" = some none
  supI : ks_superIn K C D "__init__" = some (some (.builtin "ValueError.__init__"))
  subV : subIn K (.ref C) (.type "ValueError") = some true
  ec : ExcC K C
  icC : PySem.W.isClsIn K C = true
  rd : readsIn K C (.type "type") = true
  fnm : findCls K (.ref C) (.type "type") "__name__" = some (.get (.builtin "getset_descriptor.__get__") (.builtin "type.__name__") (.ref C) (.type "type"))
  nam : ∃ (od : Option Addr) (cd : ClassData) (sl : Array (Option Value)) (nm : Str) (tk : Tok), K.lookup C = some ⟨.type "type", od, .cls cd, sl⟩ ∧ sl[2]? = some (some (.str nm tk)) ∧ nm.length ≤ 5592405 ∧ Txt.lower nm = kd
section
variable {prog : Program} {w : World} {A : Around} {E : Value → Shared → Prop} {R : Result → Shared → Prop} {K : Frag} {mg : Str → Option Value} {C D fH cc cda x : Addr} {kd : Str} {hp : Heap}
theorem one_le (v : Value) : [v].length ≤ sizeLine := by rw [sizeLine_eq]; show 1 ≤ 16777216; decide
/-- super(), in the __init__ of such a class -/
theorem he_super (T : HeTxt prog K C D fH cc cda kd) (M : Mod K mg hp) {s : Shared} {L : Addr} {m : Str → Option Value} {news : List (Addr × Obj)} (F : Fr hp L s.heap m) (N : News hp L s.heap news) {ox : Obj} {odx : Option Obj} (I : InstAt s.heap x ox C odx) (hv : m "self" = some (.ref x))
    {P : HePos} {p0 p1 : Pos} {whole : Sem Value} {Q : Value → Shared → Prop}
    (h : ∀ so h', Fr hp L h' m → News hp L h' ((so, ks_superObj D x C) :: news) → (∀ p ∈ news, p.1 < so) → Q (.ref so) { s with heap := h' }) :
    PySem.wpAt (model prog w) A (.func (hB P) (ksEnv "HouseError.__init__" hS L fH (.ref cda) cc)) (attributeBase (.Call (.Name "super" p0) [] [] p1) "__init__" (ksEnv "HouseError.__init__" hS L fH (.ref cda) cc) whole) Q E s := by
  have X : K.In s.heap := M.kin.keeps F.keep
  obtain ⟨oc, od, kV, doc, pm, an, ct, osl, P', T', o', its, mm, hf, hcd, _⟩ := T.fn
  obtain ⟨ccl, cdd, vs, ccs, file, tf, hcode, hvs, hfile⟩ := T.code
  obtain ⟨cl, cld, csl, hcell⟩ := T.cell
  obtain ⟨mb, hb, hbb⟩ := M.blt
  obtain ⟨cdD, hD⟩ : ∃ cdD, clsIn K D = some cdD := Option.isSome_iff_exists.mp T.icD
  obtain ⟨hh, g, d, t, os⟩ := s
  have ⟨oD, hD1, hD2⟩ : ∃ o : Obj, hh.get? D = some o ∧ o.data = .cls cdD := by
    unfold PySem.W.clsIn at hD
    split at hD
    · rename_i ho; cases hD; exact ⟨_, X _ _ ho, rfl⟩
    · cases hD
  have noc : ∀ c, ox.data ≠ .cls c := fun c e => by
    have q := I.no
    unfold PySem.W.notCls at q
    rw [e] at q
    exact Bool.noConfusion q
  have last : wpAny (model prog w) A (call (.type "super") [.ref D, .ref x]) Q E ⟨hh, g, d, t, os⟩ := PySem.ks_wpAny_call_super hD1 hD2 I.at_ I.cls noc (PySem.W.looks_mroIn X T.sub) fun h' e k => by
    obtain ⟨F', N', l'⟩ := PySem.W.ks_newsPush (s := ⟨hh, g, d, t, os⟩) F N rfl e k
    exact h _ _ F' N' l'
  have self' : wpAny (model prog w) A (loadName (ksEnv "HouseError.__init__" hS L fH (.ref cda) cc) "self") (fun self s₃ => wpAny (model prog w) A (isType (.ref D)) (fun b s₄ => b = true ∧ wpAny (model prog w) A (call (.type "super") [.ref D, self]) Q E s₄) E s₃) E ⟨hh, g, d, t, os⟩ :=
    wpAny_loadName_local rfl rfl F.ns hv (PySem.ks_wpAny_isType_cls hD1 hD2 ⟨rfl, last⟩)
  refine PySem.ks_wpAt_super_base (env := ksEnv "HouseError.__init__" hS L fH (.ref cda) cc) rfl rfl (by decide) rfl (X _ _ hf) rfl rfl rfl (X _ _ hcode) rfl hvs hfile T.top ?_
  refine PySem.W.ks_loadName_global rfl rfl (loadGlobal_builtin (env := ksEnv "HouseError.__init__" hS L fH (.ref cda) cc) (M.glob.keeps F.keep) (PySem.W.mg_none_of M.kin M.glob T.sup) (hb.keeps F.keep) ((hbb _ (by decide +kernel)).trans (by decide +kernel)) ⟨rfl, ?_⟩)
  exact wpAny_loadName_free rfl rfl rfl ⟨_, X _ _ hcell, rfl⟩ self'
/-- HouseError.__init__ at a fresh exception x of the class at C -/
theorem he_init (T : HeTxt prog K C D fH cc cda kd) (M : Mod K mg hp) {s : Shared} (hk : ∀ b o, hp.get? b = some o → s.heap.get? b = some o) (hsz : hp.objs.size ≤ s.heap.objs.size) {t0 : Addr} (hx : s.heap.get? x = some (excObj C t0 none .none)) (hx0 : hp.get? x = none)
    {a : Value} (hroom : A.depth < recursionLimit)
    (hq : ∀ h' tk t1 dx q1 tk1, (∀ b o, hp.get? b = some o → h'.get? b = some o) → h'.get? x = some (excObj C t1 (some dx) .none) → x < dx → hp.get? dx = none →
      h'.get? dx = some (dictOf [⟨PyData.keyHash w.params "kind", .str "kind" q1, .str kd tk1⟩] 1) → R (.ok (.ret .none)) { s with heap := h', toks := tk }) :
    codeAny (model prog w) A (.call (.ref fH) ⟨[.ref x, a], []⟩) R s := by
  obtain ⟨oc, od, kV, doc, pm, an, ct, osl, P, T0, o0, its, mm, ho, hcd, hs, hs2, hT0, hT1⟩ := T.fn
  obtain ⟨odn, cdn, sln, nm, tkn, hcn, hsn, hln, hkd⟩ := T.nam
  have X := M.kin.keeps hk
  refine PySem.ks_codeAny_call_defAt (fd := ksFn "__init__" "HouseError.__init__" (hA P) (hB P) hS (.ref T0) kV doc pm an (.ref cda) ct cc) (body := hB P) (binds := [("self", .ref x), ("why", a)]) hroom (X _ _ ho) rfl (M.nolimit.keeps hk) (PySem.W.codeRec_of X hcd) rfl (BindsTo.of_defaults (fd := ksFn "__init__" "HouseError.__init__" (hA P) (hB P) hS (.ref T0) kV doc pm an (.ref cda) ct cc) rfl (X _ _ hT0) hT1 rfl rfl) (show ∀ y ∈ hS.names, y.2 ≠ .cell by decide) (fun y hy => by simp only [List.mem_cons, List.mem_nil_iff, or_false] at hy; rcases hy with rfl | rfl <;> rfl) (fun h₁ hn k₁ => ?_) rfl rfl rfl
  have F : Fr hp s.heap.objs.size h₁ (fun y => ([("self", Value.ref x), ("why", a)] : List (Str × Value)).reverse.lookup y) := ⟨hn, fun b o e => k₁ b o (hk b o e), hsz⟩
  have N : News hp s.heap.objs.size h₁ [(x, excObj C t0 none .none)] := fun p hp' => by
    obtain rfl := List.mem_singleton.mp hp'
    exact ⟨k₁ _ _ hx, Nat.ne_of_lt (Heap.lt_size hx), hx0⟩
  show PySem.wpAt (model prog w) (A.deeper (ksEnv "HouseError.__init__" hS s.heap.objs.size fH (.ref cda) cc)) (.func (hB P) (ksEnv "HouseError.__init__" hS s.heap.objs.size fH (.ref cda) cc)) (execs (hB P) (ksEnv "HouseError.__init__" hS s.heap.objs.size fH (.ref cda) cc)) _ _ _
  have m1 : (x, excObj C t0 none .none) ∈ [(x, excObj C t0 none .none)] := List.mem_singleton.mpr rfl
  refine PySem.ks_wpAt_execs_cons (PySem.ks_wpAt_Expr_any (PySem.ks_wpAt_MethodCall (pl := do return (← importBound (.Call (.Name "super" P.s0) [] [] P.s1) (ksEnv "HouseError.__init__" hS s.heap.objs.size fH (.ref cda) cc)).getD true) (he_super T M F N (PySem.W.InstAt.of_exc0 N m1) rfl fun so h2 F2 N2 l2 => ?_) ?_))
  rotate_left
  · rw [arm_eval_Call]
    unfold methodCall methodCallPos
    simp only [hs, Bool.or_true, if_true, pure_bind]
    rfl
  have m2 : (x, excObj C t0 none .none) ∈ [(so, ks_superObj D x C), (x, excObj C t0 none .none)] := by simp
  refine PySem.W.kxs_method PySem.W.kxs_ValueError F2 M.kin N2 (List.mem_cons_self ..) (PySem.W.InstAt.of_exc0 N2 m2) T.thp T.supI T.subV (by decide) fun q h3 F3 N3 l3 => ?_
  refine PySem.W.kxs_callWith1 N3 (List.mem_cons_self ..) ?_
  refine spliced_more (wpAny_Name (wpAny_loadName_local rfl rfl F3.ns rfl (spliced_none ⟨PySem.W.kxs_at N3 (List.mem_cons_self ..), ?_⟩)) (by decide))
  have nq : q ≠ x := fun e => Nat.lt_irrefl _ (by have := l3 _ m2; rw [e] at this; exact this)
  have ns : so ≠ x := fun e => Nat.lt_irrefl _ (by have := l2 _ m1; rw [e] at this; exact this)
  refine PySem.W.kxs_call F3 M.kin N3 PySem.F.excBase_ValueError T.exi (List.mem_cons_self ..) (.tail nq (.tail ns (.head (fun _ h => nomatch h)))) (LH.one_le _) fun t1 h4 F4 N4 l4 => ?_
  have N5 : News hp s.heap.objs.size h4 [(x, excObj C t1 none .none)] := fun p hp2 => N4 p (by rw [List.mem_singleton.mp hp2]; simp)
  have mx : (x, excObj C t1 none .none) ∈ [(x, excObj C t1 none .none)] := List.mem_singleton.mpr rfl
  refine wpAt_of_wpAny (wpAny_execs_cons (plainObj_wpAny_Assign_Attribute ?_))
  refine J1.ev_lower rfl hs2 ?_
  refine attr_of rfl (attr_of rfl (wpAny_Name (wpAny_loadName_local rfl rfl F4.ns rfl ?_) (by decide)))
  refine err_class (M.kin.keeps F4.keep) (PySem.W.InstAt.of_exc0 N5 mx) T.ec T.icC ?_
  refine cls_name (M.kin.keeps F4.keep) T.rd T.fnm hcn hsn ⟨nm, tkn, rfl, hln, fun tk1 tk2 => ?_⟩
  rw [hkd]
  refine wpAny_Name (wpAny_loadName_local rfl rfl F4.ns rfl ?_) (by decide)
  refine PySem.W.set_exc0 (es' := [⟨PyData.keyHash w.params "kind", .str "kind" _, .str kd tk1⟩]) (n' := 1) PySem.F.store_ValueError F4 M.kin N5 mx T.sa T.exo T.tkk T.hdC rfl (.head (fun _ h => nomatch h)) (show 1 ≤ 1000 by decide) fun dx h6 F6 N6 l6 => ?_
  have xdx : x < dx := l6 _ (List.mem_singleton.mpr rfl)
  refine wpAny_execs_nil ?_
  have q1 := N6 _ (.tail _ (List.mem_singleton.mpr rfl))
  have q2 := N6 _ (List.mem_cons_self ..)
  exact hq h6 _ t1 dx _ tk1 F6.keep q1.1 xdx q2.2.2 q2.1
end
end LH

set_option maxHeartbeats 2000000
namespace LH
open PySem PySem.Spec PySem.Calls PyProof.Rows L2
open PySem.W (Frag clsIn findIn subIn typeIn nsIn keepIn codeIn hasDictIn mroIn ksFn ksEnv ks_superIn excInitIn excOver takerIn ks_superObj kxs_mw excObj excTup InstAt dictOf methodObj)
/-! ### an own exception with the __init__ of a class above it: super().__init__(text), self.line, self.place -/
def iA (p1 p2 p3 : Pos) : Arguments := { posonlyargs := [], args := [{ arg := "self", annotation := none, pos := p1 }, { arg := "line", annotation := none, pos := p2 }, { arg := "place", annotation := none, pos := p3 }], vararg := none, kwonlyargs := [], kw_defaults := [], kwarg := none, defaults := [] }
structure WrPos where
  (a1 a2 a3 s0 s1 s2 s3 s4 f0 k0 v0 n0 k1 v1 n1 l0 l1 l2 l3 m0 m1 m2 m3 : Pos)
  (u0 u1 : Nat)
def iB (P : WrPos) : List Stmt :=
  [.Expr (.Call (.Attribute (.Call (.Name "super" P.s0) [] [] P.s1) "__init__" P.s2) [.JoinedStr [.Constant (.str "row ") P.u0 P.k0, .FormattedValue (.Name "line" P.n0) (-1) none P.v0, .Constant (.str ", place ") P.u1 P.k1, .FormattedValue (.Name "place" P.n1) (-1) none P.v1] P.f0] [] P.s3) P.s4,
   .Assign [.Attribute (.Name "self" P.l0) "line" P.l1] (.Name "line" P.l2) P.l3,
   .Assign [.Attribute (.Name "self" P.m0) "place" P.m1] (.Name "place" P.m2) P.m3]
def iS : Scope := { kind := .function, names := [("self", .local), ("line", .local), ("place", .local), ("__class__", .free), ("super", .globalImplicit)], isGenerator := false, isCoroutine := false, more := [] }
/-- what the written part says of the class at C, made by the __init__ at fI of the class at D -/
structure WrTxt (prog : Program) (K : Frag) (C D fI cc cda : Addr) (B fH ccH cdaH : Addr) (kd : Str) : Prop where
  he : HeTxt prog K C B fH ccH cdaH kd
  ini : findIn K (.ref C) "__init__" = some (some (.ref fI))
  exi : excInitIn K C bmV "ValueError.__new__" = true
  exo : excOver K C bmV = true
  sa : findIn K (.ref C) "__setattr__" = some (some (.builtin "object.__setattr__"))
  tkl : takerIn K C "line" = some none
  tkp : takerIn K C "place" = some none
  hdC : hasDictIn K C = true
  tyf : typeIn K (.ref fI) = some (.type "function")
  fn : ∃ (oc : Value) (od : Option Addr) (doc pm : Value) (an : Option Addr) (ct : Value) (osl : Array (Option Value)) (P : WrPos),
    K.lookup fI = some ⟨oc, od, .func (ksFn "__init__" "Wrong.__init__" (iA P.a1 P.a2 P.a3) (iB P) iS .none .none doc pm an (.ref cda) ct cc), osl⟩ ∧ codeIn K (.ref cda) "Wrong.__init__" = true ∧ (P.s2.endLine == P.s3.line) = true
  code : ∃ (ccl : Value) (cdd : Option Addr) (vs : Array Value) (ccs : Array (Option Value)) (file : Str) (tf : Tok), K.lookup cda = some ⟨ccl, cdd, .fields vs, ccs⟩ ∧ vs[2]? = some (.str file tf) ∧ ((prog.main.file : Str) == file) = true
  cell : ∃ (cl : Value) (cld : Option Addr) (csl : Array (Option Value)), K.lookup cc = some ⟨cl, cld, .cell (some (.ref D)), csl⟩
  icD : PySem.W.isClsIn K D = true
  sub : mroIn K C (.ref D) = some true
  sup : nsIn K mainGlobals "super" = some none
  top : (prog.main.scope.names.lookup ("super" : Str)).isSome = false
  thp : nsIn K cStatics "thirdparty.any" = some none
  supI : ks_superIn K C D "__init__" = some (some (.ref fH))
  fnH : PySem.W.fnIn K fH = true
  subV : subIn K (.ref C) (.type "ValueError") = some true
section
variable {prog : Program} {w : World} {A : Around} {E : Value → Shared → Prop} {R : Result → Shared → Prop} {K : Frag} {mg : Str → Option Value} {C D fI cc cda x B fH ccH cdaH : Addr} {kd : Str} {hp : Heap}
/-- super(), in the __init__ of such a class -/
theorem wr_super (T : WrTxt prog K C D fI cc cda B fH ccH cdaH kd) (M : Mod K mg hp) {s : Shared} {L : Addr} {m : Str → Option Value} {news : List (Addr × Obj)} (F : Fr hp L s.heap m) (N : News hp L s.heap news) {ox : Obj} {odx : Option Obj} (I : InstAt s.heap x ox C odx) (hv : m "self" = some (.ref x))
    {P : WrPos} {p0 p1 : Pos} {whole : Sem Value} {Q : Value → Shared → Prop}
    (h : ∀ so h', Fr hp L h' m → News hp L h' ((so, ks_superObj D x C) :: news) → (∀ p ∈ news, p.1 < so) → Q (.ref so) { s with heap := h' }) :
    PySem.wpAt (model prog w) A (.func (iB P) (ksEnv "Wrong.__init__" iS L fI (.ref cda) cc)) (attributeBase (.Call (.Name "super" p0) [] [] p1) "__init__" (ksEnv "Wrong.__init__" iS L fI (.ref cda) cc) whole) Q E s := by
  have X : K.In s.heap := M.kin.keeps F.keep
  obtain ⟨oc, od, doc, pm, an, ct, osl, P', hf, hcd, _⟩ := T.fn
  obtain ⟨ccl, cdd, vs, ccs, file, tf, hcode, hvs, hfile⟩ := T.code
  obtain ⟨cl, cld, csl, hcell⟩ := T.cell
  obtain ⟨mb, hb, hbb⟩ := M.blt
  obtain ⟨cdD, hD⟩ : ∃ cdD, clsIn K D = some cdD := Option.isSome_iff_exists.mp T.icD
  obtain ⟨hh, g, d, t, os⟩ := s
  have ⟨oD, hD1, hD2⟩ : ∃ o : Obj, hh.get? D = some o ∧ o.data = .cls cdD := by
    unfold PySem.W.clsIn at hD
    split at hD
    · rename_i ho; cases hD; exact ⟨_, X _ _ ho, rfl⟩
    · cases hD
  have noc : ∀ c, ox.data ≠ .cls c := fun c e => by
    have q := I.no
    unfold PySem.W.notCls at q
    rw [e] at q
    exact Bool.noConfusion q
  have last : wpAny (model prog w) A (call (.type "super") [.ref D, .ref x]) Q E ⟨hh, g, d, t, os⟩ := PySem.ks_wpAny_call_super hD1 hD2 I.at_ I.cls noc (PySem.W.looks_mroIn X T.sub) fun h' e k => by
    obtain ⟨F', N', l'⟩ := PySem.W.ks_newsPush (s := ⟨hh, g, d, t, os⟩) F N rfl e k
    exact h _ _ F' N' l'
  have self' : wpAny (model prog w) A (loadName (ksEnv "Wrong.__init__" iS L fI (.ref cda) cc) "self") (fun self s₃ => wpAny (model prog w) A (isType (.ref D)) (fun b s₄ => b = true ∧ wpAny (model prog w) A (call (.type "super") [.ref D, self]) Q E s₄) E s₃) E ⟨hh, g, d, t, os⟩ :=
    wpAny_loadName_local rfl rfl F.ns hv (PySem.ks_wpAny_isType_cls hD1 hD2 ⟨rfl, last⟩)
  refine PySem.ks_wpAt_super_base (env := ksEnv "Wrong.__init__" iS L fI (.ref cda) cc) rfl rfl (by decide) rfl (X _ _ hf) rfl rfl rfl (X _ _ hcode) rfl hvs hfile T.top ?_
  refine PySem.W.ks_loadName_global rfl rfl (loadGlobal_builtin (env := ksEnv "Wrong.__init__" iS L fI (.ref cda) cc) (M.glob.keeps F.keep) (PySem.W.mg_none_of M.kin M.glob T.sup) (hb.keeps F.keep) ((hbb _ (by decide +kernel)).trans (by decide +kernel)) ⟨rfl, ?_⟩)
  exact wpAny_loadName_free rfl rfl rfl ⟨_, X _ _ hcell, rfl⟩ self'
/-- the error's text is told: any number that is small -/
theorem wr_text {env : Env} {P : WrPos} {s : Shared} {a b : Int} {ta tb : Tok} {m : Str → Option Value} (hn : s.heap.Ns env.locals m) (hk : env.scope.kind = .function) (hl : env.kindOf "line" = some .local) (hp' : env.kindOf "place" = some .local)
    (va : m "line" = some (.int a ta)) (vb : m "place" = some (.int b tb)) (ha : a.natAbs.log2 < 1920) (hb : b.natAbs.log2 < 1920) {Q : Value → Shared → Prop} (hq : ∀ z tk t', Q (.str z t') { s with toks := tk }) :
    wpAny (model prog w) A (eval (.JoinedStr [.Constant (.str "row ") P.u0 P.k0, .FormattedValue (.Name "line" P.n0) (-1) none P.v0, .Constant (.str ", place ") P.u1 P.k1, .FormattedValue (.Name "place" P.n1) (-1) none P.v1] P.f0) env) Q E s := by
  have e0 : Str.empty.length = 0 := rfl
  have e1 : (Str.ofString "row ").length = 4 := by decide +kernel
  have e2 : (Str.ofString ", place ").length = 8 := by decide +kernel
  have e3 := int_text_len_1921 ha
  have e4 := int_text_len_1921 hb
  refine wpAny_JoinedStr ?_
  refine wpAny_Constant_str ⟨_, _, rfl, by rw [len_app, e0, e1, sizeLine_eq]; decide, ?_⟩
  refine wpAny_FormattedValue_plain (wpAny_Name (wpAny_loadName_local hk hl hn va (wpAny_formatField_int ha ⟨_, _, rfl, by rw [len_app, len_app, e0, e1, sizeLine_eq]; omega, ?_⟩)) (by decide))
  refine wpAny_Constant_str ⟨_, _, rfl, by rw [len_app, len_app, len_app, e0, e1, e2, sizeLine_eq]; omega, ?_⟩
  refine wpAny_FormattedValue_plain (wpAny_Name (wpAny_loadName_local hk hp' hn vb (wpAny_formatField_int hb ⟨_, _, rfl, by rw [len_app, len_app, len_app, len_app, e0, e1, e2, sizeLine_eq]; omega, ?_⟩)) (by decide))
  exact ⟨by rw [len_app, len_app, len_app, len_app, e0, e1, e2, sizeLine_eq]; omega, hq _ _ _⟩
/-- Wrong.__init__ at a fresh exception x of the class at C -/
theorem wr_init (T : WrTxt prog K C D fI cc cda B fH ccH cdaH kd) (M : Mod K mg hp) {s : Shared} (hk : ∀ b o, hp.get? b = some o → s.heap.get? b = some o) (hsz : hp.objs.size ≤ s.heap.objs.size) {t0 : Addr} (hx : s.heap.get? x = some (excObj C t0 none .none)) (hx0 : hp.get? x = none)
    {a b : Int} {ta tb : Tok} (ha : a.natAbs.log2 < 1920) (hb : b.natAbs.log2 < 1920) (hroom : A.depth + 1 < recursionLimit)
    (hq : ∀ h' tk t1 dx k0 k1 k2 q0 q1 q2 tk1 n, (∀ b o, hp.get? b = some o → h'.get? b = some o) → h'.get? x = some (excObj C t1 (some dx) .none) → x < dx →
      h'.get? dx = some (dictOf [⟨k0, .str "kind" q0, .str kd tk1⟩, ⟨k1, .str "line" q1, .int a ta⟩, ⟨k2, .str "place" q2, .int b tb⟩] n) → R (.ok (.ret .none)) { s with heap := h', toks := tk }) :
    codeAny (model prog w) A (.call (.ref fI) ⟨[.ref x, .int a ta, .int b tb], []⟩) R s := by
  obtain ⟨oc, od, doc, pm, an, ct, osl, P, ho, hcd, hs⟩ := T.fn
  have X := M.kin.keeps hk
  refine PySem.ks_codeAny_call_defAt (fd := ksFn "__init__" "Wrong.__init__" (iA P.a1 P.a2 P.a3) (iB P) iS .none .none doc pm an (.ref cda) ct cc) (body := iB P) (binds := [("self", .ref x), ("line", .int a ta), ("place", .int b tb)]) (Nat.lt_of_succ_lt hroom) (X _ _ ho) rfl (M.nolimit.keeps hk) (PySem.W.codeRec_of X hcd) rfl (.of_eq rfl) (show ∀ y ∈ iS.names, y.2 ≠ .cell by decide) (fun y hy => by simp only [List.mem_cons, List.mem_nil_iff, or_false] at hy; rcases hy with rfl | rfl | rfl <;> rfl) (fun h₁ hn k₁ => ?_) rfl rfl rfl
  have F : Fr hp s.heap.objs.size h₁ (fun y => ([("self", Value.ref x), ("line", .int a ta), ("place", .int b tb)] : List (Str × Value)).reverse.lookup y) := ⟨hn, fun b o e => k₁ b o (hk b o e), hsz⟩
  have N : News hp s.heap.objs.size h₁ [(x, excObj C t0 none .none)] := fun p hp' => by
    obtain rfl := List.mem_singleton.mp hp'
    exact ⟨k₁ _ _ hx, Nat.ne_of_lt (Heap.lt_size hx), hx0⟩
  show PySem.wpAt (model prog w) (A.deeper (ksEnv "Wrong.__init__" iS s.heap.objs.size fI (.ref cda) cc)) (.func (iB P) (ksEnv "Wrong.__init__" iS s.heap.objs.size fI (.ref cda) cc)) (execs (iB P) (ksEnv "Wrong.__init__" iS s.heap.objs.size fI (.ref cda) cc)) _ _ _
  have m1 : (x, excObj C t0 none .none) ∈ [(x, excObj C t0 none .none)] := List.mem_singleton.mpr rfl
  refine PySem.ks_wpAt_execs_cons (PySem.ks_wpAt_Expr_any (PySem.ks_wpAt_MethodCall (pl := do return (← importBound (.Call (.Name "super" P.s0) [] [] P.s1) (ksEnv "Wrong.__init__" iS s.heap.objs.size fI (.ref cda) cc)).getD true) (wr_super T M F N (PySem.W.InstAt.of_exc0 N m1) rfl fun so h2 F2 N2 l2 => ?_) ?_))
  rotate_left
  · rw [arm_eval_Call]
    unfold methodCall methodCallPos
    simp only [hs, Bool.or_true, if_true, pure_bind]
    rfl
  have m2 : (x, excObj C t0 none .none) ∈ [(so, ks_superObj D x C), (x, excObj C t0 none .none)] := by simp
  refine PySem.W.ks_method F2 M.kin N2 (List.mem_cons_self ..) (PySem.W.InstAt.of_exc0 N2 m2) T.thp T.supI T.he.tyf (by decide) fun q h3 F3 N3 l3 => ?_
  refine PySem.W.callWith_M M.kin N3 (List.mem_cons_self ..) T.fnH ?_
  refine spliced_more (wr_text F3.ns rfl rfl rfl rfl rfl ha hb fun z tk t' => spliced_none ⟨PySem.W.methP N3 (List.mem_cons_self ..) (M.kin.keeps F3.keep), ?_⟩)
  have nq : q ≠ x := fun e => Nat.lt_irrefl _ (by have := l3 _ m2; rw [e] at this; exact this)
  have ns : so ≠ x := fun e => Nat.lt_irrefl _ (by have := l2 _ m1; rw [e] at this; exact this)
  have m3 : (x, excObj C t0 none .none) ∈ [(q, methodObj (.ref fH) (.ref x)), (so, ks_superObj D x C), (x, excObj C t0 none .none)] := by simp
  have xh := N3 _ m3
  have kG : ∀ b o, hp.get? b = some o → (h3.hide x).get? b = some o := fun b o e => (Heap.hide_ne h3 (fun z => by rw [z, hx0] at e; cases e)).trans (F3.keep b o e)
  obtain ⟨mb0, hb0, hbb0⟩ := M.blt
  have MG : Mod K mg (h3.hide x) := ⟨M.kin.keeps kG, M.glob.keeps kG, ⟨mb0, hb0.keeps kG, hbb0⟩, M.nolimit.keeps kG⟩
  refine PySem.W.call_meth N3 (List.mem_cons_self ..) ?_
  refine he_init (hp := h3.hide x) (x := x) T.he MG (fun b o e => Heap.of_hide e) (Nat.le_of_eq (Heap.hide_size h3 x)) xh.1 (Heap.hide_self h3 x) (show A.depth + 1 < recursionLimit from hroom) fun h4 tk4 t1 dx z0 tk1 k4 hx4 xdx nd hd4 => ?_
  have kF : ∀ b o, hp.get? b = some o → h4.get? b = some o := fun b o e => k4 b o (kG b o e)
  obtain ⟨oL, es, ep, hL, r⟩ := F3.ns
  have Lx : s.heap.objs.size ≠ x := fun z => xh.2.1 z.symm
  have hL4 : (h3.hide x).get? s.heap.objs.size = some oL := (Heap.hide_ne h3 Lx).trans hL
  have F4 : Fr hp s.heap.objs.size h4 _ := ⟨⟨oL, es, ep, k4 _ _ hL4, r⟩, kF, F3.above⟩
  have dL : dx ≠ s.heap.objs.size := fun z => by rw [z, hL4] at nd; cases nd
  have hd0 : hp.get? dx = none := by
    cases e : hp.get? dx with
    | none => rfl
    | some o => rw [kG _ _ e] at nd; cases nd
  have N5 : News hp s.heap.objs.size h4 [(dx, dictOf [⟨PyData.keyHash w.params "kind", .str "kind" z0, .str kd tk1⟩] 1), (x, excObj C t1 (some dx) .none)] := fun p hp2 => by
    simp only [List.mem_cons, List.mem_nil_iff, or_false] at hp2
    rcases hp2 with rfl | rfl
    · exact ⟨hd4, dL, hd0⟩
    · exact ⟨hx4, xh.2⟩
  have dxx : dx ≠ x := Nat.ne_of_gt xdx
  refine wpAt_of_wpAny (wpAny_execs_cons (plainObj_wpAny_Assign_Attribute ?_))
  refine wpAny_Name (wpAny_loadName_local rfl rfl F4.ns rfl (wpAny_Name (wpAny_loadName_local rfl rfl F4.ns rfl ?_) (by decide))) (by decide)
  refine PySem.W.set_excD (es' := [⟨PyData.keyHash w.params "kind", .str "kind" z0, .str kd tk1⟩, ⟨PyData.keyHash w.params "line", .str "line" _, .int a ta⟩]) (n' := 2) PySem.F.store_ValueError F4 M.kin N5 (.tail _ (List.mem_singleton.mpr rfl)) T.sa T.exo T.tkl T.hdC (List.mem_cons_self ..) (by first | rfl | decide +kernel) rfl (PySem.W.Upd.head (fun p hp2 => by rw [List.mem_singleton.mp hp2]; exact Ne.symm dxx)) (show 2 ≤ 1000 by decide) fun h6 F6 N6 => ?_
  refine wpAny_execs_cons (plainObj_wpAny_Assign_Attribute ?_)
  refine wpAny_Name (wpAny_loadName_local rfl rfl F6.ns rfl (wpAny_Name (wpAny_loadName_local rfl rfl F6.ns rfl ?_) (by decide))) (by decide)
  obtain ⟨z1, N6⟩ : ∃ z1, News hp s.heap.objs.size h6 [(dx, dictOf [⟨PyData.keyHash w.params "kind", .str "kind" z0, .str kd tk1⟩, ⟨PyData.keyHash w.params "line", .str "line" z1, .int a ta⟩] 2), (x, excObj C t1 (some dx) .none)] := ⟨_, N6⟩
  refine PySem.W.set_excD (es' := [⟨PyData.keyHash w.params "kind", .str "kind" z0, .str kd tk1⟩, ⟨PyData.keyHash w.params "line", .str "line" z1, .int a ta⟩, ⟨PyData.keyHash w.params "place", .str "place" _, .int b tb⟩]) (n' := 3) PySem.F.store_ValueError F6 M.kin N6 (.tail _ (List.mem_singleton.mpr rfl)) T.sa T.exo T.tkp T.hdC (List.mem_cons_self ..) (by first | rfl | decide +kernel) rfl (PySem.W.Upd.head (fun p hp2 => by rw [List.mem_singleton.mp hp2]; exact Ne.symm dxx)) (show 3 ≤ 1000 by decide) fun h7 F7 N7 => ?_
  refine wpAny_execs_nil ?_
  have q1 := N7 _ (.tail _ (List.mem_singleton.mpr rfl))
  have q2 := N7 _ (List.mem_cons_self ..)
  exact hq h7 _ t1 dx _ _ _ _ _ _ _ 3 F7.keep q1.1 xdx q2.1
/-- a made error of the class at C -/
theorem wr_made (T : WrTxt prog K C D fI cc cda B fH ccH cdaH kd) {s : Shared} (M : Mod K mg s.heap) {a b : Int} {ta tb : Tok} (ha : a.natAbs.log2 < 1920) (hb : b.natAbs.log2 < 1920) (hroom : A.depth + 2 < recursionLimit)
    (hq : ∀ h' tk e t1 dx k0 k1 k2 q0 q1 q2 tk1 n, (∀ b o, s.heap.get? b = some o → h'.get? b = some o) → s.heap.objs.size ≤ e → h'.get? e = some (excObj C t1 (some dx) .none) → dx ≠ e → s.heap.objs.size ≤ dx →
      h'.get? dx = some (dictOf [⟨k0, .str "kind" q0, .str kd tk1⟩, ⟨k1, .str "line" q1, .int a ta⟩, ⟨k2, .str "place" q2, .int b tb⟩] n) → R (.ok (.ret (.ref e))) { s with heap := h', toks := tk }) :
    codeAny (model prog w) A (.call (.ref C) ⟨[.int a ta, .int b tb], []⟩) R s := by
  obtain ⟨nm, N', qn, bs, bm, hdct, sn, sub, ab, col, dd, k0, k1, k2, k3, k5, hC, hT⟩ := PySem.W.excInit_of M.kin T.exi
  obtain ⟨hp, g, dr, tk, os⟩ := s
  have M : Mod K mg hp := M
  have hC : hp.get? C = _ := hC
  have two : [Value.int a ta, .int b tb].length ≤ sizeLine := by rw [sizeLine_eq]; show 2 ≤ 16777216; decide
  have k : ∀ c o, hp.get? c = some o → ((hp.push (PySem.W.kdv_tup [.int a ta, .int b tb])).push (HandSPX.excO C hp.objs.size)).get? c = some o := fun c o e => Heap.get?_push_of_some _ (Heap.get?_push_of_some _ e)
  have hget : ((hp.push (PySem.W.kdv_tup [.int a ta, .int b tb])).push (HandSPX.excO C hp.objs.size)).get? (hp.objs.size + 1) = some (HandSPX.excO C hp.objs.size) := by heap_get
  have hno : ∀ q, hp.objs.size ≤ q → hp.get? q = none := fun q hq' => by
    cases e : hp.get? q with
    | none => rfl
    | some o => exact absurd (Heap.lt_size e) (Nat.not_lt_of_le hq')
  refine HandSPX.call_own PySem.F.excBase_ValueError hT hC (PySem.W.looks_findIn M.kin T.ini) (fun self => PySem.W.bind_fn M.kin self T.tyf) two ?_
  refine wr_init (hp := hp) (s := ⟨(hp.push (PySem.W.kdv_tup [.int a ta, .int b tb])).push (HandSPX.excO C hp.objs.size), g, dr, tk, os⟩) T M k ?_ hget (hno _ (Nat.le_succ _)) ha hb ?_ fun h' tk' t1 dx k0 k1 k2 q0 q1 q2 tk1 n kp hx hlt hd => ?_
  · rw [Heap.size_push, Heap.size_push]; omega
  · show A.depth + 1 + 1 < recursionLimit
    exact hroom
  · exact ⟨rfl, hq h' tk' (hp.objs.size + 1) t1 dx k0 k1 k2 q0 q1 q2 tk1 n kp (Nat.le_succ _) hx (Nat.ne_of_gt hlt) (Nat.le_of_lt (Nat.lt_of_succ_lt hlt)) hd⟩
end
end LH

set_option maxHeartbeats 2000000
namespace LH
open PySem PySem.Spec PySem.Calls PyProof.Rows L2
open PySem.W (Frag clsIn findIn subIn typeIn nsIn keepIn codeIn hasDictIn mroIn excObj InstAt dictOf)
/-- the own dict of such an error -/
def wrFields (kd : Str) (a b : Int) : List (Str × V) := [("kind", .str kd), ("line", .int a), ("place", .int b)]
theorem wr_ns {h : Heap} {dx : Addr} {k0 k1 k2 : Int} {q0 q1 q2 tk1 : Tok} {kd : Str} {a b : Int} {ta tb : Tok} {n : Nat} (e : h.get? dx = some (dictOf [⟨k0, .str "kind" q0, .str kd tk1⟩, ⟨k1, .str "line" q1, .int a ta⟩, ⟨k2, .str "place" q2, .int b tb⟩] n)) :
    ∃ mA, h.Ns1 dx mA ∧ ∀ f, RelO (List.lookup f (wrFields kd a b)) (mA f) := by
  have lp : (Str.ofString "line" : Str) ≠ Str.ofString "place" := by decide +kernel
  have kl : (Str.ofString "kind" : Str) ≠ Str.ofString "line" := by decide +kernel
  have kp : (Str.ofString "kind" : Str) ≠ Str.ofString "place" := by decide +kernel
  refine ⟨fun f => if f = "kind" then some (.str kd tk1) else if f = "line" then some (.int a ta) else if f = "place" then some (.int b tb) else none, ⟨_, _, _, e, rfl, fun x hx => ?_, ?_, fun f => ?_⟩, fun f => ?_⟩
  · simp only [List.mem_toArray, List.mem_cons, List.mem_nil_iff, or_false] at hx
    rcases hx with rfl | rfl | rfl <;> exact ⟨_, _, rfl⟩
  · show List.Pairwise _ _
    simp only [List.pairwise_cons, List.mem_cons, List.mem_nil_iff, or_false]
    refine ⟨fun y hy m h1 h2 => ?_, ⟨fun y hy m h1 h2 => ?_, ⟨fun _ h => h.elim, List.Pairwise.nil⟩⟩⟩
    · have e1 : (Str.ofString "kind" : Str) = m := by simpa [Value.isStr] using h1
      rcases hy with rfl | rfl
      · have e2 : (Str.ofString "line" : Str) = m := by simpa [Value.isStr] using h2
        exact kl (e1.trans e2.symm)
      · have e2 : (Str.ofString "place" : Str) = m := by simpa [Value.isStr] using h2
        exact kp (e1.trans e2.symm)
    · subst hy
      have e1 : (Str.ofString "line" : Str) = m := by simpa [Value.isStr] using h1
      have e2 : (Str.ofString "place" : Str) = m := by simpa [Value.isStr] using h2
      exact lp (e1.trans e2.symm)
  · unfold nsFind findBy
    rw [List.find?_toArray]
    by_cases h0 : f = "kind"
    · subst h0
      simp [List.find?, Value.isStr]
    · have z0 : ((Str.ofString "kind" : Str) == f) = false := by simpa using fun h => h0 h.symm
      by_cases h1 : f = "line"
      · subst h1
        simp [List.find?, Value.isStr, z0, h0]
      · have z1 : ((Str.ofString "line" : Str) == f) = false := by simpa using fun h => h1 h.symm
        by_cases h2 : f = "place"
        · subst h2
          simp [List.find?, Value.isStr, z0, z1, h0, h1]
        · have z2 : ((Str.ofString "place" : Str) == f) = false := by simpa using fun h => h2 h.symm
          simp [List.find?, Value.isStr, z0, z1, z2, h0, h1, h2]
  · unfold wrFields
    dsimp only
    by_cases h0 : f = "kind"
    · subst h0
      show RelO (some (V.str kd)) _
      rw [if_pos rfl]
      exact ⟨_, rfl⟩
    · have z0 : (f == (Str.ofString "kind" : Str)) = false := by simpa using h0
      rw [if_neg h0]
      by_cases h1 : f = "line"
      · subst h1
        rw [if_pos rfl]
        show RelO (List.lookup _ _) _
        simp only [List.lookup, z0, beq_self_eq_true]
        exact ⟨_, rfl⟩
      · have z1 : (f == (Str.ofString "line" : Str)) = false := by simpa using h1
        by_cases h2 : f = "place"
        · subst h2
          rw [if_neg h1, if_pos rfl]
          show RelO (List.lookup _ _) _
          simp only [List.lookup, z0, z1, beq_self_eq_true]
          exact ⟨_, rfl⟩
        · have z2 : (f == (Str.ofString "place" : Str)) = false := by simpa using h2
          rw [if_neg h1, if_neg h2]
          simp only [List.lookup, z0, z1, z2]
          trivial
/-! ### raise C(row, place) -/
def tMkW (C : Addr) (kd : Str) (ta : TA) : L2.St → Hp → XK → Prop := fun σ H Q => ta σ H fun vs H1 => ∃ a b : Int, vs = [.int a, .int b] ∧ a.natAbs.log2 < 1920 ∧ b.natAbs.log2 < 1920 ∧ ∀ d, H1 d = none → Q (.ref C) (some d) (upd H1 d (.xd (wrFields kd a b)))
/-- the class as its raisers see it -/
structure WrC (prog : Program) (K : Frag) (mg : Str → Option Value) (nm : Str) (C D fI cc cda B fH ccH cdaH : Addr) (kd : Str) : Prop where
  txt : WrTxt prog K C D fI cc cda B fH ccH cdaH kd
  mg : mg nm = some (.ref C)
  kp : keepIn K (.ref C) = true
  ex : subIn K (.ref C) (.type "BaseException") = some true
  ty : typeIn K (.ref C) = some (.type "type")
section
variable {X : Cx} {nm kd : Str} {C D fI cc cda B fH ccH cdaH : Addr}
theorem pmk_wr {e1 e2 : Expr} {ta : TA} {p pos : Pos} {k : Nat} (T : WrC X.prog X.K X.mg nm C D fI cc cda B fH ccH cdaH kd) (hr : Room k X.A) (ha : PA X [e1, e2] ta) (hg : Gl X nm := by rfl) (hdb : (nm == ("__debug__" : Str)) = false := by decide)
    (he : starEach (e1 :: [e2]) X.env = (false, eval e1 X.env) :: starEach [e2] X.env := by rfl) (hpl : (backTo pos (starEach [e2] X.env)).any (·.1) = false := by rfl) :
    PMk X (.Call (.Name nm p) [e1, e2] [] pos) (tMkW C kd ta) := by
  intro pins s σ H Q I h
  refine wpAny_Call_Name_kw (ld_glob I hg T.mg ?_ hdb)
  refine PySem.W.callWith_K (h₀ := X.base) I.ok.mod.kin T.kp (thn (ha.run pos pins s σ H _ I h) fun us s1 hh => ?_) he hpl
  obtain ⟨vs, H1, I1, r1, a, b, ev, hla, hlb, q1⟩ := hh
  subst ev
  refine ⟨I1.kIn, ?_⟩
  obtain ⟨u1, u2, rfl, rv1, rv2⟩ := vals2 r1
  obtain ⟨ta', rfl⟩ := rv1
  obtain ⟨tb', rfl⟩ := rv2
  show wpAny _ _ (call (.ref C) [.int a ta', .int b tb']) _ _ _
  obtain ⟨mb, hmb, hbb⟩ := I.ok.mod.blt
  have M1 : Mod X.K X.mg s1.heap := ⟨I1.kIn, I1.ok.mod.glob.keeps I1.bk, ⟨mb, hmb.keeps I1.bk, hbb⟩, I1.nolimit⟩
  obtain ⟨hp, g, dr, tk, os⟩ := s1
  refine wpAny_call (wr_made T.txt M1 hla hlb (by have := hr.dp; omega) fun h' tk' e t1 d k0 k1 k2 z0 z1 z2 tkk n keep new hoe dne dbig hd => ?_)
  show MkP X pins σ Q (.ref e) ⟨h', g, dr, tk', os⟩
  have old : ∀ c o, hp.get? c = some o → h'.get? c = some o := keep
  have hoe : h'.get? e = some (excObj C t1 (some d) .none) := hoe
  obtain ⟨G', g1, g2⟩ := restrict h' fun c => decide (c ≠ e)
  have gk : ∀ c, c ≠ e → G'.get? c = h'.get? c := fun c hc => g1 c (decide_eq_true hc)
  have ge : G'.get? e = none := g2 e (by simp)
  have oldG : ∀ c o, hp.get? c = some o → G'.get? c = some o := fun c o q => (gk c (Nat.ne_of_lt (Nat.lt_of_lt_of_le (Heap.lt_size q) new))).trans (old c o q)
  obtain ⟨mA, hns, hrel⟩ := wr_ns hd
  have ob : ObjOk X.prog X.w (upd H1 d (.xd (wrFields kd a b))) G' d (.xd (wrFields kd a b)) := ⟨mA, hns.at (fun o q => (gk d dne).trans q), hrel⟩
  have J : Inv X pins σ (upd H1 d (.xd (wrFields kd a b))) ⟨G', g, dr, tk', os⟩ := I1.laid (t' := tk') oldG dbig ob
  refine ⟨e, _, _, ⟨G', g, dr, tk', os⟩, _, .ref C, some d, rfl, J, fun c o q => ?_, ge, hoe, ⟨rfl, rfl⟩, rfl, rfl, ?_, rfl, I1.bare, raises_own T.ex T.ty, q1 d (I1.hok.fresh dbig)⟩
  · by_cases hc : c = e
    · have q' : G'.get? c = some o := q
      rw [hc, ge] at q'
      exact nomatch q'
    · exact (gk c hc).symm.trans q
  · rw [upd_ne (Ne.symm dne)]
    exact I1.hok.fresh new
def tRaiseW (C : Addr) (kd : Str) (W : WX) (ta : TA) : TS := fun _ σ H => tMkW C kd ta σ H fun cls d H' => W cls d σ H'
theorem ps_raiseW {e1 e2 : Expr} {ta : TA} {W : WX} {p pos pos2 : Pos} {k : Nat} (hc : X.calm = true) (T : WrC X.prog X.K X.mg nm C D fI cc cda B fH ccH cdaH kd) (hr : Room k X.A) (tk : Takes X W) (ha : PA X [e1, e2] ta) (hg : Gl X nm := by rfl) (hdb : (nm == ("__debug__" : Str)) = false := by decide)
    (he : starEach (e1 :: [e2]) X.env = (false, eval e1 X.env) :: starEach [e2] X.env := by rfl) (hpl : (backTo pos (starEach [e2] X.env)).any (·.1) = false := by rfl) :
    PS X (.Raise (some (.Call (.Name nm p) [e1, e2] [] pos)) none pos2) (tRaiseW C kd W ta) := ps_raise hc tk (pmk_wr T hr ha hg hdb he hpl)
end
end LH

set_option maxHeartbeats 2000000
namespace LH
open PySem PySem.Spec PySem.Calls PyProof.Rows L2
open PySem.W (Frag clsIn findIn subIn hasDictIn)
/-! ### a held error with an own dict: isinstance of it, its attributes -/
/-- the error at a, of the class at D, its own dict at dd with the fields fs -/
def HeldD (H : Hp) (D dd a : Addr) (fs : List (Str × V)) : Prop := H a = some (ExH (.ref D) (some dd) a) ∧ H dd = some (.xd fs)
theorem HeldD.same {H H' : Hp} {D dd a : Addr} {fs : List (Str × V)} (h : HeldD H D dd a fs) (s : Same H H') : HeldD H' D dd a fs := ⟨s _ _ h.1, s _ _ h.2⟩
theorem held_inst {X : Cx} {pins : List (Addr × Obj)} {σ : L2.St} {H : Hp} {s : Shared} {D dd a : Addr} {fs : List (Str × V)} (I : Inv X pins σ H s) (h : HeldD H D dd a fs) :
    ∃ (oe od : Obj) (mA : Str → Option Value), PySem.W.InstAt s.heap a oe D (some od) ∧ (∀ f, PySem.W.lookIn f od = some (mA f)) ∧ ∀ f, RelO (List.lookup f fs) (mA f) := by
  obtain ⟨⟨oe, fv, hget, ⟨h1, h2⟩, h3⟩, _, _⟩ := (show ObjOk X.prog X.w H s.heap a (ExH (.ref D) (some dd) a) from I.hok a _ h.1)
  obtain ⟨mA, hns, hr⟩ := (show ObjOk X.prog X.w H s.heap dd (.xd fs) from I.hok dd _ h.2)
  obtain ⟨od, ho, hl⟩ := lookIn_ns hns
  exact ⟨oe, od, mA, ⟨hget, h1, by unfold PySem.W.notCls; rw [h3] <;> rfl, by rw [h2]; exact ho⟩, hl, hr⟩
def rIsD (K : Frag) : List V → Hp → VK → Prop := fun xs H Q => ∃ (a D dd : Addr) (fs : List (Str × V)) (c : V) (cv : Value) (b : Bool), xs = [.ref a, c] ∧ HeldD H D dd a fs ∧ ExcC K D ∧ (∀ u, RelV c u → u = cv) ∧ PySem.W.kitOne K (.ref D) cv = some b ∧ Q (.bl b) H
theorem call_isD {X : Cx} : CallR X (.builtin "isinstance") (rIsD X.K) := by
  intro pins s σ H xs us Q I r h
  obtain ⟨a, D, dd, fs, c, cv, b, rfl, hh, C, hcv, e, q⟩ := h
  obtain ⟨u1, u2, rfl, r1, r2⟩ := vals2 r
  cases (show u1 = Value.ref a from r1)
  obtain rfl := hcv _ r2
  obtain ⟨oe, od, mA, J, _, _⟩ := held_inst I hh
  have hcl : (clsIn X.K D).isSome = true := by
    obtain ⟨cd, hc, _⟩ := PySem.W.any_some C.hd
    rw [hc]; rfl
  exact PySem.W.kia_one (PySem.W.kitx_exc hcl C.hg C.hk C.hs C.ha C.hn C.ht C.hm) I.kIn J e (fun z => nomatch z) fun tk => ⟨.bl b, H, I.kept (t' := tk) fun _ _ z => z, rfl, q⟩
theorem cIsD {X : Cx} (K : Frag) (h : X.K = K := by rfl) : CallR X (.builtin "isinstance") (rIsD K) := h ▸ call_isD
/-- isinstance of a held error, with or without an own dict -/
def rIsE' (K : Frag) : List V → Hp → VK → Prop := fun xs H Q => rIsH K xs H Q ∨ rIsD K xs H Q
theorem cIsHD {X : Cx} (K : Frag) (h : X.K = K := by rfl) : CallR X (.builtin "isinstance") (rIsE' K) := fun pins s σ H xs us Q I r q => q.elim (cIsH K h pins s σ H xs us Q I r) (cIsD K h pins s σ H xs us Q I r)
/-- an attribute of it that stands in its own dict -/
def tFld (K : Frag) (f : Str) (te : TE) : TE := fun σ H Q => te σ H fun x H1 => ∃ (a D dd : Addr) (fs : List (Str × V)) (v : V), x = .ref a ∧ HeldD H1 D dd a fs ∧ ExcC K D ∧ findIn K (.ref D) f = some none ∧ fs.lookup f = some v ∧ Q v H1
theorem pe_fldD {X : Cx} {K : Frag} {e : Expr} {te : TE} {pos : Pos} {f : Str} (he : PE X e te) (hK : X.K = K := by rfl) (hb : attributeBase e f X.env (eval e X.env) = eval e X.env := by rfl) : PE X (.Attribute e f pos) (tFld K f te) := by
  subst hK
  refine ⟨fun pins s σ H Q I h => ?_⟩
  refine attr_of hb (thn (he.run pins s σ H _ I h) fun u s1 hh => ?_)
  obtain ⟨x, H1, I1, rx, a, D, dd, fs, v, ex, hd, C, hno, hv, q⟩ := hh
  subst ex
  obtain rfl : u = Value.ref a := rx
  obtain ⟨oe, od, mA, J, hl, hr⟩ := held_inst I1 hd
  obtain ⟨w', hw, rw'⟩ := RelO.some_of (v := v) (o := mA f) (by rw [← hv]; exact hr f)
  exact HandSPX.exc_get I1.kIn J C.hg C.hk C.hs (PySem.W.findObj_own C.hd hno rfl (by rw [hl, hw])) (handed_of rw') ⟨v, H1, I1.tok _, rw', q⟩
end LH

namespace LH
open PySem PySem.Spec PyProof.Rows L2 Builtin Builtin.Str PySem.StrLaws
/-! ### one sign: where it is found, how often it stands, whether it ends a text, a text without it at its end -/
theorem find_hit (x : Str) (c : Nat) (p r : List Nat) (hx : TL.tl x = p ++ c :: r) (hp : c ∉ p) : Txt.find x ⟨#[c]⟩ = (p.length : Int) ∧ ∃ rest, occurrences x ⟨#[c]⟩ 0 x.length 1 = p.length :: rest := by
  have hm0 : x.cps.toList[p.length]? = some c := by
    show (TL.tl x)[p.length]? = some c
    rw [hx]; simp
  have hn0 : ∀ k, k < p.length → x.cps.toList[k]? ≠ some c := fun k hk e => by
    have e' : (TL.tl x)[k]? = some c := e
    rw [hx, List.getElem?_append_left hk] at e'
    exact hp (List.mem_of_getElem? e')
  unfold Txt.find
  rcases occ_head x ⟨#[c]⟩ 1 (Nat.le_refl 1) with ⟨h0, hn⟩ | ⟨i, q, h0, hi, hn⟩
  · exact absurd ((subAt_one x c p.length).mpr hm0) (hn _)
  · have hm := (subAt_one x c i).mp hi
    have e : i = p.length := by
      rcases Nat.lt_trichotomy i p.length with h | h | h
      · exact absurd hm (hn0 i h)
      · exact h
      · exact absurd ((subAt_one x c p.length).mpr hm0) (hn _ h)
    subst e
    rw [h0]
    exact ⟨rfl, q, rfl⟩
theorem find_miss (x : Str) (c : Nat) (h : c ∉ TL.tl x) : Txt.find x ⟨#[c]⟩ = -1 := by
  unfold Txt.find
  rcases occ_head x ⟨#[c]⟩ 1 (Nat.le_refl 1) with ⟨h0, hn⟩ | ⟨i, q, h0, hi, hn⟩
  · rw [h0]
  · exact absurd (List.mem_of_getElem? ((subAt_one x c i).mp hi)) h
/-- the place of a sign in a text of unlike signs -/
theorem find_at (x : Str) (i : Nat) (h : i < (TL.tl x).length) (hd : (TL.tl x).Nodup) : Txt.find x ⟨#[(TL.tl x)[i]]⟩ = (i : Int) ∧ ∃ rest, occurrences x ⟨#[(TL.tl x)[i]]⟩ 0 x.length 1 = i :: rest := by
  have e : TL.tl x = (TL.tl x).take i ++ (TL.tl x)[i] :: (TL.tl x).drop (i + 1) := by
    rw [← List.drop_eq_getElem_cons h, List.take_append_drop]
  have hl : ((TL.tl x).take i).length = i := by rw [List.length_take]; omega
  have hn : (TL.tl x)[i] ∉ (TL.tl x).take i := fun hm => by
    obtain ⟨j, hj, ej⟩ := List.mem_iff_getElem.mp hm
    rw [hl] at hj
    rw [List.getElem_take] at ej
    exact List.pairwise_iff_getElem.mp hd j i (by omega) h hj ej
  have := find_hit x (TL.tl x)[i] _ _ e hn
  rw [hl] at this
  exact this
theorem count_one (x : Str) (c : Nat) : Txt.count x ⟨#[c]⟩ = ((TL.tl x).count c : Nat) := by
  have hsub : ∀ i, (i + (⟨#[c]⟩ : Str).length ≤ x.length ∧ subAt x ⟨#[c]⟩ i = true) ↔ (TL.tl x)[i]? = some c := fun i => subAt_one x c i
  have key : ∀ (n lo : Nat) (st : Array Nat × Nat), lo + n = x.length + 1 → st.1.size ≤ lo → st.2 ≤ lo → (forIn (List.range' lo n) st (occBody x ⟨#[c]⟩ x.length (x.length + 1))).run.1.size = st.1.size + ((TL.tl x).drop lo).count c := by
    intro n
    induction n with
    | zero =>
      intro lo st h1 h2 h3
      have : (TL.tl x).drop lo = [] := List.drop_of_length_le (by rw [← TL.len_tl]; omega)
      rw [this]
      simp
    | succ n ih =>
      intro lo st h1 h2 h3
      rw [List.range'_succ, List.forIn_cons]
      unfold occBody
      by_cases hc : (TL.tl x)[lo]? = some c
      · have hs := (hsub lo).mpr hc
        rw [if_pos ⟨⟨⟨by omega, h3⟩, hs.1⟩, hs.2⟩]
        have hlt := (List.getElem?_eq_some_iff.mp hc).1
        have hd : (TL.tl x).drop lo = c :: (TL.tl x).drop (lo + 1) := by
          rw [List.drop_eq_getElem_cons hlt, (List.getElem?_eq_some_iff.mp hc).2]
        have := ih (lo + 1) (st.1.push lo, lo + (⟨#[c]⟩ : Str).length) (by omega) (by rw [Array.size_push]; omega) (by show lo + 1 ≤ lo + 1; omega)
        simp only [pure_bind]
        refine Eq.trans this ?_
        show (st.1.push lo).size + _ = _
        rw [Array.size_push, hd, List.count_cons_self]
        omega
      · rw [if_neg (fun h => hc ((hsub lo).mp ⟨h.1.2, h.2⟩))]
        have := ih (lo + 1) (st.1, st.2) (by omega) (by show st.1.size ≤ lo + 1; omega) (by show st.2 ≤ lo + 1; omega)
        simp only [pure_bind]
        refine Eq.trans this ?_
        have hd : ((TL.tl x).drop lo).count c = ((TL.tl x).drop (lo + 1)).count c := by
          by_cases hlt : lo < (TL.tl x).length
          · rw [List.drop_eq_getElem_cons hlt]
            rw [List.getElem?_eq_getElem hlt] at hc
            have : (TL.tl x)[lo] ≠ c := fun e => hc (congrArg some e)
            exact List.count_cons_of_ne this
          · rw [List.drop_of_length_le (by omega), List.drop_of_length_le (by omega)]
        rw [hd]
  unfold Txt.count
  rw [occ_eq, Array.length_toList, Nat.sub_zero, key (x.length + 1) 0 (#[], 0) (by omega) (Nat.zero_le _) (Nat.zero_le _)]
  simp
theorem ends_one (x y : Str) (c : Nat) (hy : TL.tl y = [c]) : Txt.endswith x y = decide ((TL.tl x).getLast? = some c) := by
  obtain rfl : y = ⟨#[c]⟩ := TL.ext_tl hy
  unfold Txt.endswith
  rw [Bool.eq_iff_iff, Bool.and_eq_true, decide_eq_true_eq, decide_eq_true_eq]
  have hl : x.length = (TL.tl x).length := TL.len_tl x
  have h1 : (⟨#[c]⟩ : Str).length = 1 := rfl
  constructor
  · rintro ⟨h2, h3⟩
    have := (subAt_one x c (x.length - 1)).mp ⟨by rw [h1] at *; omega, h3⟩
    have e : (TL.tl x)[(TL.tl x).length - 1]? = some c := by rw [← hl]; exact this
    rw [List.getLast?_eq_getElem?]
    exact e
  · intro h
    rw [List.getLast?_eq_getElem?] at h
    have hlt := (List.getElem?_eq_some_iff.mp h).1
    have := (subAt_one x c (x.length - 1)).mpr (by rw [hl]; exact h)
    exact ⟨by rw [h1]; omega, this.2⟩
theorem rstrip_app (x y : Str) (c : Nat) (b : List Nat) (k : Nat) (hy : TL.tl y = [c]) (hx : TL.tl x = b ++ List.replicate k c) (hb : b.getLast? ≠ some c) : TL.tl (Txt.rstripChars x y) = b := by
  obtain rfl : y = ⟨#[c]⟩ := TL.ext_tl hy
  have hl : x.length = b.length + k := by rw [TL.len_tl, hx, List.length_append, List.length_replicate]
  have htw : ((x.cps.toList.drop 0).reverse.takeWhile (⟨#[c]⟩ : Str).cps.contains).length = k := by
    rw [List.drop_zero, show x.cps.toList = TL.tl x from rfl, hx, List.reverse_append, List.reverse_replicate]
    have hc : ∀ d, (⟨#[c]⟩ : Str).cps.contains d = decide (d = c) := fun d => by
      show (#[c] : Array Nat).contains d = _
      simp
    rw [List.takeWhile_append_of_pos (by intro d hd; rw [hc]; exact decide_eq_true (List.mem_replicate.mp hd).2)]
    rw [List.length_append, List.length_replicate]
    have : (b.reverse.takeWhile (⟨#[c]⟩ : Str).cps.contains) = [] := by
      rcases List.eq_nil_or_concat b with h | ⟨B, d, h⟩
      · rw [h]; rfl
      · rw [List.concat_eq_append] at h
        rw [h] at hb ⊢
        rw [List.getLast?_concat] at hb
        rw [List.reverse_append]
        show List.takeWhile _ (d :: B.reverse) = []
        rw [List.takeWhile_cons, hc, decide_eq_false (fun e => hb (congrArg some e))]
        rfl
    rw [this]
    rfl
  unfold Txt.rstripChars Txt.stripBy
  have hlo : stripLo (⟨#[c]⟩ : Str).cps.contains false x = 0 := rfl
  have hhi : stripHi (⟨#[c]⟩ : Str).cps.contains true x 0 = b.length := by
    unfold stripHi
    rw [if_pos rfl, htw, hl]
    omega
  split
  · rename_i h
    unfold stripSame at h
    rw [hlo, hhi, hl] at h
    simp only [beq_self_eq_true, Bool.true_and, beq_iff_eq] at h
    have : k = 0 := by omega
    rw [hx, this]
    simp
  · unfold stripped
    rw [hlo, hhi]
    show (strSub x 0 b.length).cps.toList = b
    rw [strSub_toList, show x.cps.toList = TL.tl x from rfl, hx]
    simp
end LH

namespace LH
open PySem PySem.Spec PySem.Calls PyProof.Rows L2
/-! ### a call of what a parameter holds -/
/-- at f stands a def of the promise sp -/
def FnV (P : Program) (w : World) (K : PySem.W.Frag) (mg : Str → Option Value) (base : Heap) (k : Nat) (f : Addr) (sp : Sp) : Prop := ∃ (fd : FuncData) (ps : List Str), FnOk P w K mg base CX0 k f fd ps sp ∧ PySem.W.keepIn K (.ref f) = true ∧ Binds K fd ps []
def tCallV (P : Program) (w : World) (K : PySem.W.Frag) (mg : Str → Option Value) (base : Heap) (k : Nat) (tv : TE) (t : TA) : TE := fun σ H Q => tv σ H fun v H1 => ∃ (f : Addr) (sp : Sp), v = .ref f ∧ FnV P w K mg base k f sp ∧ t σ H1 fun vs H2 => sp vs H2 Q E0
theorem pe_callV {X : Cx} {x : Str} {k : Nat} {e : Expr} {es : List Expr} {tv : TE} {t : TA} {p pos : Pos} (hr : Room k X.A) (hv : PE X (.Name x p) tv) (ha : PA X (e :: es) t) (he : starEach (e :: es) X.env = (false, eval e X.env) :: starEach es X.env := by rfl) (hpl : (backTo pos (starEach es X.env)).any (·.1) = false := by rfl) :
    PE X (.Call (.Name x p) (e :: es) [] pos) (tCallV X.prog X.w X.K X.mg X.base k tv t) := by
  refine ⟨fun pins s σ H Q I h => ?_⟩
  refine wpAny_Call_Name_kw (thn (hv.run pins s σ H _ I h) fun u s1 ⟨v, H1, I1, rv, f, sp, ev, ⟨fd, ps, F, hk, hb⟩, q⟩ => ?_)
  subst ev
  obtain rfl : u = Value.ref f := rv
  refine PySem.W.callWith_K (h₀ := X.base) I.ok.mod.kin hk (thn (ha.run pos pins s1 σ H1 _ I1 q) fun us s2 ⟨vs, H2, I2, r, q2⟩ => ⟨I2.kIn, ?_⟩) he hpl
  exact run_fn F hr hb .nil pass0 I2 r (by rw [List.append_nil]; exact q2)
theorem FnV.of {P : Program} {w : World} {K : PySem.W.Frag} {mg : Str → Option Value} {base : Heap} {x : Str} {k : Nat} {f : Addr} {fd : FuncData} {ps : List Str} {sp : Sp} (D : Def P w K mg base x k f fd ps sp) : FnV P w K mg base k f sp := ⟨fd, ps, D.ok, D.kp, D.bd⟩
end LH

namespace LH
open PySem PySem.Spec PySem.Calls PyProof.Rows L2
/-! ### a thing in a tuple of data -/
def rInT (K : PySem.W.Frag) : R2 := fun x y H Q => ∃ d ds, Dp K H x d ∧ Dp K H y (.tuple ds) ∧ SeqAt.shaped d = true ∧ SeqAt.shaped (.tuple ds) = true ∧ Q (.bl (ds.any fun z => PyData.eqv z d)) H
theorem op_inT {X : Cx} (K : PySem.W.Frag) (hu : X.A.units + 65 < cLine) (hK : X.K = K := by rfl) : OpR X (compareOp .In) (rInT K) := by
  subst hK
  intro pins s σ H x y v u Q I rx ry h
  obtain ⟨d, ds, hd, he, sd, se, q⟩ := h
  obtain ⟨as, r1⟩ := Dp.reads I d x v hd rx
  obtain ⟨bs, r2⟩ := Dp.reads I (.tuple ds) y u he ry
  exact SeqAt.in_tuple_reads r2 r1 (SeqAt.canLay_of_shaped se) (SeqAt.canLay_of_shaped sd) (room_in_shaped sd hu) ⟨.bl _, H, I, rfl, q⟩
theorem unit1 {k : Nat} {A : Around} (hr : Room k A) : A.units + 1 < cLine := by have := hr.un; omega
theorem room65 {k : Nat} {A : Around} (hr : Room (k + 1) A) : A.units + 65 < cLine := by have := hr.un; omega
end LH

set_option maxHeartbeats 2000000
namespace LH
open PySem PySem.Spec PySem.Calls PyProof.Rows L2
open PySem.W (Frag clsIn findIn subIn typeIn nsIn keepIn codeIn hasDictIn mroIn excObj InstAt dictOf)
/-! ### raise C(text), made by the __init__ of its base: its own dict holds its kind alone -/
def heFields (kd : Str) : List (Str × V) := [("kind", .str kd)]
theorem he_ns {h : Heap} {dx : Addr} {k0 : Int} {q0 tk1 : Tok} {kd : Str} {n : Nat} (e : h.get? dx = some (dictOf [⟨k0, .str "kind" q0, .str kd tk1⟩] n)) :
    ∃ mA, h.Ns1 dx mA ∧ ∀ f, RelO (List.lookup f (heFields kd)) (mA f) := by
  refine ⟨fun f => if f = "kind" then some (.str kd tk1) else none, ⟨_, _, _, e, rfl, fun x hx => ?_, ?_, fun f => ?_⟩, fun f => ?_⟩
  · simp only [List.mem_toArray, List.mem_cons, List.mem_nil_iff, or_false] at hx
    rw [hx]
    exact ⟨_, _, rfl⟩
  · show List.Pairwise _ _
    simp only [List.pairwise_cons, List.mem_nil_iff, or_false]
    exact ⟨fun _ h => h.elim, List.Pairwise.nil⟩
  · unfold nsFind findBy
    rw [List.find?_toArray]
    by_cases h0 : f = "kind"
    · subst h0
      simp [List.find?, Value.isStr]
    · have z0 : ((Str.ofString "kind" : Str) == f) = false := by simpa using fun h => h0 h.symm
      simp [List.find?, Value.isStr, z0, h0]
  · unfold heFields
    dsimp only
    by_cases h0 : f = "kind"
    · subst h0
      show RelO (some (V.str kd)) _
      rw [if_pos rfl]
      exact ⟨_, rfl⟩
    · have z0 : (f == (Str.ofString "kind" : Str)) = false := by simpa using h0
      rw [if_neg h0]
      simp only [List.lookup, z0]
      trivial
/-- the class as its raisers see it -/
structure HeC (prog : Program) (K : Frag) (mg : Str → Option Value) (nm : Str) (C D fH cc cda : Addr) (kd : Str) : Prop where
  txt : HeTxt prog K C D fH cc cda kd
  ini : findIn K (.ref C) "__init__" = some (some (.ref fH))
  mg : mg nm = some (.ref C)
  kp : keepIn K (.ref C) = true
  ex : subIn K (.ref C) (.type "BaseException") = some true
  ty : typeIn K (.ref C) = some (.type "type")
section
variable {prog : Program} {w : World} {A : Around} {R : Result → Shared → Prop} {K : Frag} {mg : Str → Option Value} {C D fH cc cda : Addr} {nm kd : Str}
theorem he_made (T : HeTxt prog K C D fH cc cda kd) (hini : findIn K (.ref C) "__init__" = some (some (.ref fH))) {s : Shared} (M : Mod K mg s.heap) {a : Value} (hroom : A.depth + 1 < recursionLimit)
    (hq : ∀ h' tk e t1 dx k0 q0 tk1 n, (∀ b o, s.heap.get? b = some o → h'.get? b = some o) → s.heap.objs.size ≤ e → h'.get? e = some (excObj C t1 (some dx) .none) → dx ≠ e → s.heap.objs.size ≤ dx →
      h'.get? dx = some (dictOf [⟨k0, .str "kind" q0, .str kd tk1⟩] n) → R (.ok (.ret (.ref e))) { s with heap := h', toks := tk }) :
    codeAny (model prog w) A (.call (.ref C) ⟨[a], []⟩) R s := by
  obtain ⟨nm, N', qn, bs, bm, hdct, sn, sub, ab, col, dd, k0, k1, k2, k3, k5, hC, hT⟩ := PySem.W.excInit_of M.kin T.exi
  obtain ⟨hp, g, dr, tk, os⟩ := s
  have M : Mod K mg hp := M
  have hC : hp.get? C = _ := hC
  have k : ∀ c o, hp.get? c = some o → ((hp.push (PySem.W.kdv_tup [a])).push (HandSPX.excO C hp.objs.size)).get? c = some o := fun c o e => Heap.get?_push_of_some _ (Heap.get?_push_of_some _ e)
  have hget : ((hp.push (PySem.W.kdv_tup [a])).push (HandSPX.excO C hp.objs.size)).get? (hp.objs.size + 1) = some (HandSPX.excO C hp.objs.size) := by heap_get
  have hno : ∀ q, hp.objs.size ≤ q → hp.get? q = none := fun q hq' => by
    cases e : hp.get? q with
    | none => rfl
    | some o => exact absurd (Heap.lt_size e) (Nat.not_lt_of_le hq')
  refine HandSPX.call_own PySem.F.excBase_ValueError hT hC (PySem.W.looks_findIn M.kin hini) (fun self => PySem.W.bind_fn M.kin self T.tyf) (LH.one_le a) ?_
  refine he_init (hp := hp) (s := ⟨(hp.push (PySem.W.kdv_tup [a])).push (HandSPX.excO C hp.objs.size), g, dr, tk, os⟩) T M k ?_ hget (hno _ (Nat.le_succ _)) ?_ fun h' tk' t1 dx q0 tk1 kp hx hlt hn hd => ?_
  · rw [Heap.size_push, Heap.size_push]; omega
  · show A.depth + 1 < recursionLimit
    exact hroom
  · exact ⟨rfl, hq h' tk' (hp.objs.size + 1) t1 dx _ q0 tk1 _ kp (Nat.le_succ _) hx (Nat.ne_of_gt hlt) (Nat.le_of_lt (Nat.lt_of_succ_lt hlt)) hd⟩
end
section
variable {X : Cx} {nm kd : Str} {C D fH cc cda : Addr}
def tMkH (C : Addr) (kd : Str) (ta : TA) : L2.St → Hp → XK → Prop := fun σ H Q => ta σ H fun vs H1 => ∃ v : V, vs = [v] ∧ ∀ d, H1 d = none → Q (.ref C) (some d) (upd H1 d (.xd (heFields kd)))
theorem pmk_he {e1 : Expr} {ta : TA} {p pos : Pos} {k : Nat} (T : HeC X.prog X.K X.mg nm C D fH cc cda kd) (hr : Room k X.A) (ha : PA X [e1] ta) (hg : Gl X nm := by rfl) (hdb : (nm == ("__debug__" : Str)) = false := by decide)
    (he : starEach (e1 :: []) X.env = (false, eval e1 X.env) :: starEach [] X.env := by rfl) (hpl : (backTo pos (starEach [] X.env)).any (·.1) = false := by rfl) :
    PMk X (.Call (.Name nm p) [e1] [] pos) (tMkH C kd ta) := by
  intro pins s σ H Q I h
  refine wpAny_Call_Name_kw (ld_glob I hg T.mg ?_ hdb)
  refine PySem.W.callWith_K (h₀ := X.base) I.ok.mod.kin T.kp (thn (ha.run pos pins s σ H _ I h) fun us s1 hh => ?_) he hpl
  obtain ⟨vs, H1, I1, r1, v, ev, q1⟩ := hh
  subst ev
  refine ⟨I1.kIn, ?_⟩
  obtain ⟨u1, rfl, _⟩ := vals1 r1
  show wpAny _ _ (call (.ref C) [u1]) _ _ _
  obtain ⟨mb, hmb, hbb⟩ := I.ok.mod.blt
  have M1 : Mod X.K X.mg s1.heap := ⟨I1.kIn, I1.ok.mod.glob.keeps I1.bk, ⟨mb, hmb.keeps I1.bk, hbb⟩, I1.nolimit⟩
  obtain ⟨hp, g, dr, tk, os⟩ := s1
  refine wpAny_call (he_made T.txt T.ini M1 (by have := hr.dp; omega) fun h' tk' e t1 d k1 z1 z2 n keep new hoe dne dbig hd => ?_)
  show MkP X pins σ Q (.ref e) ⟨h', g, dr, tk', os⟩
  have old : ∀ c o, hp.get? c = some o → h'.get? c = some o := keep
  have hoe : h'.get? e = some (excObj C t1 (some d) .none) := hoe
  obtain ⟨G', g1, g2⟩ := restrict h' fun c => decide (c ≠ e)
  have gk : ∀ c, c ≠ e → G'.get? c = h'.get? c := fun c hc => g1 c (decide_eq_true hc)
  have ge : G'.get? e = none := g2 e (by simp)
  have oldG : ∀ c o, hp.get? c = some o → G'.get? c = some o := fun c o q => (gk c (Nat.ne_of_lt (Nat.lt_of_lt_of_le (Heap.lt_size q) new))).trans (old c o q)
  obtain ⟨mA, hns, hrel⟩ := he_ns hd
  have ob : ObjOk X.prog X.w (upd H1 d (.xd (heFields kd))) G' d (.xd (heFields kd)) := ⟨mA, hns.at (fun o q => (gk d dne).trans q), hrel⟩
  have J : Inv X pins σ (upd H1 d (.xd (heFields kd))) ⟨G', g, dr, tk', os⟩ := I1.laid (t' := tk') oldG dbig ob
  refine ⟨e, _, _, ⟨G', g, dr, tk', os⟩, _, .ref C, some d, rfl, J, fun c o q => ?_, ge, hoe, ⟨rfl, rfl⟩, rfl, rfl, ?_, rfl, I1.bare, raises_own T.ex T.ty, q1 d (I1.hok.fresh dbig)⟩
  · by_cases hc : c = e
    · have q' : G'.get? c = some o := q
      rw [hc, ge] at q'
      exact nomatch q'
    · exact (gk c hc).symm.trans q
  · rw [upd_ne (Ne.symm dne)]
    exact I1.hok.fresh new
def tRaiseH (C : Addr) (kd : Str) (W : WX) (ta : TA) : TS := fun _ σ H => tMkH C kd ta σ H fun cls d H' => W cls d σ H'
theorem ps_raiseH {e1 : Expr} {ta : TA} {W : WX} {p pos pos2 : Pos} {k : Nat} (hc : X.calm = true) (T : HeC X.prog X.K X.mg nm C D fH cc cda kd) (hr : Room k X.A) (tk : Takes X W) (ha : PA X [e1] ta) (hg : Gl X nm := by rfl) (hdb : (nm == ("__debug__" : Str)) = false := by decide)
    (he : starEach (e1 :: []) X.env = (false, eval e1 X.env) :: starEach [] X.env := by rfl) (hpl : (backTo pos (starEach [] X.env)).any (·.1) = false := by rfl) :
    PS X (.Raise (some (.Call (.Name nm p) [e1] [] pos)) none pos2) (tRaiseH C kd W ta) := ps_raise hc tk (pmk_he T hr ha hg hdb he hpl)
/-- raise C(text): what follows of the classes -/
structure RaiseH (K : Frag) (hs C : Addr) : Prop where
  xc : ExcC K C
  fits : PySem.W.exmOne K (.ref C) (.ref hs) = some true
  base : PySem.W.kitOne K (.ref C) (.type "ValueError") = some true
end
end LH

set_option maxHeartbeats 2000000
namespace LH
open PySem PySem.Spec PySem.Calls PyProof.Rows L2
/-! ### a, *b = a list -/
/-- a walk from its k-th item on -/
theorem walks_from {prog : Program} {w : World} {A : Around} {I : Addr} {fp wr : List Addr} {G : Array GenState → Array GenState → Prop} {n : Nat} {P : Nat → Value → Prop} {St : Nat → Shared → Prop} (W : WalksS prog w A I fp wr G n P St) (k : Nat) (hk : k ≤ n) :
    WalksS prog w A I fp wr G (n - k) (fun i v => P (k + i) v) (fun i s => St (k + i) s) where
  sub := W.sub
  grefl := W.grefl
  gtrans := W.gtrans
  frame := fun i => W.frame (k + i)
  item := fun i s Q E hi st hQ => W.item (k + i) s Q E (by omega) st fun v s' p st' m => hQ v s' p st' m
  done := fun s Q E st hQ => W.done s Q E (by rw [show k + (n - k) = n by omega] at st; exact st) hQ
  self := fun i => W.self (k + i)
section
variable {prog : Program} {w : World} {A : Around} {E : Value → Shared → Prop} {s : Shared}
theorem unpack_star {l : Addr} {x : Value} {r : List Value} {Q : List Value → Shared → Prop} (hh : A.handled = none) (hl : s.heap.IsList l (x :: r).toArray) (hz : r.length ≤ sizeLine)
    (hQ : ∀ (h' : Heap) (tk : Nat) (g : Array GenState), (∀ b o, s.heap.get? b = some o → h'.get? b = some o) → g = s.gens → Q [x, .ref h'.objs.size] { s with heap := h'.push { cls := .type "list", data := .seq r.toArray }, toks := tk, gens := g }) :
    wpAny (model prog w) A (unpackItems (.ref l) 2 (some 1)) Q E s := by
  have hlt : l ≠ s.heap.objs.size := by obtain ⟨o, ho, _⟩ := hl; exact Nat.ne_of_lt (Heap.lt_size ho)
  have hlit : l < s.heap.objs.size := by obtain ⟨o, ho, _⟩ := hl; exact Heap.lt_size ho
  unfold unpackItems
  refine wpAny_bind ?_
  unfold notIterableAtAll
  refine wpAny_bind (wpAny_specialOf hl.typeIs slot_list_iter.lookup ?_)
  refine wpAny_pure ?_
  simp only [Bool.false_eq_true, if_false]
  refine wpAny_bind (wpAny_holding (wpAny_pyIter_list hl ?_))
  generalize hS0 : s.heap.objs.size = it at *
  have hk0 : ∀ b o, s.heap.get? b = some o → (s.heap.push { cls := .type "list_iterator", data := .fields #[.ref l, .int 0 0] }).get? b = some o := fun b o e => Heap.get?_push_of_some _ e
  have hsz0 : (s.heap.push { cls := .type "list_iterator", data := .fields #[.ref l, .int 0 0] }).objs.size = it + 1 := by rw [Heap.size_push, hS0]
  have hit0 : (s.heap.push { cls := .type "list_iterator", data := .fields #[.ref l, .int 0 0] }).IsListIter it l 0 := ⟨_, by rw [← hS0]; exact Heap.get?_push_size _ rfl, rfl, rfl⟩
  have hl0 : (s.heap.push { cls := .type "list_iterator", data := .fields #[.ref l, .int 0 0] }).IsList l (x :: r).toArray := hl.push _
  generalize s.heap.push { cls := .type "list_iterator", data := .fields #[.ref l, .int 0 0] } = h1 at *
  refine wpAny_bind (wpAny_holding ?_)
  show wpAny _ _ (pyNext (.ref it) >>= _) _ _ _
  refine wpAny_bind (wpAny_pyNext_list_item (s := { s with heap := h1 }) hit0 hl0 (x := x) rfl fun h2 hit2 hs2 => ?_)
  refine wpAny_bind (wpAny_holding (wpAny_pure (wpAny_pure ?_)))
  rw [if_neg (by simp)]
  have hl2 : h2.IsList l (x :: r).toArray := hl0.extBut hs2.extBut hlt
  obtain ⟨oi, hoi, _⟩ := id hit2
  obtain ⟨ol, hol, _⟩ := id hl2
  refine wpAny_bind (wpAny_holding (wpAny_collect_iter (s := { s with heap := h2 }) (T := "list_iterator") (by simp) (walks_from (Walks.list (prog := prog) (w := w) (A := A.in1) hh it l hlt (x :: r).toArray).toS 1 (by simp))
    (fun i s' st => ?_) ⟨hit2, hl2⟩ (fun b hb => by simp only [List.mem_cons, List.not_mem_nil, or_false] at hb; rcases hb with rfl | rfl <;> first | exact Heap.lt_size hoi | exact Heap.lt_size hol) (by simp) (fun s' acc mv it' => ?_) (by simpa using hz)))
  · obtain ⟨o, ho, hc, _⟩ := st.1
    exact ⟨o, ho, hc⟩
  have eacc : acc.toList = r := by
    refine List.ext_getElem ?_ fun j h1 h2 => ?_
    · rw [Array.length_toList, it'.1]
      simp
    · have hj : acc[j]? = some acc[j] := Array.getElem?_eq_getElem (by simpa using h1)
      have this : (x :: r).toArray[1 + j]? = some acc[j] := it'.2 j _ hj
      rw [show 1 + j = j + 1 by omega] at this
      simp only [List.getElem?_toArray, List.getElem?_cons_succ] at this
      rw [List.getElem?_eq_getElem h2] at this
      rw [Array.getElem_toList]
      exact (Option.some.inj this).symm
  rw [eacc]
  simp only [show (2 : Nat) - 1 - 1 = 0 from rfl, Nat.not_lt_zero, if_false, Nat.sub_zero, List.take_length, List.drop_length, List.append_nil]
  obtain ⟨hp', gs', dr', tk', os'⟩ := s'
  obtain ⟨hp, gs, dr, tk, os⟩ := s
  obtain ⟨m1, m2, m3, m4⟩ := mv
  refine wpAny_bind (wpAny_newObj_type ?_ (show r.toArray.size ≤ sizeLine by simpa using hz))
  refine wpAny_pure ?_
  have e3 : dr' = dr := m3
  have e4 : os' = os := m4
  subst e3
  subst e4
  refine hQ hp' tk' gs' (fun b o e => m1 b o (fun hm => ?_) ?_) m2
  · have hb : b < it := by rw [← hS0]; exact Heap.lt_size e
    rw [List.mem_singleton.mp hm] at hb
    exact Nat.lt_irrefl _ hb
  · have hb : b ≠ it := Nat.ne_of_lt (by rw [← hS0]; exact Heap.lt_size e)
    exact hs2.extBut b o hb (hk0 b o e)
end
def gStar1 (K : PySem.W.Frag) (ti tj : TG) : TG := fun v σ H Q => ∃ (l : Addr) (x : V) (xs : List V), v = .ref l ∧ SqL K H l (x :: xs) ∧ ∀ D, H D = none → ti x σ (upd H D (.lst xs)) fun σ' H' => tj (.ref D) σ' H' Q
theorem pg_star1 {X : Cx} {e1 e2 : Expr} {ti tj : TG} {k : Nat} {p pos : Pos} (K : PySem.W.Frag) (hc : X.calm = true) (h1 : PG X e1 ti) (h2 : PG X e2 tj) (hK : X.K = K := by rfl)
    (hs : assignEach [e1, .Starred e2 p] X.env = [(false, assign e1 X.env), (true, assign e2 X.env)] := by rfl) : PG X (.Tuple [e1, .Starred e2 p] k pos) (gStar1 K ti tj) := by
  subst hK
  refine ⟨fun pins s σ H v u Q I r hw => ?_⟩
  obtain ⟨l, x, xs, rfl, hq, hw⟩ := hw
  cases r
  obtain ⟨its, rv, ⟨o, n, ho, hcl, hdd, hd⟩, hz⟩ := I.list hq
  cases rv with
  | @cons _ x' _ xs' rx rr =>
    rw [assign_Tuple]
    refine wpAny_bind (wpAny_standAt ?_)
    unfold unpack
    rw [hs]
    refine wpAny_bind (wpAny_holding (unpack_star (I.ok.hd hc) ⟨o, ho, hcl, n, hd⟩ (by have := rr.length; simp only [List.length_cons] at hz; omega) fun h' tk g kp eg => ?_))
    subst eg
    have I1 : Inv X pins σ H { s with heap := h', toks := tk } := I.kept (t' := tk) kp
    have I2 := I1.lnew (t' := tk) rr (by simp only [List.length_cons] at hz; omega)
    refine assignInOrder_cons (thn (h1.run pins _ σ _ _ _ _ I2 rx (hw _ I1.fresh)) fun _ s1 ⟨σ1, H1, J1, q1⟩ => ?_)
    exact assignInOrder_cons (thn (h2.run pins s1 σ1 H1 (.ref h'.objs.size) _ _ J1 (show RelV (.ref h'.objs.size) (.ref h'.objs.size) from rfl) q1) fun _ s2 ⟨σ2, H2, J2, q2⟩ => assignInOrder_nil ⟨σ2, H2, J2, q2⟩)
/-! ### xs == []: a list of another length, a dict -/
theorem list_eq_dict (l : Addr) (items : Array Value) (n : Nat) (b : Addr) (dd : Option Addr) (es : Array DictEntry) (ep : Nat) (sl : Array (Option Value)) :
    Meets (Builtin.«list.__eq__» ⟨[.ref l, .ref b], []⟩) (fun _ R s => s.heap.get? l = some { cls := .type "list", dict := none, data := .seq items n, slots := #[] } ∧ s.heap.get? b = some { cls := .type "dict", dict := dd, data := .dict es ep, slots := sl } ∧ R (.ok (.ret Value.notImplemented)) s) :=
  .of_wp fun prog w A R s h => by
    obtain ⟨hp, g, d, tk, os⟩ := s
    obtain ⟨hl, hb, h⟩ := h
    have f1 := F.sub_dict_list
    wp_walk using wpAny_loadPart' hl, wpAny_loadPart' hb
    exact ⟨_, rfl, h⟩
theorem dict_eq_list (l : Addr) (items : Array Value) (n : Nat) (b : Addr) (dd : Option Addr) (es : Array DictEntry) (ep : Nat) (sl : Array (Option Value)) :
    Meets (Builtin.«dict.__eq__» ⟨[.ref b, .ref l], []⟩) (fun _ R s => s.heap.get? l = some { cls := .type "list", dict := none, data := .seq items n, slots := #[] } ∧ s.heap.get? b = some { cls := .type "dict", dict := dd, data := .dict es ep, slots := sl } ∧ R (.ok (.ret Value.notImplemented)) s) :=
  .of_wp fun prog w A R s h => by
    obtain ⟨hp, g, d, tk, os⟩ := s
    obtain ⟨hl, hb, h⟩ := h
    have f1 := F.sub_list_dict
    wp_walk using wpAny_loadPart' hb, wpAny_loadPart' hl
    exact ⟨_, rfl, h⟩
/-- x == []: data, a list, or a dict -/
def rEqE (K : PySem.W.Frag) : R2 := fun x y H Q => rEqD K x y H Q ∨ (∃ (a b : Addr) (xs ys : List V), x = .ref a ∧ y = .ref b ∧ H a = some (.lst xs) ∧ H b = some (.lst ys) ∧ xs.length ≠ ys.length ∧ Q (.bl false) H) ∨
  ∃ (a b : Addr) (kvs : List (Key × V)) (ys : List V), x = .ref a ∧ y = .ref b ∧ H a = some (.dK kvs) ∧ H b = some (.lst ys) ∧ Q (.bl false) H
theorem op_eqE {X : Cx} (K : PySem.W.Frag) (hu : X.A.units + 64 < cLine) (hK : X.K = K := by rfl) : OpR X (compareOp .Eq) (rEqE K) := by
  intro pins s σ H x y v u Q I rx ry h
  rcases h with h | ⟨a, b, xs, ys, rfl, rfl, ea, eb, hne, q⟩ | ⟨a, b, kvs, ys, rfl, rfl, ea, eb, q⟩
  · exact oEqD K hu hK pins s σ H x y v u Q I rx ry h
  · obtain rfl : v = Value.ref a := rx
    obtain rfl : u = Value.ref b := ry
    obtain ⟨z1, ia, na, ra, la, ga⟩ := I.lstM ea
    obtain ⟨z2, ib, nb, rb, lb, gb⟩ := I.lstM eb
    exact P.eq_list_lengths ga gb (by simp only [List.size_toArray, bne_iff_ne]; omega) (by omega) ⟨.bl false, H, I, rfl, q⟩
  · obtain rfl : v = Value.ref a := rx
    obtain rfl : u = Value.ref b := ry
    obtain ⟨z2, ib, nb, rb, lb, gb⟩ := I.lstM eb
    obtain ⟨_, _, vs, _, o, es, ep, ga, hx, hd, _⟩ := (show ObjOk X.prog X.w H s.heap a (.dK kvs) from I.hok a _ ea)
    obtain ⟨oc, odc, odt, osl⟩ := o
    obtain ⟨h1, h2, h3⟩ := hx
    dsimp only at h1 h2 h3 hd
    subst h1
    subst h2
    subst h3
    subst hd
    have hab : a ≠ b := fun e => by
      have z := congrArg Obj.cls (Option.some.inj (gb.symm.trans (e ▸ ga)))
      exact absurd (show Value.type "list" = Value.type "dict" from z) (by decide)
    show wpAny _ _ (richCompare .Eq (.ref a) (.ref b)) _ _ _
    refine SeqAt.rc_eq_decline_or (Ta := "dict") (Tb := "list") (k := false) ⟨_, ga, rfl⟩ ⟨_, gb, rfl⟩ (by decide) F.sub_list_dict F.slot_dict_eq F.slot_list_eq_refl (fun Q' hq => ?_) (fun Q' hq => ?_) (fun Q' hq => SeqAt.wpAny_isSame_ref_other' hab ga gb (show Value.type "list" ≠ Value.type "tuple" by decide) hq) (.inr (by omega)) ⟨.bl false, H, I, rfl, q⟩
    · exact call_meets F.slot_dict_eq ⟨_, ga, rfl⟩ F.entry_dict_eq (F.args_dict_eq_2 _ _) (dict_eq_list b ib.toArray nb a none es ep #[]) ⟨gb, ga, hq⟩
    · exact call_meets F.slot_list_eq_refl ⟨_, gb, rfl⟩ F.entry_list_eq (F.args_list_eq_2 _ _) (list_eq_dict b ib.toArray nb a none es ep #[]) ⟨gb, ga, hq⟩
/-- a thing that is no empty list, as == tells it -/
def NotNil (K : PySem.W.Frag) (H : Hp) (x : V) : Prop := (∃ d, (∀ H', Same H H' → Dp K H' x d) ∧ SeqAt.shaped d = true ∧ PyData.eqv d (.list []) = false) ∨ (∃ (a : Addr) (xs : List V), x = .ref a ∧ H a = some (.lst xs) ∧ xs ≠ []) ∨ ∃ (a : Addr) (kvs : List (Key × V)), x = .ref a ∧ H a = some (.dK kvs)
theorem NotNil.eq {K : PySem.W.Frag} {H : Hp} {x : V} {p : Addr} {Q : VK} (h : NotNil K H x) (np : H p = none) (q : Q (.bl false) (upd H p (.lst []))) : rEqE K x (.ref p) (upd H p (.lst [])) Q := by
  have s := same_upd (o := .lst []) np
  rcases h with ⟨d, hd, hs, he⟩ | ⟨a, xs, rfl, ea, hne⟩ | ⟨a, kvs, rfl, ea⟩
  · exact .inl ⟨d, .list [], hd _ s, .lst (.inl (.inl upd_same)) .nil, hs, rfl, by rw [he]; exact q⟩
  · exact .inr (.inl ⟨a, p, xs, [], rfl, rfl, s _ _ ea, upd_same, fun e => hne (List.length_eq_zero_iff.mp e), q⟩)
  · exact .inr (.inr ⟨a, p, kvs, [], rfl, rfl, s _ _ ea, upd_same, q⟩)
end LH

set_option maxHeartbeats 2000000
namespace LH
open PySem PySem.Spec PySem.Calls PyProof.Rows L2 Builtin Builtin.Str Builtin.Int Builtin.Float
/-! ### a number by two or four figures -/
theorem dig_char : ∀ d : Fin 10, (Nat.digitChar d.val).toNat = 48 + d.val := by decide
def digs (n : Nat) : List Nat := (Nat.toDigits 10 n).map fun c => (if (100 : Nat) == 88 then c.toUpper else c).toNat
theorem digs_lt {n : Nat} (h : n < 10) : digs n = [48 + n] := by
  unfold digs
  rw [Nat.toDigits_of_lt_base h]
  exact congrArg (fun x => [x]) (dig_char ⟨n, h⟩)
theorem digs_ge {n : Nat} (h : 10 ≤ n) : digs n = digs (n / 10) ++ [48 + n % 10] := by
  unfold digs
  rw [Nat.toDigits_of_base_le (by decide) h, List.map_append]
  exact congrArg (fun x => _ ++ [x]) (dig_char ⟨n % 10, Nat.mod_lt _ (by decide)⟩)
theorem dec4_eq {n : Nat} (h : n < 10000) : decT 4 ((n : Nat) : Int) = ⟨#[48 + n / 1000, 48 + n / 100 % 10, 48 + n / 10 % 10, 48 + n % 10]⟩ := by
  have key : ∀ a b c d : Nat, digs n = [d] ∧ a = 48 ∧ b = 48 ∧ c = 48 ∨ digs n = [c, d] ∧ a = 48 ∧ b = 48 ∨ digs n = [b, c, d] ∧ a = 48 ∨ digs n = [a, b, c, d] → decT 4 ((n : Nat) : Int) = ⟨#[a, b, c, d]⟩ := by
    intro a b c d hk
    unfold decT
    rw [show decide (((n : Nat) : Int) < 0) = false from decide_eq_false (by omega), show ((n : Nat) : Int).natAbs = n from rfl]
    show intField' (decF 4) false [] (digs n) [] 3 = _
    rcases hk with ⟨h, rfl, rfl, rfl⟩ | ⟨h, rfl, rfl⟩ | ⟨h, rfl⟩ | h <;> rw [h] <;> rfl
  refine key _ _ _ _ ?_
  by_cases h1 : n < 10
  · exact .inl ⟨by rw [digs_lt h1, show n % 10 = n by omega], by omega, by omega, by omega⟩
  · by_cases h2 : n < 100
    · exact .inr (.inl ⟨by rw [digs_ge (by omega), digs_lt (by omega)]; simp; omega, by omega, by omega⟩)
    · by_cases h3 : n < 1000
      · refine .inr (.inr (.inl ⟨?_, by omega⟩))
        rw [digs_ge (by omega), digs_ge (by omega), digs_lt (by omega)]
        simp
        omega
      · refine .inr (.inr (.inr ?_))
        rw [digs_ge (by omega), digs_ge (by omega), digs_ge (by omega), digs_lt (by omega)]
        simp
        omega
set_option maxHeartbeats 4000000 in
theorem fmt_dec2 {n : Nat} (h : n < 100) : FmtI (Str.ofString "02d") ((n : Nat) : Int) ⟨#[48 + n / 10, 48 + n % 10]⟩ := by
  intro prog w A E s t Q q
  have hlen : (decT 2 ((n : Nat) : Int)).length ≤ sizeLine := by rw [dec2_eq h, sizeLine_eq]; show 2 ≤ 16777216; decide
  rw [← dec2_eq h] at q
  refine PySem.W.KXf.field_int (spec' := Str.ofString "02d") (y := decT 2 ((n : Nat) : Int)) rfl (by decide +kernel) (by decide +kernel) ?_ q
  intro _
  apply PySem.W.KPc.meets_of
  intro _ _ _ _ _ _ _
  unfold Builtin.«int.__format__»
  refine wpAny_bind (wpAny_of_eq (a := (_, _)) rfl ?_)
  refine wpAny_bind (wpAny_of_eq (a := _) rfl ?_)
  kxf_if
  refine wpAny_bind (wpAny_typeNameOf (T := "str") (typeIs_str _ _ _) (by decide) fun _ => ?_)
  refine wpAny_bind (wpAny_of_eq (a := some _) rfl ?_)
  kxf_if
  kxf_if
  refine wpAny_bind (wpAny_typeNameOfCut_int ?_)
  simp only [dec2_parse, decF]
  (repeat kxf_if)
  have hlog : ((n : Nat) : Int).natAbs.log2 < 1920 := by
    rw [Int.natAbs_natCast]
    by_cases h0 : n = 0
    · rw [h0]; decide
    · have : n.log2 < 20 := (Nat.log2_lt h0).mpr (by omega)
      omega
  refine wpAny_bind (m := Builtin.overDigitLimit? ((n : Nat) : Int)) (wpAny_of_eq (PySem.overDigitLimit_small hlog) ?_)
  refine PySem.W.KXf.ret_text (T := decT 2 ((n : Nat) : Int)) rfl hlen ?_
  assumption
set_option maxHeartbeats 4000000 in
theorem fmt_dec4 {n : Nat} (h : n < 10000) : FmtI (Str.ofString "04d") ((n : Nat) : Int) ⟨#[48 + n / 1000, 48 + n / 100 % 10, 48 + n / 10 % 10, 48 + n % 10]⟩ := by
  intro prog w A E s t Q q
  have hlen : (decT 4 ((n : Nat) : Int)).length ≤ sizeLine := by rw [dec4_eq h, sizeLine_eq]; show 4 ≤ 16777216; decide
  rw [← dec4_eq h] at q
  refine PySem.W.KXf.field_int (spec' := Str.ofString "04d") (y := decT 4 ((n : Nat) : Int)) rfl (by decide +kernel) (by decide +kernel) ?_ q
  intro _
  apply PySem.W.KPc.meets_of
  intro _ _ _ _ _ _ _
  unfold Builtin.«int.__format__»
  refine wpAny_bind (wpAny_of_eq (a := (_, _)) rfl ?_)
  refine wpAny_bind (wpAny_of_eq (a := _) rfl ?_)
  kxf_if
  refine wpAny_bind (wpAny_typeNameOf (T := "str") (typeIs_str _ _ _) (by decide) fun _ => ?_)
  refine wpAny_bind (wpAny_of_eq (a := some _) rfl ?_)
  kxf_if
  kxf_if
  refine wpAny_bind (wpAny_typeNameOfCut_int ?_)
  simp only [dec4_parse, decF]
  (repeat kxf_if)
  have hlog : ((n : Nat) : Int).natAbs.log2 < 1920 := by
    rw [Int.natAbs_natCast]
    by_cases h0 : n = 0
    · rw [h0]; decide
    · have : n.log2 < 20 := (Nat.log2_lt h0).mpr (by omega)
      omega
  refine wpAny_bind (m := Builtin.overDigitLimit? ((n : Nat) : Int)) (wpAny_of_eq (PySem.overDigitLimit_small hlog) ?_)
  refine PySem.W.KXf.ret_text (T := decT 4 ((n : Nat) : Int)) rfl hlen ?_
  assumption
/-! ### x in a text or a list -/
def rInBoth (K : PySem.W.Frag) : R2 := fun x y H Q => (∃ (c : Nat) (z : Str), x = .str ⟨#[c]⟩ ∧ y = .str z ∧ Q (.bl (decide (c ∈ z.cps.toList))) H) ∨ rIn K false x y H Q
theorem op_inBoth {X : Cx} (K : PySem.W.Frag) (hK : X.K = K := by rfl) : OpR X (compareOp .In) (rInBoth K) := fun pins s σ H x y v u Q I rx ry h => h.elim (fun h => op_in_sign pins s σ H x y v u Q I rx ry h) (fun h => oIn K hK pins s σ H x y v u Q I rx ry h)
/-- a method as its callers see it -/
structure DefM (P : Program) (w : World) (K : PySem.W.Frag) (mg : Str → Option Value) (base : Heap) (C : Addr) (m : Str) (k : Nat) (f : Addr) (fd : FuncData) (ps : List Str) (sp : Sp) : Prop where
  c : Cls K C
  hm : Meth K C m f
  ok : FnOk P w K mg base CX0 k f fd ps sp
  bd : Binds K fd ps []
/-- a class that is called -/
structure DefC (P : Program) (w : World) (K : PySem.W.Frag) (mg : Str → Option Value) (base : Heap) (x : Str) (C : Addr) (k : Nat) (f : Addr) (fd : FuncData) (ps : List Str) (sp : Sp) : Prop where
  make : Mk K C f
  ok : FnOk P w K mg base CX0 k f fd ps sp
  mg : mg x = some (.ref C)
  bd : Binds K fd ps []
/-- all but the object at a stays -/
def SameBut (a : Addr) (H H' : Hp) : Prop := ∀ b o, b ≠ a → H b = some o → H' b = some o
theorem SameBut.refl (a : Addr) (H : Hp) : SameBut a H H := fun _ _ _ e => e
theorem SameBut.trans {a : Addr} {H H' H2 : Hp} (h : SameBut a H H') (g : SameBut a H' H2) : SameBut a H H2 := fun b o hb e => g b o hb (h b o hb e)
theorem SameBut.of {a : Addr} {H H' : Hp} (h : Same H H') : SameBut a H H' := fun b o _ e => h b o e
theorem SameBut.upd (a : Addr) (H : Hp) (o : HO) : SameBut a H (upd H a o) := fun b u hb e => by rw [upd_ne hb]; exact e
end LH

namespace LH
open PySem PySem.Spec PyProof.Rows L2 Builtin Builtin.Str PySem.StrLaws
/-! ### a text of which nothing is left when some signs are taken from its ends -/
theorem has_mem (y : Str) (c : Nat) : y.cps.contains c = decide (c ∈ TL.tl y) := by
  show y.cps.contains c = decide (c ∈ y.cps.toList)
  simp
theorem strip_none (x y : Str) : (Txt.stripChars x y = ⟨#[]⟩) ↔ (TL.tl x).all (fun c => decide (c ∈ TL.tl y)) = true := by
  have hl : x.cps.toList.length = x.length := by simp [Str.length]
  unfold Txt.stripChars
  rw [stripBy_eq]
  obtain ⟨l1, l2, l3⟩ := lo_facts y.cps.contains x
  obtain ⟨h1, h2, h3, h4⟩ := hi_facts y.cps.contains x (stripLo y.cps.contains true x) l1
  generalize stripLo y.cps.contains true x = lo at *
  generalize stripHi y.cps.contains true x lo = hi at *
  have hs : (strSub x lo hi).cps.toList = (x.cps.toList.drop lo).take (hi - lo) := strSub_toList ..
  have hg : ∀ k, k < x.length → (x.cps.getD k 0) ∈ x.cps.toList := fun k hk => by
    rw [← getD_list, List.getD_eq_getElem?_getD, List.getElem?_eq_getElem (by rw [hl]; exact hk)]
    exact List.getElem_mem _
  rw [List.all_eq_true]
  constructor
  · intro e c hc
    have e0 : (x.cps.toList.drop lo).take (hi - lo) = [] := by rw [← hs, e]
    have e1 : hi = lo := by
      have := congrArg List.length e0
      rw [List.length_take, List.length_drop, hl, List.length_nil] at this
      omega
    have hc' : c ∈ x.cps.toList := hc
    obtain ⟨k, hk, e2⟩ := List.getElem_of_mem hc'
    have ek : c = x.cps.getD k 0 := by
      rw [← getD_list, List.getD_eq_getElem?_getD, List.getElem?_eq_getElem hk, ← e2]; rfl
    rw [hl] at hk
    rw [← has_mem, ek]
    by_cases hkl : k < lo
    · exact l2 k hkl
    · exact h3 k (by omega) hk
  · intro ha
    have hb : ∀ k, k < x.length → y.cps.contains (x.cps.getD k 0) = true := fun k hk => by rw [has_mem]; exact ha _ (hg k hk)
    have : lo = x.length := by
      rcases l3 with h | h
      · exact h
      · by_cases hlt : lo < x.length
        · rw [hb lo hlt] at h; cases h
        · omega
    have e : (x.cps.toList.drop lo).take (hi - lo) = [] := by
      apply List.eq_nil_of_length_eq_zero
      rw [List.length_take, List.length_drop, hl]; omega
    apply TL.ext_tl
    show (strSub x lo hi).cps.toList = []
    rw [hs, e]
theorem strip_eq (x y : Str) : decide (V.str (Txt.stripChars x y) = V.str (Str.ofString "")) = (TL.tl x).all (fun c => decide (c ∈ TL.tl y)) := by
  have e0 : (Str.ofString "") = ⟨#[]⟩ := by decide +kernel
  rw [e0]
  by_cases h : (TL.tl x).all (fun c => decide (c ∈ TL.tl y)) = true
  · rw [h, decide_eq_true (congrArg V.str ((strip_none x y).mpr h))]
  · rw [Bool.not_eq_true] at h
    rw [h, decide_eq_false (fun e => by rw [(strip_none x y).mp (V.str.inj e)] at h; cases h)]
end LH

namespace LH
open PySem PySem.Spec PyProof.Rows L2
/-! ### the sum of a tuple of whole numbers; a slice of a tuple, the whole of it too -/
def rSumT (K : PySem.W.Frag) : List V → Hp → VK → Prop := fun vs H Q => ∃ (a : Addr) (ns : List Int), vs = [V.ref a] ∧ SqT K H a (ns.map V.int) ∧ Q (.int ns.sum) H
theorem cr_sumT {X : Cx} (hc : X.calm = true) : CallR X (.builtin "sum") (rSumT X.K) := by
  intro pins s σ H vs us Q I r h
  obtain ⟨a, ns, rfl, hs, q⟩ := h
  obtain ⟨its, rv, hl, _⟩ := I.tuple hs
  rw [Vals.ref1 r]
  obtain ⟨xs, e⟩ := rv.ints.allInts.items
  have hn : numsOf (intItems xs).toList = ns := by rw [← e]; exact rv.ints.numsOf
  rw [nums_intItems] at hn
  rw [e] at hl
  refine PySem.W.ktm_sumG (I.ok.hd hc) hl fun h' tk t' hk => ?_
  have : preSum (numAt xs) xs.size = ns.sum := by rw [preSum_eq, List.take_of_length_le (by simp), hn]
  rw [this]
  exact ⟨.int _, H, I.kept hk, ⟨_, rfl⟩, q⟩
theorem sumT (K : PySem.W.Frag) {X : Cx} (hc : X.calm = true) (h : X.K = K := by rfl) : CallR X (.builtin "sum") (rSumT K) := h ▸ cr_sumT hc
theorem slA (K : PySem.W.Frag) {X : Cx} (h : X.K = K := by rfl) : SlR X (rSlA K) := h ▸ sl_tupA
end LH

namespace LH
open PySem PySem.Spec PyProof.Rows L2
/-! ### whether a thing is in a list of data -/
theorem inD (K : PySem.W.Frag) {X : Cx} (hu : X.A.units + 65 < cLine) (h : X.K = K := by rfl) : OpR X (compareOp .In) (rInD K) := h ▸ op_inD hu
end LH

namespace LH
open PySem PySem.Spec PyProof.Rows L2
/-! ### a comprehension whose elements are new lists; one over two clauses, the second over lists that stand -/
theorem lc_two2 {K : PySem.W.Frag} {J : It} {n : Nat} {G : Hp → Prop} {wi1 : TI} {te : TE} {c c1 : Nat} {σ : L2.St} {H1 : Hp} {D : Addr} {Qd : Hp → Prop} (xs : Nat → V) (ys : Nat → List V) (f : Nat → Nat → V) (hne : c ≠ c1) (w : Walk J n G (YFn xs)) (hG : ∀ H, Same H1 H → G H) (hD : H1 D = none)
    (hn : ∀ i, i ≤ n → (((List.range i).map fun i => (List.range (ys i).length).map (f i)).flatten).length ≤ sizeLine)
    (hi : ∀ i H (R : It → Hp → Prop), i < n → Same H1 H → (∀ H' p, Same H H' → p ≠ D → H' p = some (.lst (ys i)) → R (Itl K p) H') → wi1 (((σ.set c1 none).set c none).set c (some (xs i))) H R)
    (he : ∀ i j H Q, i < n → j < (ys i).length → Same H1 H → Tell H (f i j) Q → te (((((σ.set c1 none).set c none).set c (some (xs i))).set c1 none).set c1 (some ((ys i).getD j .non))) H Q)
    (hd : ∀ H, Same H1 H → H D = some (.lst (((List.range n).map fun i => (List.range (ys i).length).map (f i)).flatten)) → Qd H) :
    ∃ W : Nat → Nat → Hp → Prop, (∃ m, W 0 m (upd H1 D (.lst []))) ∧ ∀ i m H, W i m H →
      (J.stop i H ∧ Qd H) ∨ (J.go i H ∧ ∃ Nx : Hp → Prop, (∀ H', Nx H' → ∃ m', m' < m ∧ W (i + 1) m' H') ∧ ∀ x H', J.yld i H x H' → gName c x (wipe σ [c, c1]) H' fun σ2 H2 => wipe σ2 [c, c1] = wipe σ [c, c1] ∧ tYes σ2 H2 fun b H3 =>
        if b = true then wi1 σ2 H3 fun J1 H4 => ∃ W1 : Nat → Nat → Hp → Prop, (∃ m, W1 0 m H4) ∧ ∀ j k H, W1 j k H →
          (J1.stop j H ∧ Nx H) ∨ (J1.go j H ∧ ∃ Nx1 : Hp → Prop, (∀ H', Nx1 H' → ∃ k', k' < k ∧ W1 (j + 1) k' H') ∧ ∀ x H', J1.yld j H x H' → gName c1 x (wipe σ2 [c1]) H' fun σ3 H5 => wipe σ3 [c1] = wipe σ2 [c1] ∧ tYes σ3 H5 fun b H6 =>
            if b = true then te σ3 H6 fun y H7 => ∃ acc, H7 D = some (.lst acc) ∧ acc.length < sizeLine ∧ Nx1 (upd H7 D (.lst (acc ++ [y]))) else Nx1 H6)
        else Nx H3) := by
  let A : Nat → List V := fun i => ((List.range i).map fun i => (List.range (ys i).length).map (f i)).flatten
  have hA : ∀ i, A (i + 1) = A i ++ (List.range (ys i).length).map (f i) := fun i => by
    show ((List.range (i + 1)).map _).flatten = _
    rw [List.range_succ, List.map_append, List.flatten_append]
    simp [A]
  refine ⟨fun i m H => m = n - i ∧ i ≤ n ∧ Same H1 H ∧ H D = some (.lst (A i)), ⟨n, by simp, Nat.zero_le _, same_upd hD, upd_same⟩, ?_⟩
  rintro i m H ⟨rfl, hin, sm, eD⟩
  have q := hG H sm
  by_cases hlt : i < n
  · refine .inr ⟨w.goes i H hlt q, fun H' => Same H1 H' ∧ H' D = some (.lst (A (i + 1))), fun H' p' => ⟨n - (i + 1), by omega, rfl, hlt, p'⟩, fun x H' y => ?_⟩
    obtain ⟨rfl, rfl⟩ := w.yields i H x H' hlt q y
    refine ⟨?_, ?_⟩
    · show (((((σ.set c1 none).set c none).set c (some (xs i))).set c1 none).set c none) = (σ.set c1 none).set c none
      rw [List.set_set, List.set_comm _ _ hne]
      simp only [List.set_set]
    · unfold tYes
      dsimp only
      rw [if_pos rfl]
      refine hi i H' _ hlt sm fun H4 p s4 hpD ep => ?_
      have hl := hn (i + 1) hlt
      refine ⟨fun j k H => k = (ys i).length - j ∧ j ≤ (ys i).length ∧ Same H1 H ∧ H p = some (.lst (ys i)) ∧ H D = some (.lst (A i ++ ((List.range j).map (f i)))), ⟨(ys i).length, by simp, Nat.zero_le _, sm.trans s4, ep, by simpa using s4 _ _ eD⟩, ?_⟩
      rintro j k H5 ⟨rfl, hj, s5, e5, eD5⟩
      by_cases hjl : j < (ys i).length
      · refine .inr ⟨⟨ys i, (ys i)[j], .inl (.inl e5), by simp [hjl]⟩, fun H' => Same H1 H' ∧ H' p = some (.lst (ys i)) ∧ H' D = some (.lst (A i ++ ((List.range (j + 1)).map (f i)))), fun H' p' => ⟨(ys i).length - (j + 1), by omega, rfl, hjl, p'⟩, fun x H6 y => ?_⟩
        obtain ⟨rfl, hx⟩ := y
        have hx := hx (ys i) (.inl (.inl e5))
        have ex : x = (ys i).getD j .non := by rw [List.getD_eq_getElem?_getD, hx]; rfl
        subst ex
        refine ⟨?_, ?_⟩
        · show (((((((σ.set c1 none).set c none).set c (some (xs i))).set c1 none).set c1 (some ((ys i).getD j .non)))).set c1 none) = (((σ.set c1 none).set c none).set c (some (xs i))).set c1 none
          rw [List.set_set, List.set_set]
        · rw [if_pos rfl]
          refine he i j H6 _ hlt hjl s5 fun H7 s7 => ⟨_, s7 _ _ eD5, ?_, ?_, ?_, ?_⟩
          · have e1 : (A (i + 1)).length ≤ sizeLine := hl
            rw [hA, List.length_append, List.length_map, List.length_range] at e1
            rw [List.length_append, List.length_map, List.length_range]
            omega
          · intro b o hb
            rw [upd_ne (ne_of_none hb hD)]
            exact s7 _ _ (s5 _ _ hb)
          · rw [upd_ne hpD]
            exact s7 _ _ e5
          · rw [upd_same, List.range_succ, List.map_append, List.append_assoc]
            rfl
      · have hj2 : j = (ys i).length := by omega
        subst hj2
        refine .inl ⟨⟨ys i, .inl (.inl e5), Nat.le_refl _⟩, s5, ?_⟩
        rw [hA]
        exact eD5
  · have e : i = n := by omega
    subst e
    exact .inl ⟨w.stops H q, hd H sm eD⟩
theorem lc_news {J : It} {n : Nat} {G : Hp → Prop} {te : TE} {c : Nat} {σ : L2.St} {H1 : Hp} {D : Addr} {Qd : Hp → Prop} (xs : Nat → V) (ys : Nat → List V) (w : Walk J n G (YFn xs)) (hG : ∀ H, Same H1 H → G H) (hD : H1 D = none) (hn : n ≤ sizeLine)
    (he : ∀ i H Q, i < n → Same H1 H → New H (ys i) Q → te ((σ.set c none).set c (some (xs i))) H Q)
    (hd : ∀ H (us : List Addr), Same H1 H → us.length = n → (∀ i, i < n → us.getD i 0 ≠ D ∧ H (us.getD i 0) = some (.lst (ys i))) → H D = some (.lst (us.map V.ref)) → Qd H) :
    ∃ W : Nat → Nat → Hp → Prop, (∃ m, W 0 m (upd H1 D (.lst []))) ∧ ∀ i m H, W i m H →
      (J.stop i H ∧ Qd H) ∨ (J.go i H ∧ ∃ Nx : Hp → Prop, (∀ H', Nx H' → ∃ m', m' < m ∧ W (i + 1) m' H') ∧ ∀ x H', J.yld i H x H' → gName c x (wipe σ [c]) H' fun σ2 H2 => wipe σ2 [c] = wipe σ [c] ∧ tYes σ2 H2 fun b H3 =>
        if b = true then te σ2 H3 fun y H4 => ∃ acc, H4 D = some (.lst acc) ∧ acc.length < sizeLine ∧ Nx (upd H4 D (.lst (acc ++ [y]))) else Nx H3) := by
  refine lc_it w (fun i H => Same H1 H ∧ ∃ us : List Addr, us.length = i ∧ (∀ j, j < i → us.getD j 0 ≠ D ∧ H (us.getD j 0) = some (.lst (ys j))) ∧ H D = some (.lst (us.map V.ref))) ⟨same_upd hD, [], rfl, fun j hj => absurd hj (Nat.not_lt_zero j), upd_same⟩ (fun i H _ h => hG H h.1) (fun i x H H' hi hP hy => ?_) (fun H h => by
    obtain ⟨sm, us, hl, hu, e⟩ := h
    exact hd H us sm hl hu e)
  obtain ⟨sm, us, hl, hu, eD⟩ := hP
  obtain ⟨rfl, rfl⟩ := hy
  refine ⟨?_, ?_⟩
  rotate_left
  · unfold tYes
    dsimp only
    rw [if_pos rfl]
    refine he i H' _ hi sm fun H3 p s3 np e3 => ⟨_, s3 _ _ eD, ?_, ?_, us ++ [p], ?_, ?_, ?_⟩
    · rw [List.length_map]; omega
    · intro b' o hb'
      rw [upd_ne (ne_of_none hb' hD)]
      exact s3 _ _ (sm _ _ hb')
    · rw [List.length_append, hl]; rfl
    · intro j hj
      by_cases hj2 : j < i
      · rw [getD_app_l _ _ _ (by omega)]
        refine ⟨(hu j hj2).1, ?_⟩
        rw [upd_ne (hu j hj2).1]
        exact s3 _ _ (hu j hj2).2
      · have : j = i := by omega
        subst this
        rw [getD_app_r _ _ _ (by omega), hl, Nat.sub_self]
        have hpD : p ≠ D := fun e => by rw [e, eD] at np; exact nomatch np
        refine ⟨hpD, ?_⟩
        show upd H3 D _ p = _
        rw [upd_ne hpD]
        exact e3
    · rw [upd_same, List.map_append]
      rfl
  · show (((σ.set c none).set c (some (xs i))).set c none) = σ.set c none
    rw [List.set_set, List.set_set]
/-! ### lists of lists of ints as data -/
def dLists (ls : List (List Int)) : List PyData := ls.map fun b => .list (b.map PyData.int)
theorem lay_ints (b : List Int) : PyData.canLayAll0 (b.map PyData.int) = true := by
  induction b with
  | nil => simp [PyData.canLayAll0]
  | cons x r ih => simp [PyData.canLayAll0, PyData.canLay0, ih]
theorem depth_ints (b : List Int) : PyData.depthAll (b.map PyData.int) = 0 := by
  induction b with
  | nil => rfl
  | cons x r ih => simp [PyData.depthAll, PyData.depth, ih]
theorem lay_lists (ls : List (List Int)) : PyData.canLayAll0 (dLists ls) = true := by
  induction ls with
  | nil => simp [dLists, PyData.canLayAll0]
  | cons x r ih =>
    show PyData.canLayAll0 (.list (x.map PyData.int) :: dLists r) = true
    simp [PyData.canLayAll0, PyData.canLay0, lay_ints, ih]
theorem depth_lists (ls : List (List Int)) : PyData.depthAll (dLists ls) ≤ 1 := by
  induction ls with
  | nil => simp [dLists, PyData.depthAll]
  | cons x r ih =>
    show PyData.depthAll (.list (x.map PyData.int) :: dLists r) ≤ 1
    simp [PyData.depthAll, PyData.depth, depth_ints]
    omega
theorem shaped_lists (ls : List (List Int)) : SeqAt.shaped (.list (dLists ls)) = true := by
  have := depth_lists ls
  simp [SeqAt.shaped, PyData.canLay0, PyData.depth, lay_lists]
  omega
theorem any_none (ls : List (List Int)) : ((dLists ls).any fun z => PyData.eqv z .none) = false := by
  induction ls with
  | nil => rfl
  | cons x r ih =>
    show (PyData.eqv (.list (x.map PyData.int)) .none || ((dLists r).any fun z => PyData.eqv z .none)) = false
    rw [ih]
    simp [PyData.eqv]
theorem dpAll_refs {K : PySem.W.Frag} {H : Hp} : ∀ (us : List Addr) (ls : List (List Int)), us.length = ls.length → (∀ i, i < us.length → H (us.getD i 0) = some (.lst ((ls.getD i []).map V.int))) → DpAll K H (us.map V.ref) (dLists ls)
  | [], [], _, _ => .nil
  | u :: us, l :: ls, hl, h => .cons (dp_ints (.inl (.inl (h 0 (Nat.zero_lt_succ _))))) (dpAll_refs us ls (Nat.succ.inj hl) fun i hi => h (i + 1) (Nat.succ_lt_succ hi))
  | [], _ :: _, hl, _ => nomatch hl
  | _ :: _, [], hl, _ => nomatch hl
/-- a list of None -/
def dNones (n : Nat) : List PyData := List.replicate n .none
theorem dpAll_nones {K : PySem.W.Frag} {H : Hp} : ∀ n : Nat, DpAll K H (List.replicate n V.non) (dNones n)
  | 0 => .nil
  | n + 1 => .cons .non (dpAll_nones n)
theorem lay_nones (n : Nat) : PyData.canLayAll0 (dNones n) = true := by
  induction n with
  | zero => simp [dNones, PyData.canLayAll0]
  | succ n ih =>
    show PyData.canLayAll0 (.none :: dNones n) = true
    simp [PyData.canLayAll0, PyData.canLay0, ih]
theorem depth_nones (n : Nat) : PyData.depthAll (dNones n) = 0 := by
  induction n with
  | zero => simp [dNones, PyData.depthAll]
  | succ n ih =>
    show PyData.depthAll (.none :: dNones n) = 0
    simp [PyData.depthAll, PyData.depth, ih]
theorem shaped_nones (n : Nat) : SeqAt.shaped (.list (dNones n)) = true := by
  simp [SeqAt.shaped, PyData.canLay0, PyData.depth, lay_nones, depth_nones]
theorem any_nones (n : Nat) : ((dNones n).any fun z => PyData.eqv z .none) = decide (n ≠ 0) := by
  cases n with
  | zero => rfl
  | succ n =>
    show (PyData.eqv .none .none || _) = _
    simp [PyData.eqv]
end LH

namespace LH
open PySem PySem.Spec PySem.Calls PyProof.Rows L2
/-! ### a call of what an expression holds, where the def that stands there may raise -/
/-- at f stands a def of the promise sp, that may let out -/
def FnVX (P : Program) (w : World) (K : PySem.W.Frag) (mg : Str → Option Value) (base : Heap) (k : Nat) (f : Addr) (sp : Sp) : Prop := ∃ (fd : FuncData) (ps : List Str), FnOk P w K mg base (L2.CX P w) k f fd ps sp ∧ PySem.W.keepIn K (.ref f) = true ∧ Binds K fd ps []
def tCallVX (P : Program) (w : World) (K : PySem.W.Frag) (mg : Str → Option Value) (base : Heap) (k : Nat) (E : L2.St → XK) (tv : TE) (t : TA) : TE := fun σ H Q => tv σ H fun v H1 => ∃ (f : Addr) (sp : Sp), v = .ref f ∧ FnVX P w K mg base k f sp ∧ t σ H1 fun vs H2 => sp vs H2 Q (E σ)
theorem pe_callVX {X : Cx} (P : Program) (w : World) (K : PySem.W.Frag) (mg : Str → Option Value) (base : Heap) {func : Expr} {k : Nat} {E : L2.St → XK} {e : Expr} {es : List Expr} {tv : TE} {t : TA} {pos : Pos} (hr : Room k X.A) (hv : PE X func tv) (hx : ∀ σ, PassesAt (L2.CX X.prog X.w) X σ (E σ)) (ha : PA X (e :: es) t)
    (hP : X.prog = P := by rfl) (hw : X.w = w := by rfl) (hK : X.K = K := by rfl) (hm : X.mg = mg := by rfl) (hb : X.base = base := by rfl)
    (hc : eval (.Call func (e :: es) [] pos) X.env = (do callWith pos (← eval func X.env) [] (backTo pos (starEach (e :: es) X.env)) (backToKw pos (keywordEach [] X.env))) := by rfl)
    (he : starEach (e :: es) X.env = (false, eval e X.env) :: starEach es X.env := by rfl) (hpl : (backTo pos (starEach es X.env)).any (·.1) = false := by rfl) :
    PE X (.Call func (e :: es) [] pos) (tCallVX P w K mg base k E tv t) := by
  subst hP; subst hw; subst hK; subst hm; subst hb
  refine ⟨fun pins s σ H Q I h => ?_⟩
  refine Call_ (thn (hv.run pins s σ H _ I h) fun u s1 ⟨v, H1, I1, rv, f, sp, ev, ⟨fd, ps, F, hk, hb⟩, q⟩ => ?_) hc
  subst ev
  obtain rfl : u = Value.ref f := rv
  refine PySem.W.callWith_K (h₀ := X.base) I.ok.mod.kin hk (thn (ha.run pos pins s1 σ H1 _ I1 q) fun us s2 ⟨vs, H2, I2, r, q2⟩ => ⟨I2.kIn, ?_⟩) he hpl
  exact run_fnS F hr hb (hx σ) I2 r q2
theorem FnVX.of {P : Program} {w : World} {K : PySem.W.Frag} {mg : Str → Option Value} {base : Heap} {k : Nat} {f : Addr} {fd : FuncData} {ps : List Str} {sp : Sp} (F : FnOk P w K mg base (L2.CX P w) k f fd ps sp) (kp : PySem.W.keepIn K (.ref f) = true) (bd : Binds K fd ps []) : FnVX P w K mg base k f sp := ⟨fd, ps, F, kp, bd⟩
theorem FnVX.up {P : Program} {w : World} {K : PySem.W.Frag} {mg : Str → Option Value} {base : Heap} {k j : Nat} {f : Addr} {sp : Sp} (h : k ≤ j) (F : FnVX P w K mg base k f sp) : FnVX P w K mg base j f sp := by
  obtain ⟨fd, ps, F, a, b⟩ := F
  exact ⟨fd, ps, F.mono h, a, b⟩
end LH

namespace LH
open PySem PySem.Spec PySem.Calls PyProof.Rows L2
/-! ### nothing is let out -/
theorem takesN {X : Cx} : Takes X (fun _ _ _ _ => False) := fun _ _ x => by
  obtain ⟨_, _, _, _, _, _, _, _, _, _, _, _, _, _, _, _, z⟩ := x
  exact z.elim
end LH

namespace LH
open PySem PySem.Spec PyProof.Rows L2 Builtin Builtin.Str PySem.StrLaws
/-! ### a text whose ends are none of some signs stays when those are taken from its ends -/
theorem strip_same (x y : Str) (h1 : ∀ c, (TL.tl x)[0]? = some c → c ∉ TL.tl y) (h2 : ∀ c, (TL.tl x)[(TL.tl x).length - 1]? = some c → c ∉ TL.tl y) : Txt.stripChars x y = x := by
  have hl : x.cps.toList.length = x.length := by simp [Str.length]
  have hlt : (TL.tl x).length = x.length := hl
  unfold Txt.stripChars
  rw [stripBy_eq]
  obtain ⟨l1, l2, l3⟩ := lo_facts y.cps.contains x
  have hat : ∀ k, k < x.length → (TL.tl x)[k]? = some (x.cps.getD k 0) := fun k hk => by
    rw [← getD_list]
    show x.cps.toList[k]? = _
    rw [List.getD_eq_getElem?_getD, List.getElem?_eq_getElem (by rw [hl]; exact hk)]
    rfl
  have hlo : stripLo y.cps.contains true x = 0 := by
    by_cases h0 : stripLo y.cps.contains true x = 0
    · exact h0
    · have := l2 0 (by omega)
      rw [has_mem, decide_eq_true_eq] at this
      exact absurd this (h1 _ (hat 0 (by omega)))
  rw [hlo]
  obtain ⟨g1, g2, g3, g4⟩ := hi_facts y.cps.contains x 0 (Nat.zero_le _)
  have hhi : stripHi y.cps.contains true x 0 = x.length := by
    by_cases h0 : stripHi y.cps.contains true x 0 = x.length
    · exact h0
    · have := g3 (x.length - 1) (by omega) (by omega)
      rw [has_mem, decide_eq_true_eq] at this
      refine absurd this (h2 _ ?_)
      rw [hlt]
      exact hat (x.length - 1) (by omega)
  rw [hhi]
  apply TL.ext_tl
  have hs : (strSub x 0 x.length).cps.toList = (x.cps.toList.drop 0).take (x.length - 0) := strSub_toList ..
  show (strSub x 0 x.length).cps.toList = x.cps.toList
  rw [hs, List.drop_zero, List.take_of_length_le (by rw [hl]; omega)]
end LH

namespace LH
open PySem PySem.Spec PyProof.Rows L2
/-! ### a comprehension whose elements are None or new lists -/
/-- told: None, or a new list -/
def TellO (H : Hp) (o : Option (List V)) (Q : VK) : Prop := (o = none → Tell H .non Q) ∧ ∀ xs, o = some xs → New H xs Q
/-- None, or a list that stands -/
def OptAt (D : Addr) (H : Hp) (o : Option (List V)) (v : V) : Prop := (o = none ∧ v = .non) ∨ ∃ p xs, o = some xs ∧ v = .ref p ∧ p ≠ D ∧ H p = some (.lst xs)
theorem OptAt.keep {D : Addr} {H H' : Hp} {o : Option (List V)} {v : V} (h : OptAt D H o v) (s : ∀ p x, p ≠ D → H p = some x → H' p = some x) : OptAt D H' o v := by
  rcases h with h | ⟨p, xs, h1, h2, h3, h4⟩
  · exact .inl h
  · exact .inr ⟨p, xs, h1, h2, h3, s _ _ h3 h4⟩
theorem lc_opts {J : It} {n : Nat} {G : Hp → Prop} {te : TE} {c : Nat} {σ : L2.St} {H1 : Hp} {D : Addr} {Qd : Hp → Prop} (xs : Nat → V) (o : Nat → Option (List V)) (w : Walk J n G (YFn xs)) (hG : ∀ H, Same H1 H → G H) (hD : H1 D = none) (hn : n ≤ sizeLine)
    (he : ∀ i H Q, i < n → Same H1 H → TellO H (o i) Q → te ((σ.set c none).set c (some (xs i))) H Q)
    (hd : ∀ H (us : List V), Same H1 H → us.length = n → (∀ i, i < n → OptAt D H (o i) (us.getD i .non)) → H D = some (.lst us) → Qd H) :
    ∃ W : Nat → Nat → Hp → Prop, (∃ m, W 0 m (upd H1 D (.lst []))) ∧ ∀ i m H, W i m H →
      (J.stop i H ∧ Qd H) ∨ (J.go i H ∧ ∃ Nx : Hp → Prop, (∀ H', Nx H' → ∃ m', m' < m ∧ W (i + 1) m' H') ∧ ∀ x H', J.yld i H x H' → gName c x (wipe σ [c]) H' fun σ2 H2 => wipe σ2 [c] = wipe σ [c] ∧ tYes σ2 H2 fun b H3 =>
        if b = true then te σ2 H3 fun y H4 => ∃ acc, H4 D = some (.lst acc) ∧ acc.length < sizeLine ∧ Nx (upd H4 D (.lst (acc ++ [y]))) else Nx H3) := by
  refine lc_it w (fun i H => Same H1 H ∧ ∃ us : List V, us.length = i ∧ (∀ j, j < i → OptAt D H (o j) (us.getD j .non)) ∧ H D = some (.lst us)) ⟨same_upd hD, [], rfl, fun j hj => absurd hj (Nat.not_lt_zero j), upd_same⟩ (fun i H _ h => hG H h.1) (fun i x H H' hi hP hy => ?_) (fun H h => by
    obtain ⟨sm, us, hl, hu, e⟩ := h
    exact hd H us sm hl hu e)
  obtain ⟨sm, us, hl, hu, eD⟩ := hP
  obtain ⟨rfl, rfl⟩ := hy
  refine ⟨?_, ?_⟩
  rotate_left
  · unfold tYes
    dsimp only
    rw [if_pos rfl]
    have fin : ∀ (H3 : Hp) (v : V), Same H' H3 → OptAt D H3 (o i) v → ∃ acc, H3 D = some (.lst acc) ∧ acc.length < sizeLine ∧ (Same H1 (upd H3 D (.lst (acc ++ [v]))) ∧ ∃ us : List V, us.length = i + 1 ∧ (∀ j, j < i + 1 → OptAt D (upd H3 D (.lst (acc ++ [v]))) (o j) (us.getD j .non)) ∧ upd H3 D (.lst (acc ++ [v])) D = some (.lst us)) := fun H3 v s3 hv => by
      refine ⟨us, s3 _ _ eD, by omega, ?_, us ++ [v], by rw [List.length_append, hl]; rfl, fun j hj => ?_, upd_same⟩
      · intro b' x hb'
        rw [upd_ne (ne_of_none hb' hD)]
        exact s3 _ _ (sm _ _ hb')
      · have keep : ∀ p x, p ≠ D → H3 p = some x → upd H3 D (.lst (us ++ [v])) p = some x := fun p x hp hx => by rw [upd_ne hp]; exact hx
        by_cases hj2 : j < i
        · rw [getD_app_l _ _ _ (by omega)]
          exact (((hu j hj2).keep fun p x _ hx => s3 _ _ hx)).keep keep
        · have : j = i := by omega
          subst this
          rw [getD_app_r _ _ _ (by omega), hl, Nat.sub_self]
          exact hv.keep keep
    refine he i H' _ hi sm ⟨fun e H3 s3 => fin H3 .non s3 (.inl ⟨e, rfl⟩), fun zs e H3 p s3 np e3 => fin H3 (.ref p) s3 (.inr ⟨p, zs, e, rfl, (fun z => by rw [z, eD] at np; cases np), e3⟩)⟩
  · show (((σ.set c none).set c (some (xs i))).set c none) = σ.set c none
    rw [List.set_set, List.set_set]
/-! ### None, or lists of ints, as data -/
def dOpt : Option (List Int) → PyData
  | none => .none
  | some b => .list (b.map PyData.int)
theorem lay_opts (ls : List (Option (List Int))) : PyData.canLayAll0 (ls.map dOpt) = true := by
  induction ls with
  | nil => simp [PyData.canLayAll0]
  | cons x r ih => cases x <;> simp [PyData.canLayAll0, PyData.canLay0, dOpt, lay_ints, ih]
theorem depth_opts (ls : List (Option (List Int))) : PyData.depthAll (ls.map dOpt) ≤ 1 := by
  induction ls with
  | nil => simp [PyData.depthAll]
  | cons x r ih =>
    cases x <;> simp [PyData.depthAll, PyData.depth, dOpt, depth_ints] <;> omega
theorem shaped_opts (ls : List (Option (List Int))) : SeqAt.shaped (.list (ls.map dOpt)) = true := by
  have := depth_opts ls
  simp [SeqAt.shaped, PyData.canLay0, PyData.depth, lay_opts]
  omega
theorem any_opts (ls : List (Option (List Int))) : ((ls.map dOpt).any fun z => PyData.eqv z .none) = ls.any Option.isNone := by
  induction ls with
  | nil => rfl
  | cons x r ih =>
    rw [List.map_cons, List.any_cons, List.any_cons, ih]
    cases x <;> simp [dOpt, PyData.eqv]
theorem dpAll_opts {K : PySem.W.Frag} {H : Hp} {D : Addr} : ∀ (us : List V) (ls : List (Option (List Int))), us.length = ls.length → (∀ i, i < us.length → OptAt D H ((ls.getD i none).map fun b => b.map V.int) (us.getD i .non)) → DpAll K H us (ls.map dOpt)
  | [], [], _, _ => .nil
  | u :: us, l :: ls, hl, h => by
    refine .cons ?_ (dpAll_opts us ls (Nat.succ.inj hl) fun i hi => h (i + 1) (Nat.succ_lt_succ hi))
    have h0 : OptAt D H (l.map fun b => b.map V.int) u := h 0 (Nat.zero_lt_succ _)
    cases l with
    | none =>
      rcases h0 with ⟨_, rfl⟩ | ⟨p, xs, e, _⟩
      · exact .non
      · exact nomatch e
    | some b =>
      rcases h0 with ⟨e, _⟩ | ⟨p, xs, e, rfl, _, e2⟩
      · exact nomatch e
      · obtain rfl := Option.some.inj e
        exact dp_ints (.inl (.inl e2))
  | [], _ :: _, hl, _ => nomatch hl
  | _ :: _, [], hl, _ => nomatch hl
end LH

namespace LH
open PySem PySem.Spec PyProof.Rows L2
/-! ### the same behind a test that all items pass -/
theorem lc_optsT {J : It} {n : Nat} {G : Hp → Prop} {tt : TT} {te : TE} {c : Nat} {σ : L2.St} {H1 : Hp} {D : Addr} {Qd : Hp → Prop} (xs : Nat → V) (o : Nat → Option (List V)) (w : Walk J n G (YFn xs)) (hG : ∀ H, Same H1 H → G H) (hD : H1 D = none) (hn : n ≤ sizeLine)
    (ht : ∀ (i : Nat) (H : Hp) (Q : Bool → Hp → Prop), i < n → Same H1 H → (∀ H', Same H H' → Q true H') → tt ((σ.set c none).set c (some (xs i))) H Q)
    (he : ∀ i H Q, i < n → Same H1 H → TellO H (o i) Q → te ((σ.set c none).set c (some (xs i))) H Q)
    (hd : ∀ H (us : List V), Same H1 H → us.length = n → (∀ i, i < n → OptAt D H (o i) (us.getD i .non)) → H D = some (.lst us) → Qd H) :
    ∃ W : Nat → Nat → Hp → Prop, (∃ m, W 0 m (upd H1 D (.lst []))) ∧ ∀ i m H, W i m H →
      (J.stop i H ∧ Qd H) ∨ (J.go i H ∧ ∃ Nx : Hp → Prop, (∀ H', Nx H' → ∃ m', m' < m ∧ W (i + 1) m' H') ∧ ∀ x H', J.yld i H x H' → gName c x (wipe σ [c]) H' fun σ2 H2 => wipe σ2 [c] = wipe σ [c] ∧ tt σ2 H2 fun b H3 =>
        if b = true then te σ2 H3 fun y H4 => ∃ acc, H4 D = some (.lst acc) ∧ acc.length < sizeLine ∧ Nx (upd H4 D (.lst (acc ++ [y]))) else Nx H3) := by
  refine lc_it w (fun i H => Same H1 H ∧ ∃ us : List V, us.length = i ∧ (∀ j, j < i → OptAt D H (o j) (us.getD j .non)) ∧ H D = some (.lst us)) ⟨same_upd hD, [], rfl, fun j hj => absurd hj (Nat.not_lt_zero j), upd_same⟩ (fun i H _ h => hG H h.1) (fun i x H H' hi hP hy => ?_) (fun H h => by
    obtain ⟨sm, us, hl, hu, e⟩ := h
    exact hd H us sm hl hu e)
  obtain ⟨sm, us, hl, hu, eD⟩ := hP
  obtain ⟨rfl, rfl⟩ := hy
  refine ⟨?_, ?_⟩
  rotate_left
  · refine ht i H' _ hi sm fun H5 s5 => ?_
    rw [if_pos rfl]
    have eD := s5 _ _ eD
    have hu := fun j hj => (hu j hj).keep fun p x _ hx => s5 _ _ hx
    have sm := sm.trans s5
    clear s5
    revert eD hu sm
    generalize H5 = H'
    intro eD hu sm
    have fin : ∀ (H3 : Hp) (v : V), Same H' H3 → OptAt D H3 (o i) v → ∃ acc, H3 D = some (.lst acc) ∧ acc.length < sizeLine ∧ (Same H1 (upd H3 D (.lst (acc ++ [v]))) ∧ ∃ us : List V, us.length = i + 1 ∧ (∀ j, j < i + 1 → OptAt D (upd H3 D (.lst (acc ++ [v]))) (o j) (us.getD j .non)) ∧ upd H3 D (.lst (acc ++ [v])) D = some (.lst us)) := fun H3 v s3 hv => by
      refine ⟨us, s3 _ _ eD, by omega, ?_, us ++ [v], by rw [List.length_append, hl]; rfl, fun j hj => ?_, upd_same⟩
      · intro b' x hb'
        rw [upd_ne (ne_of_none hb' hD)]
        exact s3 _ _ (sm _ _ hb')
      · have keep : ∀ p x, p ≠ D → H3 p = some x → upd H3 D (.lst (us ++ [v])) p = some x := fun p x hp hx => by rw [upd_ne hp]; exact hx
        by_cases hj2 : j < i
        · rw [getD_app_l _ _ _ (by omega)]
          exact (((hu j hj2).keep fun p x _ hx => s3 _ _ hx)).keep keep
        · have : j = i := by omega
          subst this
          rw [getD_app_r _ _ _ (by omega), hl, Nat.sub_self]
          exact hv.keep keep
    refine he i H' _ hi sm ⟨fun e H3 s3 => fin H3 .non s3 (.inl ⟨e, rfl⟩), fun zs e H3 p s3 np e3 => fin H3 (.ref p) s3 (.inr ⟨p, zs, e, rfl, (fun z => by rw [z, eD] at np; cases np), e3⟩)⟩
  · show (((σ.set c none).set c (some (xs i))).set c none) = σ.set c none
    rw [List.set_set, List.set_set]
end LH

/-! list(zip(a, b, c)): a new list of new tuples -/
namespace LH.ZL
open PySem
open PySem.Sem (wp)
section
variable {prog : Program} {w : World} {A : Around} {E : Value → Shared → Prop} {s : Shared} {z TI TO i1 i2 i3 : Addr} {fp1 fp2 fp3 : List Addr} {n mm1 mm2 mm3 i : Nat} {P1 P2 P3 : Nat → Value → Prop} {St1 St2 St3 : Nat → Heap → Prop}
theorem moved {it : Addr} {fp : List Addr} {n : Nat} {P : Nat → Value → Prop} {St : Nat → Heap → Prop} (D : Draws prog w A it fp n P St) {i : Nat} {h h' : Heap} {x : Addr} (st : St i h) (hs : Heap.SameBut x h h') (hx : x ∉ fp) : St i h' :=
  D.frame i h h' st fun b hb o e => hs.extBut b o (fun q => hx (q ▸ hb)) e
theorem item_held {T : Addr} {f : Bool} {oT : Obj} {Q : Value → Shared → Prop} (S : ZipSep3 z TI TO i1 i2 i3 fp1 fp2 fp3) (D1 : Draws prog w A i1 fp1 mm1 P1 St1) (D2 : Draws prog w A i2 fp2 mm2 P2 St2) (D3 : Draws prog w A i3 fp3 mm3 P3 St3)
    (hz : IsZipHeld s.heap z TI TO T f) (hT : s.heap.get? T = some oT) (hI : IsTupOf3 s.heap TI (.ref i1) (.ref i2) (.ref i3)) (t1 : St1 i s.heap) (t2 : St2 i s.heap) (t3 : St3 i s.heap) (hi1 : i < mm1) (hi2 : i < mm2) (hi3 : i < mm3)
    (hQ : ∀ x1 x2 x3 h' tk, P1 i x1 → P2 i x2 → P3 i x3 → IsZipHeld h' z TI TO T true → St1 (i + 1) h' → St2 (i + 1) h' → St3 (i + 1) h' → IsTupOf3 h' s.heap.objs.size x1 x2 x3 → h'.objs.size = s.heap.objs.size + 1 →
      (∀ c o, c ≠ z → c ≠ i1 → c ≠ i2 → c ≠ i3 → s.heap.get? c = some o → h'.get? c = some o) → Q (.ref s.heap.objs.size) { s with heap := h', toks := tk }) :
    wpAny (model prog w) A (Builtin.«zip.__next__» ⟨[.ref z], []⟩) (fun fin s' => ∃ v, fin = .done (.ret v) ∧ Q v s') E s := by
  obtain ⟨hp, g, d, tk0, os⟩ := s
  refine (show wpAny _ _ (field (.ref z) 2 >>= _) _ _ _ from wpAny_bind (wpAny_field hz rfl (x := .bool false) rfl ?_))
  refine (show wpAny _ _ (field (.ref z) 3 >>= _) _ _ _ from wpAny_bind (wpAny_field hz rfl (x := .ref TI) rfl (wpAny_bind (wpAny_seqItems hI rfl ?_))))
  refine (show wpAny _ _ (Builtin.SmallTypes.ownedTupleIsFree (.ref z) >>= _) _ _ _ from wpAny_bind (wpAny_tupleHeld_zip hz hT fun g0 hz0 hs0 => ?_))
  replace hs0 : Heap.SameBut z hp g0 := hs0
  simp only [Bool.false_eq_true, if_false]
  refine wpAny_bind ?_
  rw [← Array.forIn_toList]
  simp only [List.forIn_cons, List.forIn_nil]
  refine wpAny_bind (wpAny_bind (wpAny_holding ?_))
  refine (show wpAny _ _ (Builtin.SmallTypes.nextOf (.ref i1) >>= _) _ _ ⟨g0, g, d, tk0, os⟩ from wpAny_bind (D1.item i _ _ _ hi1 (moved D1 t1 hs0 S.zf1) fun x1 p1 tk1 y1 n1 s1 => wpAny_pure (wpAny_pure ?_)))
  replace s1 : Heap.SameBut i1 g0 p1 := s1
  refine wpAny_bind (wpAny_bind (wpAny_holding ?_))
  refine (show wpAny _ _ (Builtin.SmallTypes.nextOf (.ref i2) >>= _) _ _ ⟨p1, g, d, tk1, os⟩ from wpAny_bind (D2.item i _ _ _ hi2 (moved D2 (moved D2 t2 hs0 S.zf2) s1 S.sep1_2) fun x2 p2 tk2 y2 n2 s2 => wpAny_pure (wpAny_pure ?_)))
  replace s2 : Heap.SameBut i2 p1 p2 := s2
  refine wpAny_bind (wpAny_bind (wpAny_holding ?_))
  refine (show wpAny _ _ (Builtin.SmallTypes.nextOf (.ref i3) >>= _) _ _ ⟨p2, g, d, tk2, os⟩ from wpAny_bind (D3.item i _ _ _ hi3 (moved D3 (moved D3 (moved D3 t3 hs0 S.zf3) s1 S.sep1_3) s2 S.sep2_3) fun x3 p3 tk3 y3 n3 s3 => wpAny_pure (wpAny_pure (wpAny_pure ?_))))
  replace s3 : Heap.SameBut i3 p2 p3 := s3
  refine (show wpAny _ _ (newTuple [x1, x2, x3] >>= _) _ _ _ from wpAny_bind (wpAny_newTuple ?_))
  have e : p3.objs.size = hp.objs.size := by rw [s3.1, s2.1, s1.1, hs0.1]
  have zz : IsZipHeld p3 z TI TO T true := s3.extBut _ _ S.zi3 (s2.extBut _ _ S.zi2 (s1.extBut _ _ S.zi1 hz0))
  have kk : ∀ c o, c ≠ z → c ≠ i1 → c ≠ i2 → c ≠ i3 → hp.get? c = some o → p3.get? c = some o := fun c o c0 c1 c2 c3 x => s3.extBut _ _ c3 (s2.extBut _ _ c2 (s1.extBut _ _ c1 (hs0.extBut _ _ c0 x)))
  have m1 : St1 (i + 1) p3 := moved D1 (moved D1 n1 s2 S.sep2_1) s3 S.sep3_1
  have m2 : St2 (i + 1) p3 := moved D2 n2 s3 S.sep3_2
  refine wpAny_pure ⟨_, rfl, ?_⟩
  show Q (.ref p3.objs.size) _
  have tu : IsTupOf3 (p3.push { cls := .type "tuple", data := .seq #[x1, x2, x3] }) p3.objs.size x1 x2 x3 := Heap.get?_push_size _ rfl
  have sz : (p3.push { cls := .type "tuple", data := .seq #[x1, x2, x3] }).objs.size = p3.objs.size + 1 := Heap.size_push ..
  have up : ∀ c o, p3.get? c = some o → (p3.push { cls := .type "tuple", data := .seq #[x1, x2, x3] }).get? c = some o := fun c o x => Heap.get?_push_of_some _ x
  rw [e] at tu sz ⊢
  exact hQ x1 x2 x3 _ _ y1 y2 y3 (up _ _ zz) (D1.frame _ _ _ m1 fun b _ o x => up b o x) (D2.frame _ _ _ m2 fun b _ o x => up b o x) (D3.frame _ _ _ n3 fun b _ o x => up b o x) tu sz fun c o c0 c1 c2 c3 x => up c o (kk c o c0 c1 c2 c3 x)
theorem end_held {T : Addr} {f : Bool} {oT : Obj} {Q : Fin → Shared → Prop} (S : ZipSep3 z TI TO i1 i2 i3 fp1 fp2 fp3) (D1 : Draws prog w A i1 fp1 mm1 P1 St1) (D2 : Draws prog w A i2 fp2 mm2 P2 St2) (D3 : Draws prog w A i3 fp3 mm3 P3 St3)
    (hz : IsZipHeld s.heap z TI TO T f) (hT : s.heap.get? T = some oT) (hI : IsTupOf3 s.heap TI (.ref i1) (.ref i2) (.ref i3)) (t1 : St1 i s.heap) (t2 : St2 i s.heap) (t3 : St3 i s.heap) (e1 : i ≤ mm1) (e2 : i ≤ mm2) (e3 : i ≤ mm3) (he : i = mm1 ∨ i = mm2 ∨ i = mm3)
    (hE : ∀ h' tk e, (∀ c o, c ≠ z → c ≠ i1 → c ≠ i2 → c ≠ i3 → s.heap.get? c = some o → h'.get? c = some o) → (∃ o, h'.get? e = some o ∧ o.cls = .type "StopIteration") → E (.ref e) { s with heap := h', toks := tk }) :
    wpAny (model prog w) A (Builtin.«zip.__next__» ⟨[.ref z], []⟩) Q E s := by
  obtain ⟨hp, g, d, tk0, os⟩ := s
  refine (show wpAny _ _ (field (.ref z) 2 >>= _) _ _ _ from wpAny_bind (wpAny_field hz rfl (x := .bool false) rfl ?_))
  refine (show wpAny _ _ (field (.ref z) 3 >>= _) _ _ _ from wpAny_bind (wpAny_field hz rfl (x := .ref TI) rfl (wpAny_bind (wpAny_seqItems hI rfl ?_))))
  refine (show wpAny _ _ (Builtin.SmallTypes.ownedTupleIsFree (.ref z) >>= _) _ _ _ from wpAny_bind (wpAny_tupleHeld_zip hz hT fun g0 hz0 hs0 => ?_))
  replace hs0 : Heap.SameBut z hp g0 := hs0
  simp only [Bool.false_eq_true, if_false]
  refine wpAny_bind ?_
  rw [← Array.forIn_toList]
  simp only [List.forIn_cons, List.forIn_nil]
  refine wpAny_bind (wpAny_bind (wpAny_holding ?_))
  refine (show wpAny _ _ (Builtin.SmallTypes.nextOf (.ref i1) >>= _) _ _ ⟨g0, g, d, tk0, os⟩ from ?_)
  by_cases l1 : i < mm1
  · refine wpAny_bind (D1.item i _ _ _ l1 (moved D1 t1 hs0 S.zf1) fun x1 p1 tk1 y1 n1 s1 => wpAny_pure (wpAny_pure ?_))
    replace s1 : Heap.SameBut i1 g0 p1 := s1
    refine wpAny_bind (wpAny_bind (wpAny_holding ?_))
    refine (show wpAny _ _ (Builtin.SmallTypes.nextOf (.ref i2) >>= _) _ _ ⟨p1, g, d, tk1, os⟩ from ?_)
    have t2' := moved D2 (moved D2 t2 hs0 S.zf2) s1 S.sep1_2
    by_cases l2 : i < mm2
    · refine wpAny_bind (D2.item i _ _ _ l2 t2' fun x2 p2 tk2 y2 n2 s2 => wpAny_pure (wpAny_pure ?_))
      replace s2 : Heap.SameBut i2 p1 p2 := s2
      refine wpAny_bind (wpAny_bind (wpAny_holding ?_))
      have ei : i = mm3 := by omega
      have t3' := moved D3 (moved D3 (moved D3 t3 hs0 S.zf3) s1 S.sep1_3) s2 S.sep2_3
      refine (show wpAny _ _ (Builtin.SmallTypes.nextOf (.ref i3) >>= _) _ _ ⟨p2, g, d, tk2, os⟩ from wpAny_bind (D3.done ⟨p2, g, d, tk2, os⟩ _ _ (by rw [← ei]; exact t3') fun q e hq he => ?_))
      exact hE q tk2 e (fun c o c0 c1 c2 c3 x => hq _ _ c3 (s2.extBut _ _ c2 (s1.extBut _ _ c1 (hs0.extBut _ _ c0 x)))) he
    · have ei : i = mm2 := by omega
      refine wpAny_bind (D2.done ⟨p1, g, d, tk1, os⟩ _ _ (by rw [← ei]; exact t2') fun q e hq he => ?_)
      exact hE q tk1 e (fun c o c0 c1 c2 c3 x => hq _ _ c2 (s1.extBut _ _ c1 (hs0.extBut _ _ c0 x))) he
  · have ei : i = mm1 := by omega
    refine wpAny_bind (D1.done ⟨g0, g, d, tk0, os⟩ _ _ (by rw [← ei]; exact moved D1 t1 hs0 S.zf1) fun q e hq he => ?_)
    exact hE q tk0 e (fun c o c0 c1 c2 c3 x => hq _ _ c1 (hs0.extBut _ _ c0 x)) he
/-- a zip over three iterators behind i turns; the cell L is none of its own tuples -/
def ZSt (z TI TO i1 i2 i3 L : Addr) (St1 St2 St3 : Nat → Heap → Prop) (i : Nat) (h : Heap) : Prop :=
  IsTupOf3 h TI (.ref i1) (.ref i2) (.ref i3) ∧ St1 i h ∧ St2 i h ∧ St3 i h ∧
    ((IsZip h z TI TO .none ∧ ∃ a b c, IsTupOf3 h TO a b c) ∨ ∃ T f oT, IsZipHeld h z TI TO T f ∧ h.get? T = some oT ∧ T ≠ z ∧ T ≠ i1 ∧ T ≠ i2 ∧ T ≠ i3 ∧ T ≠ L)
variable {L : Addr}
theorem zipTy {h : Heap} (st : ZSt z TI TO i1 i2 i3 L St1 St2 St3 i h) : ∃ o, h.get? z = some o ∧ o.cls = .type "zip" := by
  obtain ⟨_, _, _, _, h | ⟨T, f, oT, h, _⟩⟩ := st
  · exact ⟨_, h.1, rfl⟩
  · exact ⟨_, h, rfl⟩
theorem nxt {Q : Option Value → Shared → Prop} (S : ZipSep3 z TI TO i1 i2 i3 fp1 fp2 fp3) (D1 : Draws prog w A.in1 i1 fp1 mm1 P1 St1) (D2 : Draws prog w A.in1 i2 fp2 mm2 P2 St2) (D3 : Draws prog w A.in1 i3 fp3 mm3 P3 St3)
    (st : ZSt z TI TO i1 i2 i3 L St1 St2 St3 i s.heap) (hL : L < s.heap.objs.size) (hi1 : i < mm1) (hi2 : i < mm2) (hi3 : i < mm3)
    (hQ : ∀ x1 x2 x3 h' tk, P1 i x1 → P2 i x2 → P3 i x3 → ZSt z TI TO i1 i2 i3 L St1 St2 St3 (i + 1) h' → IsTupOf3 h' s.heap.objs.size x1 x2 x3 → h'.objs.size = s.heap.objs.size + 1 →
      (∀ c o, c ≠ z → c ≠ TO → c ≠ i1 → c ≠ i2 → c ≠ i3 → s.heap.get? c = some o → h'.get? c = some o) → Q (some (.ref s.heap.objs.size)) { s with heap := h', toks := tk }) :
    wpAny (model prog w) A (pyNext (.ref z)) Q E s := by
  have hT : s.TypeIs (.ref z) "zip" := zipTy st
  obtain ⟨hI, t1, t2, t3, hz⟩ := st
  have lt : ∀ {c o}, s.heap.get? c = some o → s.heap.objs.size ≠ c := fun e => Nat.ne_of_gt (Heap.lt_size e)
  have l1 : s.heap.objs.size ≠ i1 := by obtain ⟨_, e⟩ := D1.live _ _ t1; exact lt e
  have l2 : s.heap.objs.size ≠ i2 := by obtain ⟨_, e⟩ := D2.live _ _ t2; exact lt e
  have l3 : s.heap.objs.size ≠ i3 := by obtain ⟨_, e⟩ := D3.live _ _ t3; exact lt e
  rcases hz with ⟨hz, a, b, c, hO⟩ | ⟨T, f, oT, hz, hTT, r0, r1, r2, r3, rL⟩
  · refine wpAny_pyNext_zipD3_item S D1 D2 D3 hz hI hO t1 t2 t3 hi1 hi2 hi3 fun x1 x2 x3 h' tk y1 y2 y3 b1 b2 d1 d2 d3 b5 b6 hk => ?_
    exact hQ x1 x2 x3 h' tk y1 y2 y3 ⟨hk _ _ S.TIz S.TITO S.TIi1 S.TIi2 S.TIi3 hI, d1, d2, d3, .inr ⟨_, false, _, b1, b5, lt hz, l1, l2, l3, Nat.ne_of_gt hL⟩⟩ b5 b6 hk
  · unfold pyNext
    refine wpAny_bind (wpAny_attempt (wpAny_callSpecial?_slot (name := Str.ofString "__next__") hT F.slot_zip_next (wpAny_call_entry F.slot_zip_next hT F.entry_zip_next ?_ (F.args_zip_next_1 _))))
    exact item_held S D1 D2 D3 hz hTT hI t1 t2 t3 hi1 hi2 hi3 fun x1 x2 x3 h' tk y1 y2 y3 b1 d1 d2 d3 b5 b6 hk => wpAny_pure (hQ x1 x2 x3 h' tk y1 y2 y3
      ⟨hk _ _ S.TIz S.TIi1 S.TIi2 S.TIi3 hI, d1, d2, d3, .inr ⟨T, true, oT, b1, hk _ _ r0 r1 r2 r3 hTT, r0, r1, r2, r3, rL⟩⟩ b5 b6 fun c o c0 _ c1 c2 c3 x => hk c o c0 c1 c2 c3 x)
theorem fin {Q : Option Value → Shared → Prop} (S : ZipSep3 z TI TO i1 i2 i3 fp1 fp2 fp3) (D1 : Draws prog w A.in1 i1 fp1 mm1 P1 St1) (D2 : Draws prog w A.in1 i2 fp2 mm2 P2 St2) (D3 : Draws prog w A.in1 i3 fp3 mm3 P3 St3)
    (st : ZSt z TI TO i1 i2 i3 L St1 St2 St3 i s.heap) (e1 : i ≤ mm1) (e2 : i ≤ mm2) (e3 : i ≤ mm3) (he : i = mm1 ∨ i = mm2 ∨ i = mm3)
    (hQ : ∀ h' tk, (∀ c o, c ≠ z → c ≠ TO → c ≠ i1 → c ≠ i2 → c ≠ i3 → s.heap.get? c = some o → h'.get? c = some o) → Q none { s with heap := h', toks := tk }) :
    wpAny (model prog w) A (pyNext (.ref z)) Q E s := by
  have hT : s.TypeIs (.ref z) "zip" := zipTy st
  obtain ⟨hI, t1, t2, t3, hz⟩ := st
  rcases hz with ⟨hz, a, b, c, hO⟩ | ⟨T, f, oT, hz, hTT, _⟩
  · exact wpAny_pyNext_zipD3_end S D1 D2 D3 hz hI hO t1 t2 t3 e1 e2 e3 he hQ
  · unfold pyNext
    refine wpAny_bind (wpAny_attempt (wpAny_callSpecial?_slot (name := Str.ofString "__next__") hT F.slot_zip_next (wpAny_call_entry F.slot_zip_next hT F.entry_zip_next ?_ (F.args_zip_next_1 _))))
    refine end_held S D1 D2 D3 hz hTT hI t1 t2 t3 e1 e2 e3 he fun h' tk e hk ⟨o, ho, hc⟩ => ?_
    exact wpAny_bind (wpAny_isInstance (T := "StopIteration") (b := true) ⟨o, ho, hc⟩ isSubtype_stop (wpAny_pure (hQ h' tk fun c o c0 _ c1 c2 c3 x => hk c o c0 c1 c2 c3 x)))
/-- the new tuples, all above lo -/
structure Tups (P1 P2 P3 : Nat → Value → Prop) (lo : Addr) (h : Heap) (as : List Addr) : Prop where
  rise : as.Pairwise (· < ·)
  above : ∀ a ∈ as, lo < a
  has : ∀ (j : Nat) (a : Addr), as[j]? = some a → ∃ x1 x2 x3, P1 j x1 ∧ P2 j x2 ∧ P3 j x3 ∧ IsTupOf3 h a x1 x2 x3
theorem Tups.lt {h : Heap} {as : List Addr} {lo : Addr} (g : Tups P1 P2 P3 lo h as) {a : Addr} (ha : a ∈ as) : a < h.objs.size := by
  obtain ⟨j, hj⟩ := List.mem_iff_getElem?.mp ha
  obtain ⟨_, _, _, _, _, _, e⟩ := g.has j a hj
  exact Heap.lt_size e
/-- where the cells lie: all that stood lies below N, the zip's own from N on, the list above them -/
structure Lie (N z TI TO i1 i2 i3 L : Addr) (fp1 fp2 fp3 : List Addr) : Prop where
  z : N ≤ z ∧ z < L
  I : TI < L
  O : N ≤ TO ∧ TO < L
  a : N ≤ i1 ∧ i1 < L
  b : N ≤ i2 ∧ i2 < L
  c : N ≤ i3 ∧ i3 < L
  f1 : L ∉ fp1
  f2 : L ∉ fp2
  f3 : L ∉ fp3
theorem ZSt.up {N : Addr} (C : Lie N z TI TO i1 i2 i3 L fp1 fp2 fp3) (D1 : Draws prog w A i1 fp1 mm1 P1 St1) (D2 : Draws prog w A i2 fp2 mm2 P2 St2) (D3 : Draws prog w A i3 fp3 mm3 P3 St3) {h h' : Heap}
    (st : ZSt z TI TO i1 i2 i3 L St1 St2 St3 i h) (hk : ∀ b o, b ≠ L → h.get? b = some o → h'.get? b = some o) : ZSt z TI TO i1 i2 i3 L St1 St2 St3 i h' := by
  obtain ⟨hI, t1, t2, t3, hz⟩ := st
  refine ⟨hk _ _ (Nat.ne_of_lt C.I) hI, D1.frame _ _ _ t1 fun b hb o x => hk b o (fun q => C.f1 (q ▸ hb)) x, D2.frame _ _ _ t2 fun b hb o x => hk b o (fun q => C.f2 (q ▸ hb)) x, D3.frame _ _ _ t3 fun b hb o x => hk b o (fun q => C.f3 (q ▸ hb)) x, ?_⟩
  rcases hz with ⟨hz, a, b, c, hO⟩ | ⟨T, f, oT, hz, hTT, r0, r1, r2, r3, rL⟩
  · exact .inl ⟨hk _ _ (Nat.ne_of_lt C.z.2) hz, a, b, c, hk _ _ (Nat.ne_of_lt C.O.2) hO⟩
  · exact .inr ⟨T, f, oT, hk _ _ (Nat.ne_of_lt C.z.2) hz, hk _ _ rL hTT, r0, r1, r2, r3, rL⟩
theorem loop {R : Result → Shared → Prop} {N : Addr} (C : Lie N z TI TO i1 i2 i3 L fp1 fp2 fp3) (S : ZipSep3 z TI TO i1 i2 i3 fp1 fp2 fp3) (D1 : Draws prog w A.in1.in1 i1 fp1 mm1 P1 St1) (D2 : Draws prog w A.in1.in1 i2 fp2 mm2 P2 St2) (D3 : Draws prog w A.in1.in1 i3 fp3 mm3 P3 St3)
    (w1 : n ≤ mm1) (w2 : n ≤ mm2) (w3 : n ≤ mm3) (we : n = mm1 ∨ n = mm2 ∨ n = mm3) (hn : n ≤ sizeLine) (res : Value) {h0 : Heap} (h0N : h0.objs.size ≤ N)
    (hR : ∀ h' tk acc c as, (∀ b o, h0.get? b = some o → h'.get? b = some o) → h'.get? L = some { cls := .type "list", dict := none, data := .seq acc c, slots := #[] } → as.length = n → Tups P1 P2 P3 L h' as → acc.toList = as.map Value.ref → R (.ok (.ret res)) { s with heap := h', toks := tk }) :
    ∀ (k i : Nat) (h : Heap) (tk c : Nat) (acc : Array Value) (as : List Addr), n - i = k → i ≤ n → ZSt z TI TO i1 i2 i3 L St1 St2 St3 i h → (∀ b o, h0.get? b = some o → h.get? b = some o) →
      h.get? L = some { cls := .type "list", dict := none, data := .seq acc c, slots := #[] } → acc.toList = as.map Value.ref → as.length = i → Tups P1 P2 P3 L h as →
      codeAny (model prog w) A (.builtin "list.extend.loop" ⟨[.ref L, .ref z, res], []⟩) R { s with heap := h, toks := tk } := by
  have ge : ∀ b o, h0.get? b = some o → ∀ x, N ≤ x → b ≠ x := fun b o e x hx => Nat.ne_of_lt (Nat.lt_of_lt_of_le (Nat.lt_of_lt_of_le (Heap.lt_size e) h0N) hx)
  have gL : N ≤ L := Nat.le_trans C.z.1 (Nat.le_of_lt C.z.2)
  intro k
  induction k with
  | zero =>
    intro i h tk c acc as hk hi st hkeep hS hacc hal hG
    have hin : i = n := by omega
    subst hin
    refine codeAny_builtin PySem.F.entry_extend_loop ?_
    rw [Around.under_plainId PySem.F.plain_extend_loop _]
    refine (show wpAny _ A.in1 (pyNext (.ref z) >>= _) _ _ _ from wpAny_bind (fin (s := { s with heap := h, toks := tk }) S D1 D2 D3 st w1 w2 w3 we fun h' tk' he => wpAny_pure (hR h' tk' acc c as (fun b o x => ?_) ?_ hal ⟨hG.rise, hG.above, fun j a hj => ?_⟩ hacc)))
    · exact he b o (ge b o x _ C.z.1) (ge b o x _ C.O.1) (ge b o x _ C.a.1) (ge b o x _ C.b.1) (ge b o x _ C.c.1) (hkeep b o x)
    · exact he L _ (Nat.ne_of_gt C.z.2) (Nat.ne_of_gt C.O.2) (Nat.ne_of_gt C.a.2) (Nat.ne_of_gt C.b.2) (Nat.ne_of_gt C.c.2) hS
    · obtain ⟨x1, x2, x3, y1, y2, y3, e⟩ := hG.has j a hj
      have la : ∀ x, x < L → a ≠ x := fun x hx => Nat.ne_of_gt (Nat.lt_trans hx (hG.above a (List.mem_of_getElem? hj)))
      exact ⟨x1, x2, x3, y1, y2, y3, he a _ (la _ C.z.2) (la _ C.O.2) (la _ C.a.2) (la _ C.b.2) (la _ C.c.2) e⟩
  | succ k ih =>
    intro i h tk c acc as hk hi st hkeep hS hacc hal hG
    have hlt : i < n := by omega
    have hsz : acc.size = i := by rw [← Array.length_toList, hacc, List.length_map, hal]
    refine codeAny_builtin PySem.F.entry_extend_loop ?_
    rw [Around.under_plainId PySem.F.plain_extend_loop _]
    have hLh : L < h.objs.size := Heap.lt_size hS
    refine (show wpAny _ A.in1 (pyNext (.ref z) >>= _) _ _ _ from wpAny_bind (nxt (s := { s with heap := h, toks := tk }) S D1 D2 D3 st hLh (Nat.lt_of_lt_of_le hlt w1) (Nat.lt_of_lt_of_le hlt w2) (Nat.lt_of_lt_of_le hlt w3) fun x1 x2 x3 h' tk' y1 y2 y3 st' ht hz hkp => ?_))
    dsimp only at ht hz hkp ⊢
    have hS' := hkp L _ (Nat.ne_of_gt C.z.2) (Nat.ne_of_gt C.O.2) (Nat.ne_of_gt C.a.2) (Nat.ne_of_gt C.b.2) (Nat.ne_of_gt C.c.2) hS
    have up : ∀ b o, b ≠ L → h'.get? b = some o → (h'.update L (Obj.mapSeq (·.push (Value.ref h.objs.size)))).get? b = some o := fun b o hb e => (Heap.get?_update_other _ _ (Ne.symm hb)).trans e
    refine (show wpAny _ A.in1 (updateSeq L (·.push (Value.ref h.objs.size)) >>= _) _ _ _ from wpAny_bind (wpAny_updateSeq hS' rfl (wpAny_pure ⟨plainId_quiet PySem.F.plain_extend_loop _, ?_⟩) (by rw [hsz]; omega) (by show (acc.push (Value.ref h.objs.size)).size ≤ sizeLine + 1; rw [Array.size_push, hsz]; omega)))
    refine ih (i + 1) _ tk' _ (acc.push (Value.ref h.objs.size)) (as ++ [h.objs.size]) (by omega) hlt (ZSt.up C D1 D2 D3 st' up) (fun b o x => ?_) (Heap.get?_update_self _ hS' rfl) (by rw [Array.toList_push, hacc, List.map_append]; rfl) (by rw [List.length_append, hal]; rfl) ⟨?_, ?_, ?_⟩
    · exact up b o (ge b o x _ gL) (hkp b o (ge b o x _ C.z.1) (ge b o x _ C.O.1) (ge b o x _ C.a.1) (ge b o x _ C.b.1) (ge b o x _ C.c.1) (hkeep b o x))
    · exact List.pairwise_append.mpr ⟨hG.rise, List.pairwise_singleton _ _, fun a ha b hb => by rw [List.mem_singleton.mp hb]; exact hG.lt ha⟩
    · intro a ha
      rcases List.mem_append.mp ha with ha | ha
      · exact hG.above a ha
      · rw [List.mem_singleton.mp ha]; exact hLh
    · intro j b hj
      rcases Nat.lt_trichotomy j as.length with q | q | q
      · rw [List.getElem?_append_left q] at hj
        obtain ⟨u1, u2, u3, v1, v2, v3, e⟩ := hG.has j b hj
        have hb := hG.above b (List.mem_of_getElem? hj)
        have la : ∀ x, x < L → b ≠ x := fun x hx => Nat.ne_of_gt (Nat.lt_trans hx hb)
        exact ⟨u1, u2, u3, v1, v2, v3, up b _ (Nat.ne_of_gt hb) (hkp b _ (la _ C.z.2) (la _ C.O.2) (la _ C.a.2) (la _ C.b.2) (la _ C.c.2) e)⟩
      · subst q
        obtain rfl : h.objs.size = b := by simpa using hj
        subst hal
        exact ⟨x1, x2, x3, y1, y2, y3, up _ _ (Nat.ne_of_gt hLh) ht⟩
      · rw [List.getElem?_eq_none (by rw [List.length_append, List.length_singleton]; omega)] at hj
        cases hj
theorem zip_nolen : typeLookup (.type "zip") "__len__" = pure none := by rw [typeLookup_type, builtinLookup_eq_fast]; kernel_rfl
theorem zip_nohint : typeLookup (.type "zip") "__length_hint__" = pure none := by rw [typeLookup_type, builtinLookup_eq_fast]; kernel_rfl
theorem zip_hint (hT : s.TypeIs (.ref z) "zip") {Q : Bool → Shared → Prop} (h : Q true s) : wpAny (model prog w) A (Builtin.List.listLengthHint (.ref z)) Q E s := by
  unfold Builtin.List.listLengthHint
  refine wpAny_bind (wpAny_specialOf hT zip_nolen ?_)
  refine (show wpAny _ A (specialOf (Value.ref z) (Str.ofString "__length_hint__") >>= _) _ _ _ from wpAny_bind (wpAny_specialOf hT zip_nohint ?_))
  exact wpAny_pure h
theorem ext {R : Result → Shared → Prop} {N : Addr} (C : Lie N z TI TO i1 i2 i3 L fp1 fp2 fp3) (S : ZipSep3 z TI TO i1 i2 i3 fp1 fp2 fp3) (D1 : Draws prog w A.in1.in1 i1 fp1 mm1 P1 St1) (D2 : Draws prog w A.in1.in1 i2 fp2 mm2 P2 St2) (D3 : Draws prog w A.in1.in1 i3 fp3 mm3 P3 St3)
    (w1 : n ≤ mm1) (w2 : n ≤ mm2) (w3 : n ≤ mm3) (we : n = mm1 ∨ n = mm2 ∨ n = mm3) (hn : n ≤ sizeLine) (res : Value) (c0 : Nat) {h0 : Heap} (h0N : h0.objs.size ≤ N) (k0 : ∀ b o, h0.get? b = some o → s.heap.get? b = some o) (hz : IsZip s.heap z TI TO .none) (st : ZSt z TI TO i1 i2 i3 L St1 St2 St3 0 s.heap) (hS : s.heap.get? L = some { cls := .type "list", data := .seq #[] c0 })
    (hR : ∀ h' tk acc c as, (∀ b o, h0.get? b = some o → h'.get? b = some o) → h'.get? L = some { cls := .type "list", dict := none, data := .seq acc c, slots := #[] } → as.length = n → Tups P1 P2 P3 L h' as → acc.toList = as.map Value.ref → R (.ok (.ret res)) { s with heap := h', toks := tk }) :
    wpAny (model prog w) A.in1 (Builtin.List.listExtendWith (.ref L) (.ref z) res)
      (fun fin s' => match fin with | .done f => R (.ok f) s' | .again c' => c'.quiet = true ∧ codeAny (model prog w) A c' R s') (fun e s' => R (.error e) s') s := by
  have hT : s.TypeIs (.ref z) "zip" := zipTy st
  have gL : N ≤ L := Nat.le_trans C.z.1 (Nat.le_of_lt C.z.2)
  have ge : ∀ b o, h0.get? b = some o → b ≠ L := fun b o e => Nat.ne_of_lt (Nat.lt_of_lt_of_le (Nat.lt_of_lt_of_le (Heap.lt_size e) h0N) gL)
  have key : ∀ (h : Heap) (c1 tk : Nat), (∀ b o, b ≠ L → s.heap.get? b = some o → h.get? b = some o) → h.get? L = some { cls := .type "list", data := .seq #[] c1 } →
      codeAny (model prog w) A (.builtin "list.extend.loop" ⟨[.ref L, .ref z, res], []⟩) R { s with heap := h, toks := tk } := fun h c1 tk hk hS1 =>
    loop C S D1 D2 D3 w1 w2 w3 we hn res h0N hR n 0 h tk c1 #[] [] (Nat.sub_zero _) (Nat.zero_le _) (ZSt.up C D1 D2 D3 st hk) (fun b o x => hk b o (ge b o x) (k0 b o x)) hS1 rfl rfl ⟨List.Pairwise.nil, (fun _ ha => nomatch ha), fun j a hj => by simp at hj⟩
  unfold Builtin.List.listExtendWith
  refine wpAny_bind (wpAny_typeOf (T := "zip") hT ?_)
  have q1 : Builtin.List.listSameRef (.ref L) (.ref z) = false := by simp [Builtin.List.listSameRef, Nat.ne_of_gt C.z.2]
  have q2 : (Value.type "zip" == Value.type "list") = false := by decide
  have q3 : (Value.type "zip" == Value.type "tuple") = false := by decide
  simp only [q1, q2, q3, Bool.or_false, Bool.false_eq_true, if_false]
  refine wpAny_bind (wpAny_pyIter_zip hz ?_)
  refine wpAny_bind (wpAny_holding (zip_hint hT ?_))
  refine wpAny_ite_split (fun _ => ?_) (fun hab => absurd rfl hab)
  refine wpAny_bind (wpAny_rule (wpAny_bind ?_))
  refine (show wpAny _ _ (updateSeq L (·.push .none) >>= fun _ => updateSeq L (·.pop)) _ _ _ from wpAny_bind (wpAny_updateSeq hS rfl ?_))
  have hS2 := Heap.get?_update_self (Obj.mapSeq (·.push Value.none)) hS rfl
  refine wpAny_updateSeq (hz := by seq_fits) hS2 rfl ?_
  have hS3 := Heap.get?_update_self (Obj.mapSeq (·.pop)) hS2 rfl
  refine wpAny_pure ⟨plainId_quiet PySem.F.plain_extend_loop _, key _ _ _ (fun b o hb e => ?_) hS3⟩
  exact (Heap.get?_update_other _ _ hb.symm).trans ((Heap.get?_update_other _ _ hb.symm).trans e)
theorem init {R : Result → Shared → Prop} {N : Addr} (C : Lie N z TI TO i1 i2 i3 L fp1 fp2 fp3) (S : ZipSep3 z TI TO i1 i2 i3 fp1 fp2 fp3) (D1 : Draws prog w A.in1.in1 i1 fp1 mm1 P1 St1) (D2 : Draws prog w A.in1.in1 i2 fp2 mm2 P2 St2) (D3 : Draws prog w A.in1.in1 i3 fp3 mm3 P3 St3)
    (w1 : n ≤ mm1) (w2 : n ≤ mm2) (w3 : n ≤ mm3) (we : n = mm1 ∨ n = mm2 ∨ n = mm3) (hn : n ≤ sizeLine) {h0 : Heap} (h0N : h0.objs.size ≤ N) (k0 : ∀ b o, h0.get? b = some o → s.heap.get? b = some o) (hz : IsZip s.heap z TI TO .none) (st : ZSt z TI TO i1 i2 i3 L St1 St2 St3 0 s.heap) (hS : s.heap.get? L = some { cls := .type "list", data := .seq #[] })
    (hR : ∀ h' tk acc c as, (∀ b o, h0.get? b = some o → h'.get? b = some o) → h'.get? L = some { cls := .type "list", dict := none, data := .seq acc c, slots := #[] } → as.length = n → Tups P1 P2 P3 L h' as → acc.toList = as.map Value.ref → R (.ok (.ret .none)) { s with heap := h', toks := tk }) :
    wpAny (model prog w) A.in1 (Builtin.«list.__init__» ⟨[.ref L, .ref z], []⟩)
      (fun fin s' => match fin with | .done f => R (.ok f) s' | .again c' => c'.quiet = true ∧ codeAny (model prog w) A c' R s') (fun e s' => R (.error e) s') s := by
  refine (show wpAny _ _ (do let old ← Builtin.List.listItems (.ref L); Builtin.List.listUpdate (.ref L) (fun _ => #[]); letGo old.toList.reverse; Builtin.List.listExtendWith (.ref L) (.ref z) .none) _ _ s from wpAny_bind ?_)
  unfold Builtin.List.listItems
  refine wpAny_bind (wpAny_seqItems hS rfl (wpAny_pure ?_))
  refine (show wpAny _ _ (updateSeq L (fun _ => #[]) >>= fun _ => letGo (#[] : Array Value).toList.reverse >>= fun _ => Builtin.List.listExtendWith (.ref L) (.ref z) .none) _ _ s from wpAny_bind (wpAny_updateSeq hS rfl ?_))
  have hS2 := Heap.get?_update_self (Obj.mapSeq (fun _ => (#[] : Array Value))) hS rfl
  have oth : ∀ b o, b ≠ L → s.heap.get? b = some o → (s.heap.update L (Obj.mapSeq (fun _ => (#[] : Array Value)))).get? b = some o := fun b o hb e => (Heap.get?_update_other _ _ hb.symm).trans e
  have gL : N ≤ L := Nat.le_trans C.z.1 (Nat.le_of_lt C.z.2)
  have ge : ∀ b o, h0.get? b = some o → b ≠ L := fun b o e => Nat.ne_of_lt (Nat.lt_of_lt_of_le (Nat.lt_of_lt_of_le (Heap.lt_size e) h0N) gL)
  exact wpAny_bind (wpAny_letGo (ext C S D1 D2 D3 w1 w2 w3 we hn .none _ h0N (fun b o x => oth b o (ge b o x) (k0 b o x)) (oth _ _ (Nat.ne_of_lt C.z.2) hz) (ZSt.up C D1 D2 D3 st oth) hS2 hR))
theorem call_list {Q : Value → Shared → Prop} {N : Addr} (C : Lie N z TI TO i1 i2 i3 s.heap.objs.size fp1 fp2 fp3) (S : ZipSep3 z TI TO i1 i2 i3 fp1 fp2 fp3) (D1 : Draws prog w A.in1.in1.in1 i1 fp1 mm1 P1 St1) (D2 : Draws prog w A.in1.in1.in1 i2 fp2 mm2 P2 St2) (D3 : Draws prog w A.in1.in1.in1 i3 fp3 mm3 P3 St3)
    (w1 : n ≤ mm1) (w2 : n ≤ mm2) (w3 : n ≤ mm3) (we : n = mm1 ∨ n = mm2 ∨ n = mm3) (hn : n ≤ sizeLine) {h0 : Heap} (h0N : h0.objs.size ≤ N) (k0 : ∀ b o, h0.get? b = some o → s.heap.get? b = some o) (hz : IsZip s.heap z TI TO .none) (st : ZSt z TI TO i1 i2 i3 s.heap.objs.size St1 St2 St3 0 s.heap)
    (hQ : ∀ h' tk acc c as, (∀ b o, h0.get? b = some o → h'.get? b = some o) → h'.get? s.heap.objs.size = some { cls := .type "list", dict := none, data := .seq acc c, slots := #[] } → as.length = n → Tups P1 P2 P3 s.heap.objs.size h' as → acc.toList = as.map Value.ref → Q (.ref s.heap.objs.size) { s with heap := h', toks := tk }) :
    wpAny (model prog w) A (call (.type "list") [.ref z]) Q E s := by
  refine callType_codes (Q₁ := fun obj s1 => obj = .ref s.heap.objs.size ∧ s1 = { s with heap := s.heap.push { cls := .type "list", data := .seq #[] } }) PySem.F.called_list (PySem.F.typeCall_list_1 _) PySem.F.entry_list_init (code_list_new _ ⟨rfl, rfl⟩) fun obj s1 q => ?_
  obtain ⟨rfl, rfl⟩ := q
  have hS : (s.heap.push { cls := .type "list", data := .seq #[] }).get? s.heap.objs.size = some { cls := .type "list", data := .seq #[] } := Heap.get?_push_size _ rfl
  have up : ∀ b o, s.heap.get? b = some o → (s.heap.push { cls := .type "list", data := .seq #[] }).get? b = some o := fun b o x => Heap.get?_push_of_some _ x
  exact ⟨⟨_, hS, rfl⟩, PySem.F.args_list_init_2 _ _, init (A := A.in1) (s := { s with heap := s.heap.push { cls := .type "list", data := .seq #[] } }) C S D1 D2 D3 w1 w2 w3 we hn h0N (fun b o x => up b o (k0 b o x)) (up _ _ hz) (ZSt.up C D1 D2 D3 st fun b o _ x => up b o x) hS fun h' tk acc c as hk hL hl hG ha => ⟨rfl, hQ h' tk acc c as hk hL hl hG ha⟩⟩
end
end LH.ZL
namespace LH
open PySem PySem.Spec PySem.Calls PyProof.Rows L2
theorem lie_nat (N : Nat) : N ≤ N + 5 ∧ N + 5 < N + 6 ∧ N + 3 < N + 6 ∧ N ≤ N + 4 ∧ N + 4 < N + 6 ∧ N ≤ N ∧ N < N + 6 ∧ N ≤ N + 1 ∧ N + 1 < N + 6 ∧ N ≤ N + 2 ∧ N + 2 < N + 6 := by omega
theorem not_in2 {N k l : Nat} (h : l < N) (hk : k < 6) : N + 6 ∉ [N + k, l] := by simp; omega
theorem in_below {N l : Nat} (h : l < N) : ∀ b ∈ [l], b < N := fun b hb => by rw [List.mem_singleton.mp hb]; exact h
theorem rel_at {xs : List V} {us : List Value} (r : Vals xs us) {j : Nat} {u : Value} (h : us.toArray[j]? = some u) : RelV (xs.getD j .non) u := by
  have hj : us[j]? = some u := by simpa using h
  have hl := r.length
  have hjl : j < xs.length := by rw [hl]; exact (List.getElem?_eq_some_iff.mp hj).1
  obtain ⟨u', e, rv⟩ := r.get (List.getElem?_eq_getElem hjl)
  rw [hj] at e
  cases e
  rw [List.getD_eq_getElem?_getD, List.getElem?_eq_getElem hjl]
  exact rv
theorem refs_vals : ∀ us : List Addr, Vals (us.map V.ref) (us.map Value.ref)
  | [] => .nil
  | _ :: us => .cons rfl (refs_vals us)
def tLZ (K : PySem.W.Frag) (ta : TA) : TE := fun σ H Q => ta σ H fun vs H1 => ∃ (a b c : Addr) (xs ys zs : List V), vs = [.ref a, .ref b, .ref c] ∧ SqL K H1 a xs ∧ SqL K H1 b ys ∧ SqL K H1 c zs ∧ ∃ n : Nat, n ≤ xs.length ∧ n ≤ ys.length ∧ n ≤ zs.length ∧ (n = xs.length ∨ n = ys.length ∨ n = zs.length) ∧
  ∀ (H2 : Hp) (D : Addr) (us : List Addr), Same H1 H2 → H1 D = none → us.length = n → (∀ i, i < n → H2 (us.getD i 0) = some (.tup [xs.getD i .non, ys.getD i .non, zs.getD i .non])) → H2 D = some (.lst (us.map V.ref)) → Q (.ref D) H2
theorem pe_listZip3 {X : Cx} {e e2 e3 : Expr} {ta : TA} {p pos p2 pos2 : Pos} (hc : X.calm = true) (hg : Gl X "list") (hm : X.mg "list" = none) (hg2 : Gl X "zip") (hm2 : X.mg "zip" = none) (ha : PA X [e, e2, e3] ta)
    (hs : starEach [e, e2, e3] X.env = (false, eval e X.env) :: starEach [e2, e3] X.env := by rfl) (hpl : (backTo pos2 (starEach [e2, e3] X.env)).any (·.1) = false := by rfl)
    (na : starEach [.Call (.Name "zip" p2) [e, e2, e3] [] pos2] X.env = (false, eval (.Call (.Name "zip" p2) [e, e2, e3] [] pos2) X.env) :: starEach [] X.env := by rfl) :
    PE X (.Call (.Name "list" p) [.Call (.Name "zip" p2) [e, e2, e3] [] pos2] [] pos) (tLZ X.K ta) := by
  refine ⟨fun pins s σ H Q I h => ?_⟩
  refine Call_ (ld_blt I hg hm boot_list (PyProof.Rows.callWith_type1 (args_cons ?_ na) na))
  refine Call_ (ld_blt I hg2 hm2 PyProof.Rows.boot_zip (PyProof.Rows.callWith_type1 (thn (ha.run pos2 pins s σ H _ I h) fun us s1 ⟨vs, H1, I1, r1, q1⟩ => ?_) hs hpl))
  obtain ⟨a, b, c, xs, ys, zs, ex, hqx, hqy, hqz, n, lx, ly, lz, le, q⟩ := q1
  subst ex
  obtain ⟨u1, u2, u3, rfl, ru1, ru2, ru3⟩ : ∃ u1 u2 u3, us = [u1, u2, u3] ∧ RelV (.ref a) u1 ∧ RelV (.ref b) u2 ∧ RelV (.ref c) u3 := by
    cases r1 with
    | cons r rr =>
      cases rr with
      | cons r' rr =>
        cases rr with
        | cons r'' rr =>
          cases rr
          exact ⟨_, _, _, rfl, r, r', r''⟩
  obtain rfl : u1 = Value.ref a := ru1
  obtain rfl : u2 = Value.ref b := ru2
  obtain rfl : u3 = Value.ref c := ru3
  obtain ⟨A1, rA, pA, zA⟩ := I1.list hqx
  obtain ⟨A2, rB, pB, _⟩ := I1.list hqy
  obtain ⟨A3, rC, pC, _⟩ := I1.list hqz
  have hh := I1.ok.hd hc
  generalize hN : s1.heap.objs.size = N at *
  have la : a < N := by rw [← hN]; exact pA.lt
  have lb : b < N := by rw [← hN]; exact pB.lt
  have lc : c < N := by rw [← hN]; exact pC.lt
  have z1 : A1.toArray.size = xs.length := by rw [List.size_toArray]; exact rA.length.symm
  have z2 : A2.toArray.size = ys.length := by rw [List.size_toArray]; exact rB.length.symm
  have z3 : A3.toArray.size = zs.length := by rw [List.size_toArray]; exact rC.length.symm
  refine zip_begins3 (begins_list a A1.toArray) (begins_list b A2.toArray) (begins_list c A3.toArray) pA.isList pB.isList pC.isList fun h' hz hTI hTO g1 g2 g3 hsz hk => ?_
  rw [hN] at hz hTI hTO g1 g2 g3 hsz ⊢
  refine args_nil ?_
  have L := lie_nat N
  have D1 : ∀ A : Around, A.handled = none → Draws X.prog X.w A N [N, a] A1.toArray.size (fun i v => A1.toArray[i]? = some v) (fun i h => h.IsListIter N a i ∧ h.IsList a A1.toArray) := fun A e => Draws.list e N a (Nat.ne_of_lt la) A1.toArray
  have D2 : ∀ A : Around, A.handled = none → Draws X.prog X.w A (N + 1) [N + 1, b] A2.toArray.size (fun i v => A2.toArray[i]? = some v) (fun i h => h.IsListIter (N + 1) b i ∧ h.IsList b A2.toArray) := fun A e => Draws.list e (N + 1) b (Nat.ne_of_lt (Nat.lt_succ_of_lt lb)) A2.toArray
  have D3 : ∀ A : Around, A.handled = none → Draws X.prog X.w A (N + 2) [N + 2, c] A3.toArray.size (fun i v => A3.toArray[i]? = some v) (fun i h => h.IsListIter (N + 2) c i ∧ h.IsList c A3.toArray) := fun A e => Draws.list e (N + 2) c (Nat.ne_of_lt (Nat.lt_succ_of_lt (Nat.lt_succ_of_lt lc))) A3.toArray
  have S : ZipSep3 (N + 5) (N + 3) (N + 4) N (N + 1) (N + 2) [N, a] [N + 1, b] [N + 2, c] := zip_sep3 (in_below la) (in_below lb) (in_below lc)
  have hsz' : ({ s1 with heap := h' } : Shared).heap.objs.size = N + 6 := hsz
  have C : ZL.Lie N (N + 5) (N + 3) (N + 4) N (N + 1) (N + 2) ({ s1 with heap := h' } : Shared).heap.objs.size [N, a] [N + 1, b] [N + 2, c] := by
    rw [hsz']
    obtain ⟨a1, a2, a3, a4, a5, a6, a7, a8, a9, b1, b2⟩ := L
    exact ⟨⟨a1, a2⟩, a3, ⟨a4, a5⟩, ⟨a6, a7⟩, ⟨a8, a9⟩, ⟨b1, b2⟩, not_in2 (k := 0) la (by decide), not_in2 lb (by decide), not_in2 lc (by decide)⟩
  refine ZL.call_list (E := X.xe) (A := X.A) (h0 := s1.heap) C S (D1 _ hh) (D2 _ hh) (D3 _ hh) (n := n) (by rw [z1]; exact lx) (by rw [z2]; exact ly) (by rw [z3]; exact lz) (by rw [z1, z2, z3]; exact le) (Nat.le_trans lx zA) (Nat.le_of_eq hN) hk hz
    ⟨hTI, ⟨⟨_, g1, rfl, rfl⟩, pA.isList.at fun o x => hk _ o x⟩, ⟨⟨_, g2, rfl, rfl⟩, pB.isList.at fun o x => hk _ o x⟩, ⟨⟨_, g3, rfl, rfl⟩, pC.isList.at fun o x => hk _ o x⟩, .inl ⟨hz, _, _, _, hTO⟩⟩ fun h2 tk acc cc as k2 hL hl hG hacc => ?_
  have hge : s1.heap.objs.size ≤ ({ s1 with heap := h' } : Shared).heap.objs.size := by rw [hN, hsz']; exact Nat.le_add_right _ _
  generalize ({ s1 with heap := h' } : Shared).heap.objs.size = L0 at *
  have I2 : Inv X pins σ H1 { s1 with heap := h2, toks := tk } := I1.kept (t' := tk) k2
  have hn0 : H1 L0 = none := I1.hok.fresh hge
  have hlen : (as.map V.ref).length ≤ sizeLine := by rw [List.length_map, hl]; exact Nat.le_trans lx zA
  have I3 : Inv X pins σ (upd H1 L0 (.lst (as.map V.ref))) { s1 with heap := h2, toks := tk } := I2.take (h' := h2) (t' := tk) (fun b ob _ x => x) (I1.fpOk hge hn0) ⟨hlen, acc.toList, cc, by rw [hacc]; exact refs_vals as, by rw [Array.toArray_toList]; exact hL⟩
  have nd : as.Nodup := hG.rise.imp fun h => Nat.ne_of_lt h
  obtain ⟨H2, I4, g, qt⟩ := L2.DX.takeT (P := fun b vs => ∃ j : Nat, as[j]? = some b ∧ vs = [xs.getD j .non, ys.getD j .non, zs.getD j .non]) I1 as _ I3 nd fun b hb => by
    obtain ⟨j, hj⟩ := List.mem_iff_getElem?.mp hb
    obtain ⟨x1, x2, x3, e1, e2, e3, ht⟩ := hG.has j b hj
    have hbl : s1.heap.objs.size ≤ b := Nat.le_trans hge (Nat.le_of_lt (hG.above b hb))
    refine ⟨hbl, ?_, _, ⟨j, hj, rfl⟩, fun H3 => ⟨by rw [sizeLine_eq]; show 3 ≤ 16777216; omega, [x1, x2, x3], .cons (rel_at rA e1) (.cons (rel_at rB e2) (.cons (rel_at rC e3) .nil)), ⟨_, ht, rfl, 0, rfl⟩⟩⟩
    rw [upd_ne (Nat.ne_of_gt (hG.above b hb))]
    exact I1.hok.fresh hbl
  refine ⟨.ref L0, H2, I4, rfl, q H2 L0 as (fun b o x => g b o (by rw [upd_ne (ne_of_none x hn0)]; exact x)) hn0 hl (fun i hi => ?_) (g _ _ upd_same)⟩
  have hia : i < as.length := by rw [hl]; exact hi
  have e : as[i]? = some (as.getD i 0) := by rw [List.getD_eq_getElem?_getD, List.getElem?_eq_getElem hia]; rfl
  obtain ⟨vs, ⟨j, j1, ev⟩, hH⟩ := qt _ (List.mem_of_getElem? e)
  have eij : i = j := (List.getElem?_inj hia nd).mp (e.trans j1.symm)
  rw [hH, ev, eij]
end LH

namespace LH
open PySem PySem.Spec PyProof.Rows L2
/-! ### x not in a tuple of lists; a comprehension over enumerate(list) -/
def rNotInTD (K : PySem.W.Frag) : R2 := fun x y H Q => ∃ d ds, Dp K H x d ∧ Dp K H y (.tuple ds) ∧ SeqAt.shaped d = true ∧ PyData.canLayAll0 ds = true ∧ Q (.bl (!ds.any fun z => PyData.eqv z d)) H
theorem notInTD (K : PySem.W.Frag) {X : Cx} (hu : X.A.units + 65 < cLine) (h : X.K = K := by rfl) : OpR X (compareOp .NotIn) (rNotInTD K) := by
  subst h
  intro pins s σ H x y v u Q I rx ry h
  obtain ⟨d, ds, hd, he, sd, se, q⟩ := h
  obtain ⟨as, r1⟩ := Dp.reads I d x v hd rx
  obtain ⟨bs, r2⟩ := Dp.reads I (.tuple ds) y u he ry
  exact SeqAt.notIn_tuple_reads r2 r1 se (SeqAt.canLay_of_shaped sd) (room_in_shaped sd hu) ⟨.bl _, H, I, rfl, q⟩
theorem lc_enumF {K : PySem.W.Frag} {a : Addr} {tt : TT} {te : TE} {c1 c2 : Nat} {σ : L2.St} {H1 : Hp} {D : Addr} {Qd : Hp → Prop} (xs : List V) (f : Nat → V) (b : Nat → Bool) (hne : c1 ≠ c2) (hL : SqL K H1 a xs) (hD : H1 D = none) (hn : xs.length ≤ sizeLine)
    (ht : ∀ (i : Nat) (H : Hp) (Q : Bool → Hp → Prop), i < xs.length → Same H1 H → (∀ H', Same H H' → Q (b i) H') → tt ((((σ.set c2 none).set c1 none).set c1 (some (.int (i : Nat)))).set c2 (some (xs.getD i .non))) H Q)
    (he : ∀ i H Q, i < xs.length → Same H1 H → b i = true → Tell H (f i) Q → te ((((σ.set c2 none).set c1 none).set c1 (some (.int (i : Nat)))).set c2 (some (xs.getD i .non))) H Q)
    (hd : ∀ H, Same H1 H → H D = some (.lst (((List.range xs.length).filter b).map f)) → Qd H) :
    ∃ W : Nat → Nat → Hp → Prop, (∃ m, W 0 m (upd H1 D (.lst []))) ∧ ∀ i m H, W i m H →
      ((Ite K a).stop i H ∧ Qd H) ∨ ((Ite K a).go i H ∧ ∃ Nx : Hp → Prop, (∀ H', Nx H' → ∃ m', m' < m ∧ W (i + 1) m' H') ∧ ∀ x H', (Ite K a).yld i H x H' → gTup K 2 (gCons (gName c1) (gCons (gName c2) gNil)) x (wipe σ [c1, c2]) H' fun σ2 H2 => wipe σ2 [c1, c2] = wipe σ [c1, c2] ∧ tt σ2 H2 fun b H3 =>
        if b = true then te σ2 H3 fun y H4 => ∃ acc, H4 D = some (.lst acc) ∧ acc.length < sizeLine ∧ Nx (upd H4 D (.lst (acc ++ [y]))) else Nx H3) := by
  refine lc_it walk_enum (fun i H => Same H1 H ∧ H D = some (.lst (((List.range i).filter b).map f))) ⟨same_upd hD, upd_same⟩ (fun i H _ h => h.1.seq hL) (fun i x H H' hi hP hy => ?_) (fun H h => hd H h.1 h.2)
  obtain ⟨sm, eD⟩ := hP
  obtain ⟨T, x1, x2, rfl, nT, rfl, f1, f2⟩ := hy
  obtain rfl := Option.some.inj f1
  have f2 : xs[i]? = some x2 := f2
  have ex : x2 = xs.getD i .non := by rw [List.getD_eq_getElem?_getD, f2]; rfl
  subst ex
  have sT := same_upd (o := .tup [.int (i : Nat), xs.getD i .non]) nT
  refine ⟨T, _, rfl, .inl (.inl upd_same), rfl, _, _, rfl, _, _, rfl, rfl, ?_, ?_⟩
  · show (((((σ.set c2 none).set c1 none).set c1 (some (.int (i : Nat)))).set c2 (some (xs.getD i .non))).set c2 none).set c1 none = (σ.set c2 none).set c1 none
    rw [List.set_set, List.set_set, List.set_comm _ _ hne, List.set_set, List.set_comm _ _ hne.symm, List.set_comm _ _ hne, List.set_set]
  · refine ht i _ _ hi (sm.trans sT) fun H2 s2 => ?_
    have s2 := sT.trans s2
    cases hb : b i with
    | true =>
      rw [if_pos rfl]
      refine he i H2 _ hi (sm.trans s2) hb fun H3 s3 => ⟨_, s3 _ _ (s2 _ _ eD), ?_, ?_, ?_⟩
      · rw [List.length_map]
        have := List.length_filter_le b (List.range i)
        rw [List.length_range] at this
        omega
      · intro b' o hb'
        rw [upd_ne (ne_of_none hb' hD)]
        exact s3 _ _ (s2 _ _ (sm _ _ hb'))
      · rw [upd_same, List.range_succ, List.filter_append, List.map_append]
        simp [hb]
    | false =>
      rw [if_neg Bool.false_ne_true]
      refine ⟨sm.trans s2, ?_⟩
      rw [s2 _ _ eD, List.range_succ, List.filter_append, List.map_append]
      simp [hb]
/-- 'abc'[k].replace(' ', ''): the written text's own token is out by then -/
theorem pe_replIx {X : Cx} {r : R2} {c y z : Str} {b : Expr} {tb : TE} {j j0 k : Nat} {c0 c1 p0 p1 apos pos : Pos} (hr : IxR X r) (hb : PE X b tb) (hs : PlainIx b) (hyz : (y == z) = false := by decide)
    (hst : starEach [.Constant (.str y) j c0, .Constant (.str z) k c1] X.env = [(false, eval (.Constant (.str y) j c0) X.env), (false, eval (.Constant (.str z) k c1) X.env)] := by rfl)
    (hbase : attributeBase (.Subscript (.Constant (.str c) j0 p0) b p1) "replace" X.env (eval (.Subscript (.Constant (.str c) j0 p0) b p1) X.env) = eval (.Subscript (.Constant (.str c) j0 p0) b p1) X.env := by rfl) (hline : (apos.endLine == pos.line) = true := by rfl) :
    PE X (.Call (.Attribute (.Subscript (.Constant (.str c) j0 p0) b p1) "replace" apos) [.Constant (.str y) j c0, .Constant (.str z) k c1] [] pos) (CwR.tReplC (tOp r (tC (.str c)) tb) y z) := by
  refine ⟨fun pins s σ H Q I h => ?_⟩
  refine PySem.Call_method2 hbase hst hline (Subscript_ (Calls.Constant_str ?_))
  refine wpAny_mono (PySem.wpAny_toks_of (n := 1) (by show 1 ≤ s.toks + 1; omega) (hb.run pins _ σ H _ (I.tok _) h)) (fun u s2 q => ?_) fun _ _ x => x.2
  obtain ⟨hk, yv, H2, I2, r2, q2⟩ := q
  refine wpAny_mono (PySem.wpAny_toks_of hk (hr _ _ pins s2 σ H2 (.str c) yv _ u _ I2 ⟨_, rfl⟩ r2 q2 (hs _ _))) (fun v s3 q => ?_) fun _ _ x => x.2
  obtain ⟨hk3, v', H3, I3, r3, x, e1, hb3, q⟩ := q
  subst e1
  obtain ⟨tx, rfl⟩ := r3
  refine ⟨"str", _, PySem.F.plainAttrs_str, PySem.F.slot_str_replace, PySem.F.type_str_replace, typeIs_str _ _ _, (fun _ e => nomatch e), Calls.callWith_builtin rfl (Calls.evalArgs_plain (Calls.spliced_cons (Calls.Constant_str (Calls.spliced_cons (Calls.Constant_str (Calls.spliced_nil ?_))))))⟩
  exact PySem.SC.replace (by show s3.toks ≠ 0; omega) (by show s3.toks + 1 ≠ 0; omega) (by show s3.toks ≠ s3.toks + 1; omega) hyz hb3 fun t' k => ⟨.str (Txt.replace x y z), H3, I3.tok k, ⟨t', rfl⟩, q⟩
end LH

namespace K09
open PySem PySem.Spec PyProof.Rows L2 LH
def topS (i : Nat) : Stmt := PySem.Challenge.pw_letterhouse_k09_values_of_bytes.main.body.getD i (.Pass ⟨0, 0, 0, 0⟩)
def MSIGNS : Str := Str.ofString " !\"#$&'()*+,-./0123456789:;<=>?@ABCDEFGHIJKLMNOPQRSTUVWXYZ[\\]^_`abcdefghijklmnopqrstuvwxyz{|}~"
def SIX16 : Str := Str.ofString "0123456789ABCDEF"
def S64 : Str := Str.ofString "ABCDEFGHIJKLMNOPQRSTUVWXYZabcdefghijklmnopqrstuvwxyz0123456789+/"
structure Tx (mg : Str → Option Value) (tk : Nat → Tok) : Prop where
  n_ValueError : mg "ValueError" = none
  n_all : mg "all" = none
  n_bool : mg "bool" = none
  n_enumerate : mg "enumerate" = none
  n_int : mg "int" = none
  n_isinstance : mg "isinstance" = none
  n_len : mg "len" = none
  n_list : mg "list" = none
  n_max : mg "max" = none
  n_ord : mg "ord" = none
  n_range : mg "range" = none
  n_str : mg "str" = none
  n_sum : mg "sum" = none
  n_zip : mg "zip" = none
  n_tuple : mg "tuple" = none
  m_PERCENT : mg "PERCENT" = some (.int 37 (tk 0))
  m_ROW_SIGNS : mg "ROW_SIGNS" = some (.int 60 (tk 1))
  m_SIGNS : mg "SIGNS" = some (.str MSIGNS (tk 2))
  m_SIXTY_FOUR : mg "SIXTY_FOUR" = some (.str S64 (tk 3))
  m_HEAD : mg "HEAD" = some (.str (Str.ofString "=?") (tk 4))
  m_TAIL : mg "TAIL" = some (.str (Str.ofString "?=") (tk 5))
  m_WORD_BYTES : mg "WORD_BYTES" = some (.int 24 (tk 6))
  m_FEWEST_SIGNS : mg "FEWEST_SIGNS" = some (.int 4 (tk 7))
  m_MOST_SIGNS : mg "MOST_SIGNS" = some (.int 32 (tk 8))
end K09

namespace K09
open PySem PySem.Spec PyProof.Rows L2 LH
/-! ### the classes of refusals -/
/-- what isinstance says of its objects, class by class -/
def KitRow (K : PySem.W.Frag) (ca : Nat → Addr) (C : Addr) (row : List Bool) : Prop := row.length = 19 ∧ ∀ j, j < 19 → PySem.W.kitOne K (.ref C) (.ref (ca (j + 1))) = some (row.getD j false)
structure Ex (K : PySem.W.Frag) (mg : Str → Option Value) (ca : Nat → Addr) : Prop where
  m_HouseError : mg "HouseError" = some (.ref (ca 0))
  m_BadBytes : mg "BadBytes" = some (.ref (ca 1))
  m_BadName : mg "BadName" = some (.ref (ca 2))
  m_BadValue : mg "BadValue" = some (.ref (ca 3))
  m_TooLong : mg "TooLong" = some (.ref (ca 4))
  m_NoTime : mg "NoTime" = some (.ref (ca 5))
  m_BadPiece : mg "BadPiece" = some (.ref (ca 6))
  m_Twice : mg "Twice" = some (.ref (ca 7))
  m_NoLetter : mg "NoLetter" = some (.ref (ca 8))
  m_NoFolder : mg "NoFolder" = some (.ref (ca 9))
  m_BadLine : mg "BadLine" = some (.ref (ca 10))
  m_Wrong : mg "Wrong" = some (.ref (ca 11))
  m_BadRow : mg "BadRow" = some (.ref (ca 12))
  m_BadSixty : mg "BadSixty" = some (.ref (ca 13))
  m_BadSixteens : mg "BadSixteens" = some (.ref (ca 14))
  m_BadTime : mg "BadTime" = some (.ref (ca 15))
  m_BadPeople : mg "BadPeople" = some (.ref (ca 16))
  m_BadHeader : mg "BadHeader" = some (.ref (ca 17))
  m_BadBody : mg "BadBody" = some (.ref (ca 18))
  m_BadRule : mg "BadRule" = some (.ref (ca 19))
  r_BadBytes : RaiseH K (ca 0) (ca 1)
  t_BadBytes : KitRow K ca (ca 1) [true, false, false, false, false, false, false, false, false, false, false, false, false, false, false, false, false, false, false]
  r_BadValue : RaiseH K (ca 0) (ca 3)
  t_BadValue : KitRow K ca (ca 3) [false, false, true, false, false, false, false, false, false, false, false, false, false, false, false, false, false, false, false]
  x_BadSixty : PySem.W.exmOne K (.ref (ca 13)) (.ref (ca 13)) = some true
def nms : List Str := [Str.ofString "bytes", Str.ofString "name", Str.ofString "value", Str.ofString "long", Str.ofString "time", Str.ofString "piece", Str.ofString "twice", Str.ofString "letter", Str.ofString "folder", Str.ofString "line", Str.ofString "wrong", Str.ofString "row", Str.ofString "sixty", Str.ofString "sixteens", Str.ofString "badtime", Str.ofString "people", Str.ofString "header", Str.ofString "body", Str.ofString "rule", Str.ofString "base"]
/-- the words of a refusal -/
def kindWords (row : List Bool) : List Str := ((List.range 20).filter fun i => (row ++ [true]).getD i false).map fun i => nms.getD i Str.empty
section
variable {P : Program} {w : World} {K : PySem.W.Frag} {mg : Str → Option Value} {base : Heap} {tk : Nat → Tok} {ca : Nat → Addr}
/-- the list of pairs so far: at p refs to ts, the i-th a pair of a name and its truth -/
def Fnd (H : Hp) (p : Addr) (ts : List Addr) (bs : List Bool) : Prop := H p = some (.lst (ts.map V.ref)) ∧ ∀ i, i < ts.length → H (ts.getD i 0) = some (.tup [.str (nms.getD i Str.empty), .bl (bs.getD i false)])
theorem Fnd.grow {H H' : Hp} {p q : Addr} {ts us : List Addr} {bs : List Bool} (h : Fnd H p ts bs) (s : Same H H') (hq : H' q = some (.lst (ts.map V.ref ++ us.map V.ref))) (hu : ∀ j, j < us.length → H' (us.getD j 0) = some (.tup [.str (nms.getD (ts.length + j) Str.empty), .bl (bs.getD (ts.length + j) false)])) : Fnd H' q (ts ++ us) bs := by
  refine ⟨by rw [hq, List.map_append], fun i hi => ?_⟩
  by_cases hl : i < ts.length
  · rw [getD_app_l _ _ _ hl]
    exact s _ _ (h.2 i hl)
  · rw [getD_app_r _ _ _ (by omega)]
    rw [List.length_append] at hi
    have := hu (i - ts.length) (by omega)
    rw [show ts.length + (i - ts.length) = i by omega] at this
    exact this
/-! ### _law_kind -/
abbrev s__law_kind : Stmt := topS 75
abbrev N__law_kind : List Str := ["_law_e", "_law_found", "_law_words", "_law_word", "_law_one_fits"]
abbrev P__law_kind : List Str := ["_law_e"]
theorem sc__law_kind : FnScope N__law_kind ["_law_e"] (defScope s__law_kind) := ⟨rfl, rfl, rfl, by decide +kernel, rfl, by decide +kernel, by decide +kernel⟩
def sp_kind (K : PySem.W.Frag) (ca : Nat → Addr) : Sp := fun vs H Q _ => ∃ (a C dd : Addr) (kd : Str) (row : List Bool), vs = [.ref a] ∧ HeldD H C dd a (heFields kd) ∧ RaiseH K (ca 0) C ∧ KitRow K ca C row ∧ row.getD 10 false = false ∧ New H ((kindWords row).map V.str) Q
set_option maxHeartbeats 8000000 in
theorem ok_kind {f : Addr} {fd : FuncData} {k : Nat} (F : Fun K "_law_kind" "_law_kind" s__law_kind f fd) (T : Tx mg tk) (E : Ex K mg ca) : FnOk P w K mg base CX0 (k + 1) f fd P__law_kind (sp_kind K ca) := by
  refine F.ok sc__law_kind (fun vs H Q _ h => ?_) (fun cdv A outer s H vs Q _ hr h => ?_)
  · obtain ⟨a, C, dd, kd, row, rfl, _⟩ := h
    rfl
  · have nd := sc__law_kind.nd
    obtain ⟨a, C, dd, kd, row, rfl, hE, hR, ⟨hl, hK⟩, hW, q⟩ := h
    refine ⟨_, (pss_cons (ps_set (i := 1) nd rfl (.inl rfl) (pe_lst (pa_cons (pe_tup (pa_cons pe_str (pa_cons (pe_callB (cIsD K) (by rfl) T.n_isinstance (by decide +kernel) (pa_cons (pv 0) (pa_cons (pe_glob (v := .ref (ca 1)) (by rfl) E.m_BadBytes rfl) pa_nil))) pa_nil))) (pa_cons (pe_tup (pa_cons pe_str (pa_cons (pe_callB (cIsD K) (by rfl) T.n_isinstance (by decide +kernel) (pa_cons (pv 0) (pa_cons (pe_glob (v := .ref (ca 2)) (by rfl) E.m_BadName rfl) pa_nil))) pa_nil))) (pa_cons (pe_tup (pa_cons pe_str (pa_cons (pe_callB (cIsD K) (by rfl) T.n_isinstance (by decide +kernel) (pa_cons (pv 0) (pa_cons (pe_glob (v := .ref (ca 3)) (by rfl) E.m_BadValue rfl) pa_nil))) pa_nil))) pa_nil)))))
      (pss_cons (ps_set (i := 1) nd rfl (.inl rfl) (pe_op op_cat (pv 1) (pe_lst (pa_cons (pe_tup (pa_cons pe_str (pa_cons (pe_callB (cIsD K) (by rfl) T.n_isinstance (by decide +kernel) (pa_cons (pv 0) (pa_cons (pe_glob (v := .ref (ca 4)) (by rfl) E.m_TooLong rfl) pa_nil))) pa_nil))) (pa_cons (pe_tup (pa_cons pe_str (pa_cons (pe_callB (cIsD K) (by rfl) T.n_isinstance (by decide +kernel) (pa_cons (pv 0) (pa_cons (pe_glob (v := .ref (ca 5)) (by rfl) E.m_NoTime rfl) pa_nil))) pa_nil))) pa_nil)))))
      (pss_cons (ps_set (i := 1) nd rfl (.inl rfl) (pe_op op_cat (pv 1) (pe_lst (pa_cons (pe_tup (pa_cons pe_str (pa_cons (pe_callB (cIsD K) (by rfl) T.n_isinstance (by decide +kernel) (pa_cons (pv 0) (pa_cons (pe_glob (v := .ref (ca 6)) (by rfl) E.m_BadPiece rfl) pa_nil))) pa_nil))) (pa_cons (pe_tup (pa_cons pe_str (pa_cons (pe_callB (cIsD K) (by rfl) T.n_isinstance (by decide +kernel) (pa_cons (pv 0) (pa_cons (pe_glob (v := .ref (ca 7)) (by rfl) E.m_Twice rfl) pa_nil))) pa_nil))) pa_nil)))))
      (pss_cons (ps_set (i := 1) nd rfl (.inl rfl) (pe_op op_cat (pv 1) (pe_lst (pa_cons (pe_tup (pa_cons pe_str (pa_cons (pe_callB (cIsD K) (by rfl) T.n_isinstance (by decide +kernel) (pa_cons (pv 0) (pa_cons (pe_glob (v := .ref (ca 8)) (by rfl) E.m_NoLetter rfl) pa_nil))) pa_nil))) (pa_cons (pe_tup (pa_cons pe_str (pa_cons (pe_callB (cIsD K) (by rfl) T.n_isinstance (by decide +kernel) (pa_cons (pv 0) (pa_cons (pe_glob (v := .ref (ca 9)) (by rfl) E.m_NoFolder rfl) pa_nil))) pa_nil))) pa_nil)))))
      (pss_cons (ps_set (i := 1) nd rfl (.inl rfl) (pe_op op_cat (pv 1) (pe_lst (pa_cons (pe_tup (pa_cons pe_str (pa_cons (pe_callB (cIsD K) (by rfl) T.n_isinstance (by decide +kernel) (pa_cons (pv 0) (pa_cons (pe_glob (v := .ref (ca 10)) (by rfl) E.m_BadLine rfl) pa_nil))) pa_nil))) (pa_cons (pe_tup (pa_cons pe_str (pa_cons (pe_callB (cIsD K) (by rfl) T.n_isinstance (by decide +kernel) (pa_cons (pv 0) (pa_cons (pe_glob (v := .ref (ca 11)) (by rfl) E.m_Wrong rfl) pa_nil))) pa_nil))) (pa_cons (pe_tup (pa_cons pe_str (pa_cons (pe_callB (cIsD K) (by rfl) T.n_isinstance (by decide +kernel) (pa_cons (pv 0) (pa_cons (pe_glob (v := .ref (ca 12)) (by rfl) E.m_BadRow rfl) pa_nil))) pa_nil))) pa_nil))))))
      (pss_cons (ps_set (i := 1) nd rfl (.inl rfl) (pe_op op_cat (pv 1) (pe_lst (pa_cons (pe_tup (pa_cons pe_str (pa_cons (pe_callB (cIsD K) (by rfl) T.n_isinstance (by decide +kernel) (pa_cons (pv 0) (pa_cons (pe_glob (v := .ref (ca 13)) (by rfl) E.m_BadSixty rfl) pa_nil))) pa_nil))) (pa_cons (pe_tup (pa_cons pe_str (pa_cons (pe_callB (cIsD K) (by rfl) T.n_isinstance (by decide +kernel) (pa_cons (pv 0) (pa_cons (pe_glob (v := .ref (ca 14)) (by rfl) E.m_BadSixteens rfl) pa_nil))) pa_nil))) pa_nil)))))
      (pss_cons (ps_set (i := 1) nd rfl (.inl rfl) (pe_op op_cat (pv 1) (pe_lst (pa_cons (pe_tup (pa_cons pe_str (pa_cons (pe_callB (cIsD K) (by rfl) T.n_isinstance (by decide +kernel) (pa_cons (pv 0) (pa_cons (pe_glob (v := .ref (ca 15)) (by rfl) E.m_BadTime rfl) pa_nil))) pa_nil))) (pa_cons (pe_tup (pa_cons pe_str (pa_cons (pe_callB (cIsD K) (by rfl) T.n_isinstance (by decide +kernel) (pa_cons (pv 0) (pa_cons (pe_glob (v := .ref (ca 16)) (by rfl) E.m_BadPeople rfl) pa_nil))) pa_nil))) pa_nil)))))
      (pss_cons (ps_set (i := 1) nd rfl (.inl rfl) (pe_op op_cat (pv 1) (pe_lst (pa_cons (pe_tup (pa_cons pe_str (pa_cons (pe_callB (cIsD K) (by rfl) T.n_isinstance (by decide +kernel) (pa_cons (pv 0) (pa_cons (pe_glob (v := .ref (ca 17)) (by rfl) E.m_BadHeader rfl) pa_nil))) pa_nil))) (pa_cons (pe_tup (pa_cons pe_str (pa_cons (pe_callB (cIsD K) (by rfl) T.n_isinstance (by decide +kernel) (pa_cons (pv 0) (pa_cons (pe_glob (v := .ref (ca 18)) (by rfl) E.m_BadBody rfl) pa_nil))) pa_nil))) pa_nil)))))
      (pss_cons (ps_set (i := 1) nd rfl (.inl rfl) (pe_op op_cat (pv 1) (pe_lst (pa_cons (pe_tup (pa_cons pe_str (pa_cons (pe_callB (cIsD K) (by rfl) T.n_isinstance (by decide +kernel) (pa_cons (pv 0) (pa_cons (pe_glob (v := .ref (ca 19)) (by rfl) E.m_BadRule rfl) pa_nil))) pa_nil))) (pa_cons (pe_tup (pa_cons pe_str (pa_cons (pe_callB (cIsD K) (by rfl) T.n_isinstance (by decide +kernel) (pa_cons (pv 0) (pa_cons (pe_bltn (v := .ty "ValueError") (by rfl) T.n_ValueError (by decide +kernel) rfl) pa_nil))) pa_nil))) pa_nil)))))
      (pss_cons (ps_setLc (i := 2) (own := [("_law_word", 3), ("_law_one_fits", 4)]) (g := gTup K 2 (gCons (gName 3) (gCons (gName 4) gNil))) (by rfl) nd rfl rfl (sw_true rfl rfl rfl (by decide +kernel)) (pi_list (pv 1)) (blkOk_by (N := N__law_kind) (sc := defScope s__law_kind) (by decide +kernel)) (fun _ _ _ _ _ => by exact (pg_tup rfl (pgs_cons (pg_name (i := 3) nd rfl (Or.inl rfl)) (pgs_cons (pg_name (i := 4) nd rfl (Or.inl rfl)) pgs_nil)))) (fun _ _ _ _ _ => (pts_one (pt_val (pv 4)))) (fun _ _ _ _ _ => (pv 3)))
      (pss_cons (ps_if (pt_val (pe_callB (cIsD K) (by rfl) T.n_isinstance (by decide +kernel) (pa_cons (pv 0) (pa_cons (pe_glob (v := .ref (ca 11)) (by rfl) E.m_Wrong rfl) pa_nil))))
        (pss_one (ps_set (i := 2) nd rfl (.inl rfl) (pe_op op_cat (pv 2) (pe_lst (pa_cons (pe_fldD (K := K) (pv 0)) (pa_cons (pe_fldD (K := K) (pv 0)) pa_nil))))))
        pss_nil)
      (pss_one (ps_ret (pv 2)))))))))))))), ?_⟩
    have X := hR.xc
    have rr : ∀ (c : Addr) (u : Value), RelV (.ref c) u → u = .ref c := fun _ _ h => h
    have rt : ∀ (u : Value), RelV (.ty "ValueError") u → u = .type "ValueError" := fun _ h => h
    have bsD : ∀ i, i < 19 → (row ++ [true]).getD i false = row.getD i false := fun i hi => getD_app_l _ _ _ (by omega)
    have bs19 : (row ++ [true]).getD 19 false = true := by rw [getD_app_r _ _ _ (by omega), hl]; rfl
    have n2 : 2 ≤ sizeLine := Nat.le_of_lt (small1000 (by decide))
    have n3 : 3 ≤ sizeLine := Nat.le_of_lt (small1000 (by decide))
    have x0_0 : HeldD H C dd a (heFields kd) := hE
    refine ⟨.ref a, rfl, a, C, dd, _, .ref (ca 1), .ref (ca 1), _, rfl, x0_0, X, rr _, hK 0 (by decide), n2, fun t0 nt0 => ?_⟩
    have v0 := same_upd (o := .tup [.str (Str.ofString "bytes"), .bl (row.getD 0 false)]) nt0
    have x0_1 := x0_0.same v0
    refine ⟨.ref a, rfl, a, C, dd, _, .ref (ca 2), .ref (ca 2), _, rfl, x0_1, X, rr _, hK 1 (by decide), n2, fun t1 nt1 => ?_⟩
    have v1 := same_upd (o := .tup [.str (Str.ofString "name"), .bl (row.getD 1 false)]) nt1
    have x0_2 := x0_1.same v1
    refine ⟨.ref a, rfl, a, C, dd, _, .ref (ca 3), .ref (ca 3), _, rfl, x0_2, X, rr _, hK 2 (by decide), n2, fun t2 nt2 => ?_⟩
    have v2 := same_upd (o := .tup [.str (Str.ofString "value"), .bl (row.getD 2 false)]) nt2
    refine ⟨n3, fun l0 nl0 => ?_⟩
    have w0 := same_upd (o := .lst [V.ref t0, V.ref t1, V.ref t2]) nl0
    have y0 := w0 t0 _ (v2 _ _ (v1 _ _ upd_same))
    have y1 := w0 t1 _ (v2 _ _ upd_same)
    have y2 := w0 t2 _ upd_same
    generalize hH0 : upd _ l0 (.lst [V.ref t0, V.ref t1, V.ref t2]) = H0 at *
    have S0 : Same H H0 := (v0.trans (v1.trans (v2.trans w0)))
    have F0 : Fnd H0 l0 [t0, t1, t2] (row ++ [true]) := by
      refine ⟨by rw [← hH0, upd_same]; rfl, fun i hi => ?_⟩
      have : i = 0 ∨ i = 1 ∨ i = 2 := by have : i < 3 := hi; omega
      rcases this with rfl | rfl | rfl
      · rw [bsD 0 (by decide)]; exact y0
      · rw [bsD 1 (by decide)]; exact y1
      · rw [bsD 2 (by decide)]; exact y2
    have x1_0 : HeldD H0 C dd a (heFields kd) := hE.same S0
    refine ⟨.ref l0, rfl, .ref a, rfl, a, C, dd, _, .ref (ca 4), .ref (ca 4), _, rfl, x1_0, X, rr _, hK 3 (by decide), n2, fun t3 nt3 => ?_⟩
    have v3 := same_upd (o := .tup [.str (Str.ofString "long"), .bl (row.getD 3 false)]) nt3
    have x1_1 := x1_0.same v3
    refine ⟨.ref a, rfl, a, C, dd, _, .ref (ca 5), .ref (ca 5), _, rfl, x1_1, X, rr _, hK 4 (by decide), n2, fun t4 nt4 => ?_⟩
    have v4 := same_upd (o := .tup [.str (Str.ofString "time"), .bl (row.getD 4 false)]) nt4
    refine ⟨n2, fun l1 nl1 => ?_⟩
    have w1 := same_upd (o := .lst [V.ref t3, V.ref t4]) nl1
    have y3 := w1 t3 _ (v4 _ _ upd_same)
    have y4 := w1 t4 _ upd_same
    refine ⟨l0, l1, _, _, rfl, rfl, (v3.trans (v4.trans w1)) _ _ F0.1, upd_same, by rw [List.length_map, sizeLine_eq]; show 5 ≤ 16777216; decide, fun p1 np1 => ?_⟩
    have z1 := same_upd (o := .lst (([t0, t1, t2] : List Addr).map V.ref ++ [V.ref t3, V.ref t4])) np1
    have F1 : Fnd _ p1 [t0, t1, t2, t3, t4] (row ++ [true]) := F0.grow ((v3.trans (v4.trans w1)).trans z1) upd_same (us := [t3, t4]) fun j hj => by
      have : j = 0 ∨ j = 1 := by have : j < 2 := hj; omega
      rcases this with rfl | rfl
      · rw [show [t0, t1, t2].length + 0 = 3 from rfl, bsD 3 (by decide)]; exact z1 _ _ y3
      · rw [show [t0, t1, t2].length + 1 = 4 from rfl, bsD 4 (by decide)]; exact z1 _ _ y4
    have S1 : Same H _ := S0.trans ((v3.trans (v4.trans w1)).trans z1)
    generalize hH1 : upd _ p1 _ = H1 at F1 S1 ⊢
    clear z1 y3 y4 hH1
    have x2_0 : HeldD H1 C dd a (heFields kd) := hE.same S1
    refine ⟨.ref p1, rfl, .ref a, rfl, a, C, dd, _, .ref (ca 6), .ref (ca 6), _, rfl, x2_0, X, rr _, hK 5 (by decide), n2, fun t5 nt5 => ?_⟩
    have v5 := same_upd (o := .tup [.str (Str.ofString "piece"), .bl (row.getD 5 false)]) nt5
    have x2_1 := x2_0.same v5
    refine ⟨.ref a, rfl, a, C, dd, _, .ref (ca 7), .ref (ca 7), _, rfl, x2_1, X, rr _, hK 6 (by decide), n2, fun t6 nt6 => ?_⟩
    have v6 := same_upd (o := .tup [.str (Str.ofString "twice"), .bl (row.getD 6 false)]) nt6
    refine ⟨n2, fun l2 nl2 => ?_⟩
    have w2 := same_upd (o := .lst [V.ref t5, V.ref t6]) nl2
    have y5 := w2 t5 _ (v6 _ _ upd_same)
    have y6 := w2 t6 _ upd_same
    refine ⟨p1, l2, _, _, rfl, rfl, (v5.trans (v6.trans w2)) _ _ F1.1, upd_same, by rw [List.length_map, sizeLine_eq]; show 7 ≤ 16777216; decide, fun p2 np2 => ?_⟩
    have z2 := same_upd (o := .lst (([t0, t1, t2, t3, t4] : List Addr).map V.ref ++ [V.ref t5, V.ref t6])) np2
    have F2 : Fnd _ p2 [t0, t1, t2, t3, t4, t5, t6] (row ++ [true]) := F1.grow ((v5.trans (v6.trans w2)).trans z2) upd_same (us := [t5, t6]) fun j hj => by
      have : j = 0 ∨ j = 1 := by have : j < 2 := hj; omega
      rcases this with rfl | rfl
      · rw [show [t0, t1, t2, t3, t4].length + 0 = 5 from rfl, bsD 5 (by decide)]; exact z2 _ _ y5
      · rw [show [t0, t1, t2, t3, t4].length + 1 = 6 from rfl, bsD 6 (by decide)]; exact z2 _ _ y6
    have S2 : Same H _ := S1.trans ((v5.trans (v6.trans w2)).trans z2)
    generalize hH2 : upd _ p2 _ = H2 at F2 S2 ⊢
    clear z2 y5 y6 hH2
    have x3_0 : HeldD H2 C dd a (heFields kd) := hE.same S2
    refine ⟨.ref p2, rfl, .ref a, rfl, a, C, dd, _, .ref (ca 8), .ref (ca 8), _, rfl, x3_0, X, rr _, hK 7 (by decide), n2, fun t7 nt7 => ?_⟩
    have v7 := same_upd (o := .tup [.str (Str.ofString "letter"), .bl (row.getD 7 false)]) nt7
    have x3_1 := x3_0.same v7
    refine ⟨.ref a, rfl, a, C, dd, _, .ref (ca 9), .ref (ca 9), _, rfl, x3_1, X, rr _, hK 8 (by decide), n2, fun t8 nt8 => ?_⟩
    have v8 := same_upd (o := .tup [.str (Str.ofString "folder"), .bl (row.getD 8 false)]) nt8
    refine ⟨n2, fun l3 nl3 => ?_⟩
    have w3 := same_upd (o := .lst [V.ref t7, V.ref t8]) nl3
    have y7 := w3 t7 _ (v8 _ _ upd_same)
    have y8 := w3 t8 _ upd_same
    refine ⟨p2, l3, _, _, rfl, rfl, (v7.trans (v8.trans w3)) _ _ F2.1, upd_same, by rw [List.length_map, sizeLine_eq]; show 9 ≤ 16777216; decide, fun p3 np3 => ?_⟩
    have z3 := same_upd (o := .lst (([t0, t1, t2, t3, t4, t5, t6] : List Addr).map V.ref ++ [V.ref t7, V.ref t8])) np3
    have F3 : Fnd _ p3 [t0, t1, t2, t3, t4, t5, t6, t7, t8] (row ++ [true]) := F2.grow ((v7.trans (v8.trans w3)).trans z3) upd_same (us := [t7, t8]) fun j hj => by
      have : j = 0 ∨ j = 1 := by have : j < 2 := hj; omega
      rcases this with rfl | rfl
      · rw [show [t0, t1, t2, t3, t4, t5, t6].length + 0 = 7 from rfl, bsD 7 (by decide)]; exact z3 _ _ y7
      · rw [show [t0, t1, t2, t3, t4, t5, t6].length + 1 = 8 from rfl, bsD 8 (by decide)]; exact z3 _ _ y8
    have S3 : Same H _ := S2.trans ((v7.trans (v8.trans w3)).trans z3)
    generalize hH3 : upd _ p3 _ = H3 at F3 S3 ⊢
    clear z3 y7 y8 hH3
    have x4_0 : HeldD H3 C dd a (heFields kd) := hE.same S3
    refine ⟨.ref p3, rfl, .ref a, rfl, a, C, dd, _, .ref (ca 10), .ref (ca 10), _, rfl, x4_0, X, rr _, hK 9 (by decide), n2, fun t9 nt9 => ?_⟩
    have v9 := same_upd (o := .tup [.str (Str.ofString "line"), .bl (row.getD 9 false)]) nt9
    have x4_1 := x4_0.same v9
    refine ⟨.ref a, rfl, a, C, dd, _, .ref (ca 11), .ref (ca 11), _, rfl, x4_1, X, rr _, hK 10 (by decide), n2, fun t10 nt10 => ?_⟩
    have v10 := same_upd (o := .tup [.str (Str.ofString "wrong"), .bl (row.getD 10 false)]) nt10
    have x4_2 := x4_1.same v10
    refine ⟨.ref a, rfl, a, C, dd, _, .ref (ca 12), .ref (ca 12), _, rfl, x4_2, X, rr _, hK 11 (by decide), n2, fun t11 nt11 => ?_⟩
    have v11 := same_upd (o := .tup [.str (Str.ofString "row"), .bl (row.getD 11 false)]) nt11
    refine ⟨n3, fun l4 nl4 => ?_⟩
    have w4 := same_upd (o := .lst [V.ref t9, V.ref t10, V.ref t11]) nl4
    have y9 := w4 t9 _ (v11 _ _ (v10 _ _ upd_same))
    have y10 := w4 t10 _ (v11 _ _ upd_same)
    have y11 := w4 t11 _ upd_same
    refine ⟨p3, l4, _, _, rfl, rfl, (v9.trans (v10.trans (v11.trans w4))) _ _ F3.1, upd_same, by rw [List.length_map, sizeLine_eq]; show 12 ≤ 16777216; decide, fun p4 np4 => ?_⟩
    have z4 := same_upd (o := .lst (([t0, t1, t2, t3, t4, t5, t6, t7, t8] : List Addr).map V.ref ++ [V.ref t9, V.ref t10, V.ref t11])) np4
    have F4 : Fnd _ p4 [t0, t1, t2, t3, t4, t5, t6, t7, t8, t9, t10, t11] (row ++ [true]) := F3.grow ((v9.trans (v10.trans (v11.trans w4))).trans z4) upd_same (us := [t9, t10, t11]) fun j hj => by
      have : j = 0 ∨ j = 1 ∨ j = 2 := by have : j < 3 := hj; omega
      rcases this with rfl | rfl | rfl
      · rw [show [t0, t1, t2, t3, t4, t5, t6, t7, t8].length + 0 = 9 from rfl, bsD 9 (by decide)]; exact z4 _ _ y9
      · rw [show [t0, t1, t2, t3, t4, t5, t6, t7, t8].length + 1 = 10 from rfl, bsD 10 (by decide)]; exact z4 _ _ y10
      · rw [show [t0, t1, t2, t3, t4, t5, t6, t7, t8].length + 2 = 11 from rfl, bsD 11 (by decide)]; exact z4 _ _ y11
    have S4 : Same H _ := S3.trans ((v9.trans (v10.trans (v11.trans w4))).trans z4)
    generalize hH4 : upd _ p4 _ = H4 at F4 S4 ⊢
    clear z4 y9 y10 y11 hH4
    have x5_0 : HeldD H4 C dd a (heFields kd) := hE.same S4
    refine ⟨.ref p4, rfl, .ref a, rfl, a, C, dd, _, .ref (ca 13), .ref (ca 13), _, rfl, x5_0, X, rr _, hK 12 (by decide), n2, fun t12 nt12 => ?_⟩
    have v12 := same_upd (o := .tup [.str (Str.ofString "sixty"), .bl (row.getD 12 false)]) nt12
    have x5_1 := x5_0.same v12
    refine ⟨.ref a, rfl, a, C, dd, _, .ref (ca 14), .ref (ca 14), _, rfl, x5_1, X, rr _, hK 13 (by decide), n2, fun t13 nt13 => ?_⟩
    have v13 := same_upd (o := .tup [.str (Str.ofString "sixteens"), .bl (row.getD 13 false)]) nt13
    refine ⟨n2, fun l5 nl5 => ?_⟩
    have w5 := same_upd (o := .lst [V.ref t12, V.ref t13]) nl5
    have y12 := w5 t12 _ (v13 _ _ upd_same)
    have y13 := w5 t13 _ upd_same
    refine ⟨p4, l5, _, _, rfl, rfl, (v12.trans (v13.trans w5)) _ _ F4.1, upd_same, by rw [List.length_map, sizeLine_eq]; show 14 ≤ 16777216; decide, fun p5 np5 => ?_⟩
    have z5 := same_upd (o := .lst (([t0, t1, t2, t3, t4, t5, t6, t7, t8, t9, t10, t11] : List Addr).map V.ref ++ [V.ref t12, V.ref t13])) np5
    have F5 : Fnd _ p5 [t0, t1, t2, t3, t4, t5, t6, t7, t8, t9, t10, t11, t12, t13] (row ++ [true]) := F4.grow ((v12.trans (v13.trans w5)).trans z5) upd_same (us := [t12, t13]) fun j hj => by
      have : j = 0 ∨ j = 1 := by have : j < 2 := hj; omega
      rcases this with rfl | rfl
      · rw [show [t0, t1, t2, t3, t4, t5, t6, t7, t8, t9, t10, t11].length + 0 = 12 from rfl, bsD 12 (by decide)]; exact z5 _ _ y12
      · rw [show [t0, t1, t2, t3, t4, t5, t6, t7, t8, t9, t10, t11].length + 1 = 13 from rfl, bsD 13 (by decide)]; exact z5 _ _ y13
    have S5 : Same H _ := S4.trans ((v12.trans (v13.trans w5)).trans z5)
    generalize hH5 : upd _ p5 _ = H5 at F5 S5 ⊢
    clear z5 y12 y13 hH5
    have x6_0 : HeldD H5 C dd a (heFields kd) := hE.same S5
    refine ⟨.ref p5, rfl, .ref a, rfl, a, C, dd, _, .ref (ca 15), .ref (ca 15), _, rfl, x6_0, X, rr _, hK 14 (by decide), n2, fun t14 nt14 => ?_⟩
    have v14 := same_upd (o := .tup [.str (Str.ofString "badtime"), .bl (row.getD 14 false)]) nt14
    have x6_1 := x6_0.same v14
    refine ⟨.ref a, rfl, a, C, dd, _, .ref (ca 16), .ref (ca 16), _, rfl, x6_1, X, rr _, hK 15 (by decide), n2, fun t15 nt15 => ?_⟩
    have v15 := same_upd (o := .tup [.str (Str.ofString "people"), .bl (row.getD 15 false)]) nt15
    refine ⟨n2, fun l6 nl6 => ?_⟩
    have w6 := same_upd (o := .lst [V.ref t14, V.ref t15]) nl6
    have y14 := w6 t14 _ (v15 _ _ upd_same)
    have y15 := w6 t15 _ upd_same
    refine ⟨p5, l6, _, _, rfl, rfl, (v14.trans (v15.trans w6)) _ _ F5.1, upd_same, by rw [List.length_map, sizeLine_eq]; show 16 ≤ 16777216; decide, fun p6 np6 => ?_⟩
    have z6 := same_upd (o := .lst (([t0, t1, t2, t3, t4, t5, t6, t7, t8, t9, t10, t11, t12, t13] : List Addr).map V.ref ++ [V.ref t14, V.ref t15])) np6
    have F6 : Fnd _ p6 [t0, t1, t2, t3, t4, t5, t6, t7, t8, t9, t10, t11, t12, t13, t14, t15] (row ++ [true]) := F5.grow ((v14.trans (v15.trans w6)).trans z6) upd_same (us := [t14, t15]) fun j hj => by
      have : j = 0 ∨ j = 1 := by have : j < 2 := hj; omega
      rcases this with rfl | rfl
      · rw [show [t0, t1, t2, t3, t4, t5, t6, t7, t8, t9, t10, t11, t12, t13].length + 0 = 14 from rfl, bsD 14 (by decide)]; exact z6 _ _ y14
      · rw [show [t0, t1, t2, t3, t4, t5, t6, t7, t8, t9, t10, t11, t12, t13].length + 1 = 15 from rfl, bsD 15 (by decide)]; exact z6 _ _ y15
    have S6 : Same H _ := S5.trans ((v14.trans (v15.trans w6)).trans z6)
    generalize hH6 : upd _ p6 _ = H6 at F6 S6 ⊢
    clear z6 y14 y15 hH6
    have x7_0 : HeldD H6 C dd a (heFields kd) := hE.same S6
    refine ⟨.ref p6, rfl, .ref a, rfl, a, C, dd, _, .ref (ca 17), .ref (ca 17), _, rfl, x7_0, X, rr _, hK 16 (by decide), n2, fun t16 nt16 => ?_⟩
    have v16 := same_upd (o := .tup [.str (Str.ofString "header"), .bl (row.getD 16 false)]) nt16
    have x7_1 := x7_0.same v16
    refine ⟨.ref a, rfl, a, C, dd, _, .ref (ca 18), .ref (ca 18), _, rfl, x7_1, X, rr _, hK 17 (by decide), n2, fun t17 nt17 => ?_⟩
    have v17 := same_upd (o := .tup [.str (Str.ofString "body"), .bl (row.getD 17 false)]) nt17
    refine ⟨n2, fun l7 nl7 => ?_⟩
    have w7 := same_upd (o := .lst [V.ref t16, V.ref t17]) nl7
    have y16 := w7 t16 _ (v17 _ _ upd_same)
    have y17 := w7 t17 _ upd_same
    refine ⟨p6, l7, _, _, rfl, rfl, (v16.trans (v17.trans w7)) _ _ F6.1, upd_same, by rw [List.length_map, sizeLine_eq]; show 18 ≤ 16777216; decide, fun p7 np7 => ?_⟩
    have z7 := same_upd (o := .lst (([t0, t1, t2, t3, t4, t5, t6, t7, t8, t9, t10, t11, t12, t13, t14, t15] : List Addr).map V.ref ++ [V.ref t16, V.ref t17])) np7
    have F7 : Fnd _ p7 [t0, t1, t2, t3, t4, t5, t6, t7, t8, t9, t10, t11, t12, t13, t14, t15, t16, t17] (row ++ [true]) := F6.grow ((v16.trans (v17.trans w7)).trans z7) upd_same (us := [t16, t17]) fun j hj => by
      have : j = 0 ∨ j = 1 := by have : j < 2 := hj; omega
      rcases this with rfl | rfl
      · rw [show [t0, t1, t2, t3, t4, t5, t6, t7, t8, t9, t10, t11, t12, t13, t14, t15].length + 0 = 16 from rfl, bsD 16 (by decide)]; exact z7 _ _ y16
      · rw [show [t0, t1, t2, t3, t4, t5, t6, t7, t8, t9, t10, t11, t12, t13, t14, t15].length + 1 = 17 from rfl, bsD 17 (by decide)]; exact z7 _ _ y17
    have S7 : Same H _ := S6.trans ((v16.trans (v17.trans w7)).trans z7)
    generalize hH7 : upd _ p7 _ = H7 at F7 S7 ⊢
    clear z7 y16 y17 hH7
    have x8_0 : HeldD H7 C dd a (heFields kd) := hE.same S7
    refine ⟨.ref p7, rfl, .ref a, rfl, a, C, dd, _, .ref (ca 19), .ref (ca 19), _, rfl, x8_0, X, rr _, hK 18 (by decide), n2, fun t18 nt18 => ?_⟩
    have v18 := same_upd (o := .tup [.str (Str.ofString "rule"), .bl (row.getD 18 false)]) nt18
    have x8_1 := x8_0.same v18
    refine ⟨.ref a, rfl, a, C, dd, _, .ty "ValueError", .type "ValueError", _, rfl, x8_1, X, rt, hR.base, n2, fun t19 nt19 => ?_⟩
    have v19 := same_upd (o := .tup [.str (Str.ofString "base"), .bl (true)]) nt19
    refine ⟨n2, fun l8 nl8 => ?_⟩
    have w8 := same_upd (o := .lst [V.ref t18, V.ref t19]) nl8
    have y18 := w8 t18 _ (v19 _ _ upd_same)
    have y19 := w8 t19 _ upd_same
    refine ⟨p7, l8, _, _, rfl, rfl, (v18.trans (v19.trans w8)) _ _ F7.1, upd_same, by rw [List.length_map, sizeLine_eq]; show 20 ≤ 16777216; decide, fun p8 np8 => ?_⟩
    have z8 := same_upd (o := .lst (([t0, t1, t2, t3, t4, t5, t6, t7, t8, t9, t10, t11, t12, t13, t14, t15, t16, t17] : List Addr).map V.ref ++ [V.ref t18, V.ref t19])) np8
    have F8 : Fnd _ p8 [t0, t1, t2, t3, t4, t5, t6, t7, t8, t9, t10, t11, t12, t13, t14, t15, t16, t17, t18, t19] (row ++ [true]) := F7.grow ((v18.trans (v19.trans w8)).trans z8) upd_same (us := [t18, t19]) fun j hj => by
      have : j = 0 ∨ j = 1 := by have : j < 2 := hj; omega
      rcases this with rfl | rfl
      · rw [show [t0, t1, t2, t3, t4, t5, t6, t7, t8, t9, t10, t11, t12, t13, t14, t15, t16, t17].length + 0 = 18 from rfl, bsD 18 (by decide)]; exact z8 _ _ y18
      · rw [show [t0, t1, t2, t3, t4, t5, t6, t7, t8, t9, t10, t11, t12, t13, t14, t15, t16, t17].length + 1 = 19 from rfl, bs19]; exact z8 _ _ y19
    have S8 : Same H _ := S7.trans ((v18.trans (v19.trans w8)).trans z8)
    generalize hH8 : upd _ p8 _ = H8 at F8 S8 ⊢
    clear z8 y18 y19 hH8
    generalize hts : [t0, t1, t2, t3, t4, t5, t6, t7, t8, t9, t10, t11, t12, t13, t14, t15, t16, t17, t18, t19] = ts at F8
    have htl : ts.length = 20 := by rw [← hts]; rfl
    refine ⟨.ref p8, rfl, p8, rfl, ⟨_, .inl (.inl F8.1)⟩, fun D hD => lc_pairs (ts := ts) (ps := fun i => (.str (nms.getD i Str.empty), .bl ((row ++ [true]).getD i false))) (fun i => .str (nms.getD i Str.empty)) (fun i => (row ++ [true]).getD i false) (by decide) (.inl (.inl F8.1)) (fun i hi => .inl (.inl (F8.2 i hi))) hD (by rw [htl]; exact Nat.le_of_lt (small1000 (by decide))) (fun i H9 Q9 hi sm q9 => ?_) (fun i H9 Q9 hi sm hb q9 => ?_) (fun H9 s9 e9 => ?_)⟩
    · exact ⟨.bl ((row ++ [true]).getD i false), rfl, _, rfl, q9 _ (Same.refl _)⟩
    · exact ⟨.str (nms.getD i Str.empty), rfl, q9 _ (Same.refl _)⟩
    · refine ⟨.ref a, rfl, a, C, dd, _, .ref (ca 11), .ref (ca 11), _, rfl, (hE.same S8).same s9, X, rr _, hK 10 (by decide), _, rfl, ?_⟩
      rw [hW]
      refine iteF ⟨.ref D, rfl, q H9 D (S8.trans s9) (S8.free hD) ?_⟩
      rw [e9, htl]
      unfold kindWords
      rw [List.map_map]
      rfl
end
end K09

namespace K09
open PySem PySem.Spec PyProof.Rows L2 LH
section
variable {P : Program} {w : World} {K : PySem.W.Frag} {mg : Str → Option Value} {base : Heap} {tk : Nat → Tok} {ca : Nat → Addr}
/-! ### bytes -/
def nb (l : List Nat) : List V := l.map fun b => .int (b : Nat)
def BytesN (l : List Nat) : Prop := ∀ b ∈ l, b < 256
theorem nb_len (l : List Nat) : (nb l).length = l.length := List.length_map ..
theorem nb_at (l : List Nat) {i : Nat} (h : i < l.length) : (nb l).getD i .non = .int (l.getD i 0 : Nat) := by
  unfold nb
  rw [List.getD_eq_getElem?_getD, List.getElem?_map, List.getElem?_eq_getElem h, List.getD_eq_getElem?_getD, List.getElem?_eq_getElem h]
  rfl
theorem getD_mem {α : Type} (l : List α) (d : α) {i : Nat} (h : i < l.length) : l.getD i d ∈ l := by
  rw [List.getD_eq_getElem?_getD, List.getElem?_eq_getElem h]
  exact List.getElem_mem h
def isSgn (b : Nat) : Bool := decide (32 ≤ b) && decide (b ≤ 126) && !decide (b = 37)
/-- a thing that is no list -/
def NoL (K : PySem.W.Frag) (H : Hp) (x : V) : Prop := ∃ t, TyX K H x t ∧ PySem.W.kitOne K t (.type "list") = some false
/-- an element that is a whole number, or one of some other things -/
def ElemB (H : Hp) (v : V) : Prop := (∃ i, v = .int i) ∨ v = .non ∨ (∃ b, v = .bl b) ∨ (∃ z, v = .str z) ∨ ∃ a xs, v = .ref a ∧ H a = some (.lst xs)
theorem ElemB.same {H H' : Hp} {v : V} (s : Same H H') (h : ElemB H v) : ElemB H' v := by
  rcases h with h | h | h | h | ⟨a, xs, h, e⟩
  · exact .inl h
  · exact .inr (.inl h)
  · exact .inr (.inr (.inl h))
  · exact .inr (.inr (.inr (.inl h)))
  · exact .inr (.inr (.inr (.inr ⟨a, xs, h, s _ _ e⟩)))
def okV : V → Bool
  | .int i => decide (0 ≤ i) && decide (i ≤ 255)
  | _ => false
def isI : V → Bool
  | .int _ => true
  | _ => false
/-! ### is_number -/
abbrev s_is_number : Stmt := topS 29
abbrev N_is_number : List Str := ["thing"]
abbrev P_is_number : List Str := ["thing"]
theorem sc_is_number : FnScope N_is_number ["thing"] (defScope s_is_number) := ⟨rfl, rfl, rfl, by decide +kernel, rfl, by decide +kernel, by decide +kernel⟩
def sp_is_number : Sp := fun vs H Q _ => ∃ v : V, vs = [v] ∧ ElemB H v ∧ Tell H (.bl (isI v)) Q
theorem ok_is_number {f : Addr} {fd : FuncData} {k : Nat} (F : Fun K "is_number" "is_number" s_is_number f fd) (T : Tx mg tk) : FnOk P w K mg base CX0 (k + 1) f fd P_is_number sp_is_number := by
  refine F.ok sc_is_number (fun vs H Q E h => ?_) (fun cdv A outer s H vs Q E hr h => ?_)
  · obtain ⟨v, rfl, _⟩ := h
    rfl
  · have nd := sc_is_number.nd
    obtain ⟨v, rfl, hv, q⟩ := h
    refine ⟨_, (pss_one (ps_ret (pe_and (pe_callB (cIsi K) (by rfl) T.n_isinstance (by decide +kernel) (pa_cons (pv 0) (pa_cons (pe_bltn (v := .ty "int") (by rfl) T.n_int (by decide +kernel) rfl) pa_nil))) (pe_one (pe_not (pe_callB (cIsi K) (by rfl) T.n_isinstance (by decide +kernel) (pa_cons (pv 0) (pa_cons (pe_bltn (v := .ty "bool") (by rfl) T.n_bool (by decide +kernel) rfl) pa_nil)))))))), ?_⟩
    rcases hv with ⟨i, rfl⟩ | rfl | ⟨b, rfl⟩ | ⟨z, rfl⟩ | ⟨a, xs, rfl, e⟩
    · exact ⟨.int i, rfl, .int i, .ty "int", _, _, true, rfl, .ty _, .base (.int i), kit_ty (by decide +kernel), true, rfl, iteT ⟨.int i, rfl, .int i, .ty "bool", _, _, false, rfl, .ty _, .base (.int i), kit_ty (by decide +kernel), false, rfl, q H (Same.refl _)⟩⟩
    · exact ⟨.non, rfl, .non, .ty "int", _, _, false, rfl, .ty _, .base .non, kit_ty (by decide +kernel), false, rfl, iteF (q H (Same.refl _))⟩
    · exact ⟨.bl b, rfl, .bl b, .ty "int", _, _, true, rfl, .ty _, .base (.bl b), kit_ty (by decide +kernel), true, rfl, iteT ⟨.bl b, rfl, .bl b, .ty "bool", _, _, true, rfl, .ty _, .base (.bl b), kit_ty (by decide +kernel), true, rfl, q H (Same.refl _)⟩⟩
    · exact ⟨.str z, rfl, .str z, .ty "int", _, _, false, rfl, .ty _, .base (.str z), kit_ty (by decide +kernel), false, rfl, iteF (q H (Same.refl _))⟩
    · exact ⟨.ref a, rfl, .ref a, .ty "int", _, _, false, rfl, .ty _, .base (.lst e), kit_ty (by decide +kernel), false, rfl, iteF (q H (Same.refl _))⟩
/-! ### is_bytes -/
abbrev s_is_bytes : Stmt := topS 30
abbrev N_is_bytes : List Str := ["thing", "byte"]
abbrev P_is_bytes : List Str := ["thing"]
theorem sc_is_bytes : FnScope N_is_bytes ["thing"] (defScope s_is_bytes) := ⟨rfl, rfl, rfl, by decide +kernel, rfl, by decide +kernel, by decide +kernel⟩
def sp_is_bytesG (K : PySem.W.Frag) : Sp := fun vs H Q _ => ∃ (x : V) (b : Bool), vs = [x] ∧ ((NoL K H x ∧ b = false) ∨ ∃ (a : Addr) (xs : List V), x = .ref a ∧ H a = some (.lst xs) ∧ xs.length ≤ 100000 ∧ (∀ v ∈ xs, ElemB H v) ∧ b = xs.all okV) ∧ Tell H (.bl b) Q
theorem ok_is_bytesG {f fN : Addr} {fd fdN : FuncData} (F : Fun K "is_bytes" "is_bytes" s_is_bytes f fd) (T : Tx mg tk) (D_is_number : Def P w K mg base "is_number" 1 fN fdN P_is_number sp_is_number) : FnOk P w K mg base CX0 2 f fd P_is_bytes (sp_is_bytesG K) := by
  refine F.ok sc_is_bytes (fun vs H Q E h => ?_) (fun cdv A outer s H vs Q E hr h => ?_)
  · obtain ⟨x, b, rfl, _⟩ := h
    rfl
  · have nd := sc_is_bytes.nd
    obtain ⟨x, b, rfl, hx, q⟩ := h
    refine ⟨_, (pss_cons (ps_if (pt_not (pt_val (pe_callB (cIsi K) (by rfl) T.n_isinstance (by decide +kernel) (pa_cons (pv 0) (pa_cons (pe_bltn (v := .ty "list") (by rfl) T.n_list (by decide +kernel) rfl) pa_nil)))))
        (pss_one (ps_ret pe_bl))
        pss_nil)
      (pss_one (ps_ret (pe_callB (cAll K) (by rfl) T.n_all (by decide +kernel) (pa_cons (pe_lc (own := [("byte", 1)]) (g := gName 1) (by rfl) nd (pi_list (pv 0)) (blkOk_by (N := N_is_bytes) (sc := defScope s_is_bytes) (by decide +kernel)) (fun _ _ _ _ _ => (pg_name (i := 1) nd rfl (Or.inl rfl))) (fun _ _ _ _ _ => pts_nil) (fun _ _ _ _ _ => (pe_and (pe_def D_is_number (hr.mono (by decide)) (pa_cons (pv 1) pa_nil)) (pe_one (pe_chain op_le op_le pe_int (pv 1) pe_int))))) pa_nil))))), ?_⟩
    rcases hx with ⟨⟨t, ty, hk⟩, rfl⟩ | ⟨a, xs, rfl, hS, hl, hel, rfl⟩
    · exact ifT true (fun k q1 => notT false (fun k q2 => ⟨x, rfl, x, .ty "list", _, _, false, rfl, .ty _, ty, hk, false, rfl, q2 _ (Same.refl _)⟩) q1) (fun _ H1 s1 => q H1 s1) (fun h => nomatch h)
    refine ifT false (fun k q1 => notT true (fun k q2 => ⟨.ref a, rfl, .ref a, .ty "list", _, _, true, rfl, .ty _, .base (.lst hS), kit_ty (by decide +kernel), true, rfl, q2 _ (Same.refl _)⟩) q1) (fun h => nomatch h) (fun _ H1 s1 => ?_)
    have eS := s1 _ _ hS
    refine ⟨.ref a, rfl, a, rfl, ⟨_, .inl (.inl eS)⟩, fun D hD => lc_pure (fun i => xs.getD i .non) (fun i => .bl (okV (xs.getD i .non))) walk_listF (fun H2 s2 => s2.seq (.inl (.inl eS))) hD (by rw [sizeLine_eq]; omega) (fun i H2 Q2 hi s2 q2 => ?_) (fun H2 s2 e => ?_)⟩
    · have hbi := (hel (xs.getD i .non) (by rw [List.getD_eq_getElem?_getD, List.getElem?_eq_getElem hi]; exact List.getElem_mem hi)).same (s1.trans s2)
      generalize xs.getD i .non = v at *
      refine ⟨v, rfl, v, rfl, hbi, fun H3 s3 => ?_⟩
      rcases hbi with ⟨i, rfl⟩ | rfl | ⟨b, rfl⟩ | ⟨z, rfl⟩ | ⟨a, xs, rfl, e⟩
      · refine ⟨true, rfl, iteT ⟨.int i, rfl, 0, i, rfl, rfl, _, rfl, ?_⟩⟩
        have q2 : Tell H2 (.bl (decide (0 ≤ i) && decide (i ≤ 255))) Q2 := q2
        by_cases h0 : 0 ≤ i
        · rw [decide_eq_true h0] at q2 ⊢
          exact iteT ⟨_, _, rfl, rfl, q2 _ s3⟩
        · rw [decide_eq_false h0] at q2 ⊢
          exact iteF (q2 _ s3)
      · exact ⟨false, rfl, iteF (q2 _ s3)⟩
      · exact ⟨false, rfl, iteF (q2 _ s3)⟩
      · exact ⟨false, rfl, iteF (q2 _ s3)⟩
      · exact ⟨false, rfl, iteF (q2 _ s3)⟩
    · refine ⟨D, (List.range xs.length).map fun i => okV (xs.getD i .non), rfl, .inl (.inl (by rw [e, List.map_map]; rfl)), ?_⟩
      have := lall_range xs V.non okV
      rw [this]
      exact q _ (s1.trans s2)
theorem nb_elem {H : Hp} {l : List Nat} : ∀ v ∈ nb l, ElemB H v := fun v hv => by
  obtain ⟨b, _, rfl⟩ := List.mem_map.mp hv
  exact .inl ⟨_, rfl⟩
theorem nb_ok {l : List Nat} (h : BytesN l) : (nb l).all okV = true := by
  rw [List.all_eq_true]
  intro v hv
  obtain ⟨b, hb, rfl⟩ := List.mem_map.mp hv
  have := h b hb
  show (decide (0 ≤ ((b : Nat) : Int)) && decide (((b : Nat) : Int) ≤ 255)) = true
  rw [decide_eq_true (by omega), decide_eq_true (by omega)]
  rfl
def sp_is_bytes : Sp := fun vs H Q _ => ∃ (a : Addr) (l : List Nat), vs = [.ref a] ∧ H a = some (.lst (nb l)) ∧ BytesN l ∧ l.length ≤ 100000 ∧ Tell H (.bl true) Q
theorem ok_is_bytes {f : Addr} {fd : FuncData} {k : Nat} (F : FnOk P w K mg base CX0 k f fd P_is_bytes (sp_is_bytesG K)) : FnOk P w K mg base CX0 k f fd P_is_bytes sp_is_bytes := by
  refine F.imp fun vs H Q E h => ?_
  obtain ⟨a, l, rfl, ea, hb, hl, q⟩ := h
  exact ⟨.ref a, true, rfl, .inr ⟨a, nb l, rfl, ea, by rw [nb_len]; exact hl, nb_elem, (nb_ok hb).symm⟩, q⟩
/-! ### is_sign_byte -/
abbrev s_is_sign_byte : Stmt := topS 31
abbrev N_is_sign_byte : List Str := ["byte"]
abbrev P_is_sign_byte : List Str := ["byte"]
theorem sc_is_sign_byte : FnScope N_is_sign_byte ["byte"] (defScope s_is_sign_byte) := ⟨rfl, rfl, rfl, by decide +kernel, rfl, by decide +kernel, by decide +kernel⟩
def sp_sign_byte : Sp := fun vs H Q _ => ∃ b : Nat, vs = [.int (b : Nat)] ∧ Tell H (.bl (isSgn b)) Q
theorem ok_sign_byte {f : Addr} {fd : FuncData} {k : Nat} (F : Fun K "is_sign_byte" "is_sign_byte" s_is_sign_byte f fd) (T : Tx mg tk) : FnOk P w K mg base CX0 (k + 1) f fd P_is_sign_byte sp_sign_byte := by
  refine F.ok sc_is_sign_byte (fun vs H Q E h => ?_) (fun cdv A outer s H vs Q E hr h => ?_)
  · obtain ⟨b, rfl, _⟩ := h
    rfl
  · have nd := sc_is_sign_byte.nd
    obtain ⟨b, rfl, q⟩ := h
    refine ⟨_, (pss_one (ps_ret (pe_and (pe_chain op_le op_le pe_int (pv 0) pe_int) (pe_one (pe_cmpR op_ne (pv 0) (pe_glob (v := .int 37) (by rfl) T.m_PERCENT ⟨_, rfl⟩) (nomark _)))))), ?_⟩
    have q0 := q H (Same.refl _)
    unfold isSgn at q0
    refine ⟨.int (b : Nat), rfl, 32, _, rfl, rfl, _, rfl, ?_⟩
    by_cases h1 : 32 ≤ b
    · rw [decide_eq_true (show (32 : Int) ≤ ((b : Nat) : Int) by omega)]
      rw [decide_eq_true h1] at q0
      refine iteT ⟨_, 126, rfl, rfl, _, rfl, ?_⟩
      by_cases h2 : b ≤ 126
      · rw [decide_eq_true (show ((b : Nat) : Int) ≤ 126 by omega)]
        rw [decide_eq_true h2] at q0
        refine iteT ⟨.int (b : Nat), rfl, rfl, ?_⟩
        rw [show decide (V.int ((b : Nat) : Int) = V.int 37) = decide (b = 37) by rw [vint_dec]; exact decide_eq_decide.mpr (by omega)]
        exact q0
      · rw [decide_eq_false (show ¬ ((b : Nat) : Int) ≤ 126 by omega)]
        rw [decide_eq_false h2] at q0
        exact iteF q0
    · rw [decide_eq_false (show ¬ (32 : Int) ≤ ((b : Nat) : Int) by omega)]
      rw [decide_eq_false h1] at q0
      exact iteF ⟨false, rfl, iteF q0⟩
/-! ### sign_of_byte -/
abbrev s_sign_of_byte : Stmt := topS 32
abbrev N_sign_of_byte : List Str := ["byte"]
abbrev P_sign_of_byte : List Str := ["byte"]
theorem sc_sign_of_byte : FnScope N_sign_of_byte ["byte"] (defScope s_sign_of_byte) := ⟨rfl, rfl, rfl, by decide +kernel, rfl, by decide +kernel, by decide +kernel⟩
theorem ms_at : ∀ b : Fin 127, isSgn b.val = true → (if b.val < 37 then (TL.tl MSIGNS)[b.val - 32]? else (TL.tl MSIGNS)[b.val - 33]?) = some b.val := by decide +kernel
def sp_sign_of : Sp := fun vs H Q _ => ∃ b : Nat, vs = [.int (b : Nat)] ∧ isSgn b = true ∧ Tell H (.str ⟨#[b]⟩) Q
theorem ok_sign_of {f : Addr} {fd : FuncData} {k : Nat} (F : Fun K "sign_of_byte" "sign_of_byte" s_sign_of_byte f fd) (T : Tx mg tk) : FnOk P w K mg base CX0 (k + 1) f fd P_sign_of_byte sp_sign_of := by
  refine F.ok sc_sign_of_byte (fun vs H Q E h => ?_) (fun cdv A outer s H vs Q E hr h => ?_)
  · obtain ⟨b, rfl, _⟩ := h
    rfl
  · have nd := sc_sign_of_byte.nd
    obtain ⟨b, rfl, hb, q⟩ := h
    refine ⟨_, (pss_one (ps_ret (pe_ifExp (pt_cmpR op_lt (pv 0) (pe_glob (v := .int 37) (by rfl) T.m_PERCENT ⟨_, rfl⟩) (nomark _)) (pe_ix ix_str (pe_glob (v := .str MSIGNS) (by rfl) T.m_SIGNS ⟨_, rfl⟩) (pe_op op_sub (pv 0) pe_int) (fun _ _ => rfl)) (pe_ix ix_str (pe_glob (v := .str MSIGNS) (by rfl) T.m_SIGNS ⟨_, rfl⟩) (pe_op op_sub (pv 0) pe_int) (fun _ _ => rfl))))), ?_⟩
    have hs := hb
    unfold isSgn at hs
    simp only [Bool.and_eq_true, decide_eq_true_eq] at hs
    have hm := ms_at ⟨b, by omega⟩ hb
    have hl : MSIGNS.length ≤ sizeLine := by decide +kernel
    refine ⟨.int (b : Nat), rfl, _, 37, rfl, rfl, _, rfl, ?_⟩
    by_cases h : b < 37
    · rw [decide_eq_true (show ((b : Nat) : Int) < 37 by omega)]
      rw [if_pos h] at hm
      refine iteT ⟨.int (b : Nat), rfl, _, 32, rfl, rfl, MSIGNS, _, b, rfl, rfl, hl, ?_, q _ (Same.refl _)⟩
      rw [show ((b : Nat) : Int) - 32 = ((b - 32 : Nat) : Int) by omega]
      exact atI_nat hm
    · rw [decide_eq_false (show ¬ ((b : Nat) : Int) < 37 by omega)]
      rw [if_neg h] at hm
      refine iteF ⟨.int (b : Nat), rfl, _, 33, rfl, rfl, MSIGNS, _, b, rfl, rfl, hl, ?_, q _ (Same.refl _)⟩
      rw [show ((b : Nat) : Int) - 33 = ((b - 33 : Nat) : Int) by omega]
      exact atI_nat hm
end
end K09

namespace K09
open PySem PySem.Spec PyProof.Rows L2 LH
theorem strL_len (us : List (List Nat)) : (strL us).length = us.length := List.length_map ..
theorem strL_tls (us : List (List Nat)) : (strL us).map TL.tl = us := by
  unfold strL
  rw [List.map_map]
  exact List.map_id us
section
variable {P : Program} {w : World} {K : PySem.W.Frag} {mg : Str → Option Value} {base : Heap} {tk : Nat → Tok} {ca : Nat → Addr}
/-! ### is_sign -/
abbrev s_is_sign : Stmt := topS 25
abbrev N_is_sign : List Str := ["sign"]
abbrev P_is_sign : List Str := ["sign"]
theorem sc_is_sign : FnScope N_is_sign ["sign"] (defScope s_is_sign) := ⟨rfl, rfl, rfl, by decide +kernel, rfl, by decide +kernel, by decide +kernel⟩
def sp_is_sign : Sp := fun vs H Q _ => ∃ c : Nat, vs = [.str ⟨#[c]⟩] ∧ Tell H (.bl (isSgn c)) Q
theorem ok_is_sign {f : Addr} {fd : FuncData} {k : Nat} (F : Fun K "is_sign" "is_sign" s_is_sign f fd) (T : Tx mg tk) : FnOk P w K mg base CX0 (k + 1) f fd P_is_sign sp_is_sign := by
  refine F.ok sc_is_sign (fun vs H Q E h => ?_) (fun cdv A outer s H vs Q E hr h => ?_)
  · obtain ⟨i, rfl, _⟩ := h
    rfl
  · have nd := sc_is_sign.nd
    obtain ⟨c, rfl, q⟩ := h
    refine ⟨_, (pss_one (ps_ret (pe_and (pe_chain op_le_str op_le_str pe_str (pv 0) pe_str) (pe_one (pe_cmpR op_ne (pe_callB call_ord (by rfl) T.n_ord (by decide +kernel) (pa_cons (pv 0) pa_nil)) (pe_glob (v := .int 37) (by rfl) T.m_PERCENT ⟨_, rfl⟩) (nomark _)))))), ?_⟩
    refine ⟨.str ⟨#[c]⟩, rfl, Str.ofString " ", ⟨#[c]⟩, rfl, rfl, _, rfl, ?_⟩
    have e1 : (!decide ((⟨#[c]⟩ : Str).cps.toList < (Str.ofString " ").cps.toList)) = decide (32 ≤ c) := by
      rw [show (Str.ofString " ").cps.toList = [32] by decide +kernel]
      show (!decide ([c] < [32])) = _
      by_cases h : 32 ≤ c
      · rw [decide_eq_true h, decide_eq_false (by simp [List.cons_lt_cons_iff]; omega)]; rfl
      · rw [decide_eq_false h, decide_eq_true (by simp [List.cons_lt_cons_iff]; omega)]; rfl
    have e2 : (!decide ((Str.ofString "~").cps.toList < (⟨#[c]⟩ : Str).cps.toList)) = decide (c ≤ 126) := by
      rw [show (Str.ofString "~").cps.toList = [126] by decide +kernel]
      show (!decide ([126] < [c])) = _
      by_cases h : c ≤ 126
      · rw [decide_eq_true h, decide_eq_false (by simp [List.cons_lt_cons_iff]; omega)]; rfl
      · rw [decide_eq_false h, decide_eq_true (by simp [List.cons_lt_cons_iff]; omega)]; rfl
    have q0 := q H (Same.refl _)
    unfold isSgn at q0
    rw [e1]
    by_cases h1 : 32 ≤ c
    · rw [decide_eq_true h1] at q0 ⊢
      refine iteT ⟨_, _, rfl, rfl, _, rfl, ?_⟩
      rw [e2]
      by_cases h2 : c ≤ 126
      · rw [decide_eq_true h2] at q0 ⊢
        refine iteT ⟨.str ⟨#[c]⟩, rfl, ⟨#[c]⟩, rfl, rfl, ?_⟩
        refine ⟨rfl, ?_⟩
        have e3 : (!decide (V.int (((⟨#[c]⟩ : Str).cps.getD 0 0 : Nat) : Int) = V.int 37)) = !decide (c = 37) := by
          show (!decide (V.int (c : Int) = V.int 37)) = _
          rw [vint_dec]
          congr 1
          exact decide_eq_decide.mpr (by omega)
        show Q (.bl (!decide (V.int (((⟨#[c]⟩ : Str).cps.getD 0 0 : Nat) : Int) = V.int 37))) _
        rw [e3]
        exact q0
      · rw [decide_eq_false h2] at q0 ⊢
        exact iteF q0
    · rw [decide_eq_false h1] at q0 ⊢
      exact iteF ⟨false, rfl, iteF q0⟩
/-! ### bytes_of_signs -/
abbrev s_bytes_of_signs : Stmt := topS 33
abbrev N_bytes_of_signs : List Str := ["text", "sign"]
abbrev P_bytes_of_signs : List Str := ["text"]
theorem sc_bytes_of_signs : FnScope N_bytes_of_signs ["text"] (defScope s_bytes_of_signs) := ⟨rfl, rfl, rfl, by decide +kernel, rfl, by decide +kernel, by decide +kernel⟩
def sp_bsigns : Sp := fun vs H Q _ => ∃ z : Str, vs = [.str z] ∧ z.length ≤ 100000 ∧ New H (nb (TL.tl z)) Q
theorem ok_bsigns {f : Addr} {fd : FuncData} {k : Nat} (F : Fun K "bytes_of_signs" "bytes_of_signs" s_bytes_of_signs f fd) (T : Tx mg tk) : FnOk P w K mg base CX0 (k + 1) f fd P_bytes_of_signs sp_bsigns := by
  refine F.ok sc_bytes_of_signs (fun vs H Q E h => ?_) (fun cdv A outer s H vs Q E hr h => ?_)
  · obtain ⟨z, rfl, _⟩ := h
    rfl
  · have nd := sc_bytes_of_signs.nd
    obtain ⟨z, rfl, hz, q⟩ := h
    refine ⟨_, (pss_one (ps_ret (pe_lc (own := [("sign", 1)]) (g := gName 1) (by rfl) nd (pi_str (pv 0)) (blkOk_by (N := N_bytes_of_signs) (sc := defScope s_bytes_of_signs) (by decide +kernel)) (fun _ _ _ _ _ => (pg_name (i := 1) nd rfl (Or.inl rfl))) (fun _ _ _ _ _ => pts_nil) (fun _ _ _ _ _ => (pe_callB call_ord (by rfl) T.n_ord (by decide +kernel) (pa_cons (pv 1) pa_nil)))))), ?_⟩
    have hzl : z.length = (TL.tl z).length := TL.len_tl z
    refine ⟨.str z, rfl, z, rfl, fun D hD => lc_pure (fun i => .str ⟨#[(TL.tl z).getD i 0]⟩) (fun i => .int ((TL.tl z).getD i 0 : Nat)) walk_strF (fun _ _ => trivial) hD (by rw [← hzl, sizeLine_eq]; omega) (fun i H1 Q1 hi sm q1 => ?_) (fun H1 sm e => ?_)⟩
    · exact ⟨.str ⟨#[(TL.tl z).getD i 0]⟩, rfl, ⟨#[(TL.tl z).getD i 0]⟩, rfl, rfl, q1 _ (Same.refl _)⟩
    · refine q H1 D sm hD ?_
      rw [e]
      unfold nb
      conv => rhs; rw [← LH.range_getD (TL.tl z) 0, List.map_map]
      rfl
end
end K09

namespace K09
open PySem PySem.Spec PyProof.Rows L2 LH
section
variable {P : Program} {w : World} {K : PySem.W.Frag} {mg : Str → Option Value} {base : Heap} {tk : Nat → Tok}
/-! ### _law_cell, _law_mixed, _law_next, _law_sixty -/
/-! ### _law_cell -/
abbrev s__law_cell : Stmt := topS 59
abbrev N__law_cell : List Str := ["_law_script", "_law_k"]
abbrev P__law_cell : List Str := ["_law_script", "_law_k"]
theorem sc__law_cell : FnScope N__law_cell ["_law_script", "_law_k"] (defScope s__law_cell) := ⟨rfl, rfl, rfl, by decide +kernel, rfl, by decide +kernel, by decide +kernel⟩
def sp_cell (K : PySem.W.Frag) : Sp := fun vs H Q _ => ∃ (a : Addr) (ns : List Int) (k : Nat), vs = [.ref a, .int (k : Int)] ∧ SqL K H a (ns.map V.int) ∧ Tell H (.int (ns.getD k 0)) Q
theorem ok_cell {f : Addr} {fd : FuncData} {k : Nat} (F : Fun K "_law_cell" "_law_cell" s__law_cell f fd) (T : Tx mg tk) : FnOk P w K mg base CX0 (k + 1) f fd P__law_cell (sp_cell K) := by
  refine F.ok sc__law_cell (fun vs H Q E h => ?_) (fun cdv A outer s H vs Q E hr h => ?_)
  · obtain ⟨a, ns, j, rfl, _⟩ := h
    rfl
  · have nd := sc__law_cell.nd
    obtain ⟨a, ns, j, rfl, hS, q⟩ := h
    refine ⟨_, (pss_cons (ps_if (pt_cmpR op_lt (pv 1) (pe_callB (cLen K) (by rfl) T.n_len (by decide +kernel) (pa_cons (pv 0) pa_nil)) (nomark _))
        (pss_one (ps_ret (pe_ix (ixL K) (pv 0) (pv 1) (fun _ _ => rfl))))
        pss_nil)
      (pss_one (ps_ret pe_int))), ?_⟩
    refine ⟨.int j, rfl, .ref a, rfl, a, _, rfl, .inl hS, _, _, rfl, rfl, _, rfl, ite2 (fun e => ?_) (fun e => ?_)⟩
    · have h1 : j < ns.length := by
        have := of_decide_eq_true e
        rw [List.length_map] at this
        omega
      refine ⟨.ref a, rfl, .int j, rfl, a, _, j, .int (ns[j]), rfl, rfl, hS, atI_nat (by rw [List.getElem?_map, List.getElem?_eq_getElem h1]; rfl), ?_⟩
      have := q H (Same.refl _)
      rw [List.getD_eq_getElem?_getD, List.getElem?_eq_getElem h1] at this
      exact this
    · have h1 : ns.length ≤ j := by
        have : ¬ (j : Int) < ((ns.map V.int).length : Nat) := fun z => e (decide_eq_true z)
        rw [List.length_map] at this
        omega
      have := q H (Same.refl _)
      rw [List.getD_eq_getElem?_getD, List.getElem?_eq_none h1] at this
      exact this
/-! ### _law_mixed -/
abbrev s__law_mixed : Stmt := topS 60
abbrev N__law_mixed : List Str := ["_law_cell_here", "_law_k"]
abbrev P__law_mixed : List Str := ["_law_cell_here", "_law_k"]
theorem sc__law_mixed : FnScope N__law_mixed ["_law_cell_here", "_law_k"] (defScope s__law_mixed) := ⟨rfl, rfl, rfl, by decide +kernel, rfl, by decide +kernel, by decide +kernel⟩
def mixed (c k : Int) : Int := (c * 48271 + 7919 * k * k * k + 104729) % 2147483647 * 16807 % 2147483629
theorem mixed_lt (c k : Int) : 0 ≤ mixed c k ∧ mixed c k < 2147483629 := ⟨Int.emod_nonneg _ (by decide), Int.emod_lt_of_pos _ (by decide)⟩
def sp_mixed : Sp := fun vs H Q _ => ∃ (c k : Int), vs = [.int c, .int k] ∧ 0 ≤ k ∧ k < 1000 ∧ Tell H (.int (mixed c k)) Q
theorem ok_mixed {f : Addr} {fd : FuncData} {k : Nat} (F : Fun K "_law_mixed" "_law_mixed" s__law_mixed f fd) : FnOk P w K mg base CX0 (k + 1) f fd P__law_mixed sp_mixed := by
  refine F.ok sc__law_mixed (fun vs H Q E h => ?_) (fun cdv A outer s H vs Q E hr h => ?_)
  · obtain ⟨c, j, rfl, _⟩ := h
    rfl
  · have nd := sc__law_mixed.nd
    obtain ⟨c, j, rfl, h0, h1, q⟩ := h
    refine ⟨_, (pss_one (ps_ret (pe_op op_mod (pe_op op_mul (pe_op op_mod (pe_op op_add (pe_op op_add (pe_op op_mul (pv 0) pe_int) (pe_op op_mul (pe_op op_mul (pe_op op_mul pe_int (pv 1)) (pv 1)) (pv 1))) pe_int) pe_int) pe_int) pe_int))), ?_⟩
    refine ⟨.int c, rfl, c, 48271, rfl, rfl, .inr (by decide), .int j, rfl, 7919, j, rfl, rfl, .inl (by decide), .int j, rfl, _, j, rfl, rfl, .inr ⟨by omega, by omega⟩, .int j, rfl, _, j, rfl, rfl, .inr ⟨by omega, by omega⟩, _, _, rfl, rfl, _, _, rfl, rfl, _, _, rfl, rfl, (show (0 : Int) < 2147483647 by decide), _, _, rfl, rfl, .inr (by decide), _, _, rfl, rfl, (show (0 : Int) < 2147483629 by decide), q _ (Same.refl _)⟩
/-! ### _law_next -/
abbrev s__law_next : Stmt := topS 61
abbrev N__law_next : List Str := ["_law_number_here", "_law_k"]
abbrev P__law_next : List Str := ["_law_number_here", "_law_k"]
theorem sc__law_next : FnScope N__law_next ["_law_number_here", "_law_k"] (defScope s__law_next) := ⟨rfl, rfl, rfl, by decide +kernel, rfl, by decide +kernel, by decide +kernel⟩
def nextN (n k : Int) : Int := (n * (k * k + 1) + 1009 * k + 11) * 69621 % 2147483629
theorem nextN_lt (c k : Int) : 0 ≤ nextN c k ∧ nextN c k < 2147483629 := ⟨Int.emod_nonneg _ (by decide), Int.emod_lt_of_pos _ (by decide)⟩
def sp_next : Sp := fun vs H Q _ => ∃ (c k : Int), vs = [.int c, .int k] ∧ 0 ≤ c ∧ c < 2147483648 ∧ 0 ≤ k ∧ k < 1000 ∧ Tell H (.int (nextN c k)) Q
theorem ok_next {f : Addr} {fd : FuncData} {k : Nat} (F : Fun K "_law_next" "_law_next" s__law_next f fd) : FnOk P w K mg base CX0 (k + 1) f fd P__law_next sp_next := by
  refine F.ok sc__law_next (fun vs H Q E h => ?_) (fun cdv A outer s H vs Q E hr h => ?_)
  · obtain ⟨c, j, rfl, _⟩ := h
    rfl
  · have nd := sc__law_next.nd
    obtain ⟨c, j, rfl, hc, hc1, h0, h1, q⟩ := h
    refine ⟨_, (pss_one (ps_ret (pe_op op_mod (pe_op op_mul (pe_op op_add (pe_op op_add (pe_op op_mul (pv 0) (pe_op op_add (pe_op op_mul (pv 1) (pv 1)) pe_int)) (pe_op op_mul pe_int (pv 1))) pe_int) pe_int) pe_int))), ?_⟩
    refine ⟨.int c, rfl, .int j, rfl, .int j, rfl, j, j, rfl, rfl, .inr ⟨by omega, by omega⟩, _, 1, rfl, rfl, c, _, rfl, rfl, .inl ⟨by omega, by omega⟩, .int j, rfl, 1009, j, rfl, rfl, .inl (by decide), _, _, rfl, rfl, _, _, rfl, rfl, _, _, rfl, rfl, .inr (by decide), _, _, rfl, rfl, (show (0 : Int) < 2147483629 by decide), q _ (Same.refl _)⟩
end
end K09

namespace K09
open PySem PySem.Spec PyProof.Rows L2 LH
section
variable {P : Program} {w : World} {K : PySem.W.Frag} {mg : Str → Option Value} {base : Heap} {tk : Nat → Tok} {ca : Nat → Addr}
theorem drop_cons {α : Type} {l : List α} {i : Nat} (h : i < l.length) : l.drop i = l[i] :: l.drop (i + 1) := List.drop_eq_getElem_cons h
/-- a thing that is no list -/
def NoList (K : PySem.W.Frag) (H : Hp) (x : V) : Prop := ∃ t, TyX K H x t ∧ PySem.W.kitOne K t (.type "list") = some false
/-- the number of the first thing that is no text, nought without one -/
def firstOdd : Nat → List V → Nat
  | _, [] => 0
  | n, .str _ :: r => firstOdd (n + 1) r
  | n, _ :: _ => n + 1
theorem firstOdd_odd {H : Hp} {n : Nat} {v : V} {r : List V} (h : Odd H v) : firstOdd n (v :: r) = n + 1 := by
  rcases h with rfl | ⟨i, rfl⟩ | ⟨b, rfl⟩ | ⟨a, rfl, _⟩ <;> rfl
/-! ### no_text_row -/
abbrev s_no_text_row : Stmt := topS 26
abbrev N_no_text_row : List Str := ["rows", "at"]
abbrev P_no_text_row : List Str := ["rows"]
theorem sc_no_text_row : FnScope N_no_text_row ["rows"] (defScope s_no_text_row) := ⟨rfl, rfl, rfl, by decide +kernel, rfl, by decide +kernel, by decide +kernel⟩
def sp_no_textX (K : PySem.W.Frag) : Sp := fun vs H Q _ => ∃ x : V, vs = [x] ∧
  ((NoList K H x ∧ Tell H (.int 1) Q) ∨ ∃ (a : Addr) (xs : List V), x = .ref a ∧ H a = some (.lst xs) ∧ xs.length ≤ 100000 ∧ (∀ v ∈ xs, (∃ z, v = .str z) ∨ Odd H v) ∧ Tell H (.int (firstOdd 0 xs : Nat)) Q)
theorem ok_no_textX {f : Addr} {fd : FuncData} {k : Nat} (F : Fun K "no_text_row" "no_text_row" s_no_text_row f fd) (T : Tx mg tk) : FnOk P w K mg base CX0 (k + 1) f fd P_no_text_row (sp_no_textX K) := by
  refine F.ok sc_no_text_row (fun vs H Q E h => ?_) (fun cdv A outer s H vs Q E hr h => ?_)
  · obtain ⟨x, rfl, _⟩ := h
    rfl
  · have nd := sc_no_text_row.nd
    obtain ⟨x, rfl, h⟩ := h
    refine ⟨_, (pss_cons (ps_if (pt_not (pt_val (pe_callB (cIsi K) (by rfl) T.n_isinstance (by decide +kernel) (pa_cons (pv 0) (pa_cons (pe_bltn (v := .ty "list") (by rfl) T.n_list (by decide +kernel) rfl) pa_nil)))))
        (pss_one (ps_ret pe_int))
        pss_nil)
      (pss_cons (ps_for PassesOwn.never rfl (pi_range1 (by rfl) T.n_range (pa_cons (pe_callB (cLen K) (by rfl) T.n_len (by decide +kernel) (pa_cons (pv 0) pa_nil)) pa_nil)) (pg_name (i := 1) nd rfl (Or.inl rfl))
        (pss_one (ps_if (pt_not (pt_val (pe_callB (cIsi K) (by rfl) T.n_isinstance (by decide +kernel) (pa_cons (pe_ix (ixL K) (pv 0) (pv 1) (fun _ _ => rfl)) (pa_cons (pe_bltn (v := .ty "str") (by rfl) T.n_str (by decide +kernel) rfl) pa_nil)))))
          (pss_one (ps_ret (pe_op op_add (pv 1) pe_int)))
          pss_nil)))
      (pss_one (ps_ret pe_int)))), ?_⟩
    rcases h with ⟨⟨t, ht, hk⟩, q⟩ | ⟨a, xs, rfl, hS, hl, hx, q⟩
    · exact ⟨x, rfl, x, .ty "list", _, _, false, rfl, .ty _, ht, hk, false, rfl, iteT (q H (Same.refl _))⟩
    refine ⟨.ref a, rfl, .ref a, .ty "list", _, _, true, rfl, .ty _, .base (.lst hS), kit_ty (by decide +kernel), true, rfl, iteF ?_⟩
    refine ⟨.ref a, rfl, a, _, rfl, .inl (.inl (.inl hS)), (xs.length : Nat), rfl, by omega, by omega, for_it walk_range (fun i σ H' => ∃ y1, σ = [some (.ref a), y1] ∧ Same H H' ∧ firstOdd 0 xs = firstOdd i (xs.drop i)) ⟨none, rfl, Same.refl _, rfl⟩
      (fun _ _ _ _ _ => trivial) (fun i x σ H1 H2 hi hP hy => ?_) (fun σ H1 hP => ?_)⟩
    · obtain ⟨y1, rfl, sm, e⟩ := hP
      obtain ⟨rfl, rfl⟩ := hy
      have hil : i < xs.length := by omega
      have hxi := hx xs[i] (List.getElem_mem hil)
      rw [drop_cons hil] at e
      have eS := sm _ _ hS
      have eat : atI xs (0 + (i : Int)) = some xs[i] := lat_of (j := i) (by omega) (List.getElem?_eq_getElem hil)
      generalize xs[i] = v at *
      refine ⟨.ref a, rfl, _, rfl, a, _, _, v, rfl, rfl, .inl (.inl eS), eat, ?_⟩
      rcases hxi with ⟨z, rfl⟩ | ho
      · refine ⟨_, .ty "str", _, _, true, rfl, .ty _, .base (.str _), kit_ty (by decide +kernel), true, rfl, iteF ?_⟩
        exact ⟨_, rfl, sm, e⟩
      · obtain ⟨t, ht, hk⟩ := (ho.same sm).ty (K := K)
        refine ⟨_, .ty "str", _, _, false, rfl, .ty _, ht, hk, false, rfl, iteT ⟨_, rfl, _, 1, rfl, rfl, ?_⟩⟩
        rw [firstOdd_odd ho] at e
        have : (0 : Int) + (i : Int) + 1 = ((firstOdd 0 xs : Nat) : Int) := by rw [e]; omega
        show Q (.int ((0 : Int) + (i : Int) + 1)) _
        rw [this]
        exact q _ sm
    · obtain ⟨y1, rfl, sm, e⟩ := hP
      have : xs.drop ((xs.length : Int).toNat) = [] := List.drop_of_length_le (by omega)
      rw [this] at e
      have e0 : firstOdd 0 xs = 0 := e
      rw [e0] at q
      exact q _ sm
end
end K09

namespace K09
open PySem PySem.Spec PyProof.Rows L2 LH
section
variable {P : Program} {w : World} {K : PySem.W.Frag} {mg : Str → Option Value} {base : Heap} {tk : Nat → Tok} {ca : Nat → Addr}
/-! ### the sixty-four signs -/
theorem s64_len : (TL.tl S64).length = 64 := by decide +kernel
theorem s64_nodup : (TL.tl S64).Nodup := by decide +kernel
theorem s64_low : ∀ c ∈ TL.tl S64, c < 128 ∧ c ≠ 61 := by decide +kernel
def in64 (c : Nat) : Bool := decide (c ∈ TL.tl S64)
def ix64 (c : Nat) : Nat := (TL.tl S64).idxOf c
theorem ix64_lt {c : Nat} (h : in64 c = true) : ix64 c < 64 := by
  rw [← s64_len]
  exact List.idxOf_lt_length_iff.mpr (of_decide_eq_true h)
theorem ix64_at {c : Nat} (h : in64 c = true) : (TL.tl S64)[ix64 c]? = some c := by
  have := ix64_lt h
  rw [List.getElem?_eq_getElem (by rw [s64_len]; exact this)]
  exact congrArg some (List.getElem_idxOf _)
theorem find64 {c : Nat} (h : in64 c = true) : Txt.find S64 ⟨#[c]⟩ = (ix64 c : Int) ∧ ∃ rest, Builtin.Str.occurrences S64 ⟨#[c]⟩ 0 S64.length 1 = ix64 c :: rest := by
  have hl : ix64 c < (TL.tl S64).length := by rw [s64_len]; exact ix64_lt h
  have := find_at S64 (ix64 c) hl s64_nodup
  have e : (TL.tl S64)[ix64 c] = c := List.getElem_idxOf _
  rw [e] at this
  exact this
/-- the number of six bits of a sign, nought of any other one -/
def b64 (c : Nat) : Nat := if in64 c = true then ix64 c else 0
theorem b64_lt (c : Nat) : b64 c < 64 := by
  unfold b64
  split
  · exact ix64_lt (by assumption)
  · decide
/-! ### bits_of -/
abbrev s_bits_of : Stmt := topS 43
abbrev N_bits_of : List Str := ["sign"]
abbrev P_bits_of : List Str := ["sign"]
theorem sc_bits_of : FnScope N_bits_of ["sign"] (defScope s_bits_of) := ⟨rfl, rfl, rfl, by decide +kernel, rfl, by decide +kernel, by decide +kernel⟩
def sp_bits : Sp := fun vs H Q _ => ∃ c : Nat, vs = [.str ⟨#[c]⟩] ∧ Tell H (.int (b64 c : Nat)) Q
theorem ok_bits {f : Addr} {fd : FuncData} {k : Nat} (F : Fun K "bits_of" "bits_of" s_bits_of f fd) (T : Tx mg tk) : FnOk P w K mg base CX0 (k + 1) f fd P_bits_of sp_bits := by
  refine F.ok sc_bits_of (fun vs H Q E h => ?_) (fun cdv A outer s H vs Q E hr h => ?_)
  · obtain ⟨c, rfl, _⟩ := h
    rfl
  · have nd := sc_bits_of.nd
    obtain ⟨c, rfl, q⟩ := h
    refine ⟨_, (pss_one (ps_ret (pe_callB (call_max2 rfl) (by rfl) T.n_max (by decide +kernel) (pa_cons pe_int (pa_cons (pe_m1 PySem.F.slot_str_find PySem.F.type_str_find mt_find (pe_glob (v := .str S64) (by rfl) T.m_SIXTY_FOUR ⟨_, rfl⟩) (pv 0)) pa_nil))))), ?_⟩
    refine ⟨⟨_, rfl⟩, .str ⟨#[c]⟩, rfl, S64, ⟨#[c]⟩, rfl, rfl, 0, _, rfl, ?_⟩
    have e : (if Txt.find S64 ⟨#[c]⟩ > 0 then Txt.find S64 ⟨#[c]⟩ else (0 : Int)) = (b64 c : Nat) := by
      unfold b64
      by_cases h : in64 c = true
      · rw [(find64 h).1, if_pos h]
        split <;> omega
      · rw [find_miss S64 c (fun hm => h (decide_eq_true hm)), if_neg h]
        rfl
    show Q (.int (if Txt.find S64 ⟨#[c]⟩ > 0 then Txt.find S64 ⟨#[c]⟩ else (0 : Int))) _
    rw [e]
    exact q _ (Same.refl _)
/-! ### what may stand, what may end -/
def lastN (l : List Nat) : Nat := l.getLastD 0
def fillB (l : List Nat) : Bool := if l.length % 4 = 2 then decide (b64 (lastN l) % 16 = 0) else if l.length % 4 = 3 then decide (b64 (lastN l) % 4 = 0) else false
def standB (c : Nat) (l : List Nat) : Bool := if l.length = 60 then false else if c = 61 then fillB l else in64 c && !decide (l.getLast? = some 61)
def endB (l : List Nat) (last : Bool) : Bool := if last = true then decide (0 < l.length) && decide (l.length % 4 = 0) else decide (l.length = 60) && !decide (l.getLast? = some 61)
theorem last_at {l : List Nat} (h : l ≠ []) : l.getLast? = some (lastN l) ∧ atI l (-1) = some (lastN l) := by
  rcases List.eq_nil_or_concat l with h0 | ⟨L, x, h0⟩
  · exact absurd h0 h
  · rw [List.concat_eq_append] at h0
    subst h0
    unfold lastN
    rw [List.getLastD_concat, List.getLast?_concat]
    exact ⟨rfl, atI_last _ _⟩
theorem eqS : Str.ofString "=" = ⟨#[61]⟩ := TL.ext_tl (by decide +kernel)
theorem eqS_tl : TL.tl (Str.ofString "=") = [61] := by decide +kernel
/-! ### may_fill -/
abbrev s_may_fill : Stmt := topS 45
abbrev N_may_fill : List Str := ["ahead", "stand"]
abbrev P_may_fill : List Str := ["ahead"]
theorem sc_may_fill : FnScope N_may_fill ["ahead"] (defScope s_may_fill) := ⟨rfl, rfl, rfl, by decide +kernel, rfl, by decide +kernel, by decide +kernel⟩
def sp_fill : Sp := fun vs H Q _ => ∃ z : Str, vs = [.str z] ∧ z.length ≤ 100000 ∧ Tell H (.bl (fillB (TL.tl z))) Q
theorem ok_fill {f fB : Addr} {fd fdB : FuncData} (F : Fun K "may_fill" "may_fill" s_may_fill f fd) (T : Tx mg tk) (D_bits_of : Def P w K mg base "bits_of" 1 fB fdB P_bits_of sp_bits) : FnOk P w K mg base CX0 2 f fd P_may_fill sp_fill := by
  refine F.ok sc_may_fill (fun vs H Q E h => ?_) (fun cdv A outer s H vs Q E hr h => ?_)
  · obtain ⟨z, rfl, _⟩ := h
    rfl
  · have nd := sc_may_fill.nd
    obtain ⟨z, rfl, hz, q⟩ := h
    refine ⟨_, (pss_cons (ps_set (i := 1) nd rfl (.inl rfl) (pe_op op_mod (pe_callB call_len_str (by rfl) T.n_len (by decide +kernel) (pa_cons (pv 0) pa_nil)) pe_int))
      (pss_cons (ps_if (pt_cmpR op_eq (pv 1) pe_int (nomark _))
        (pss_one (ps_ret (pe_cmpR op_eq (pe_op op_and (pe_def D_bits_of (hr.mono (by decide)) (pa_cons (pe_ix ix_str (pv 0) (pe_un un_neg pe_int) (fun _ _ => rfl)) pa_nil)) pe_int) pe_int (nomark _))))
        pss_nil)
      (pss_cons (ps_if (pt_cmpR op_eq (pv 1) pe_int (nomark _))
        (pss_one (ps_ret (pe_cmpR op_eq (pe_op op_and (pe_def D_bits_of (hr.mono (by decide)) (pa_cons (pe_ix ix_str (pv 0) (pe_un un_neg pe_int) (fun _ _ => rfl)) pa_nil)) pe_int) pe_int (nomark _))))
        pss_nil)
      (pss_one (ps_ret pe_bl))))), ?_⟩
    have hzl : z.length = (TL.tl z).length := TL.len_tl z
    have hzs : z.length ≤ sizeLine := by rw [sizeLine_eq]; omega
    refine ⟨.str z, rfl, z, rfl, hzs, _, 4, rfl, rfl, (show (0 : Int) < 4 by decide), ?_⟩
    dsimp only [gName]
    unfold fillB at q
    rw [show ((z.length : Nat) : Int) % 4 = (((TL.tl z).length % 4 : Nat) : Int) by omega]
    generalize hm : (TL.tl z).length % 4 = m at *
    refine ifT (decide (m = 2)) (fun k q1 => ⟨_, rfl, rfl, _, rfl, TellB.eq (by rw [vint_dec]; exact decide_eq_decide.mpr (by omega)) q1 _ (Same.refl _)⟩) (fun hc H1 s1 => ?_) (fun hc H1 s1 => ?_)
    · have hc := of_decide_eq_true hc
      rw [if_pos hc] at q
      have hne : TL.tl z ≠ [] := fun h => by rw [h] at hm; simp at hm; omega
      refine ⟨.str z, rfl, 1, rfl, z, -1, lastN (TL.tl z), rfl, rfl, hzs, (last_at hne).2, lastN (TL.tl z), rfl, fun H2 s2 => ⟨_, 15, rfl, rfl, rfl, ?_⟩⟩
      show Q (.bl (decide (V.int (Builtin.bitAnd ((b64 (lastN (TL.tl z)) : Nat) : Int) 15) = V.int 0))) _
      rw [bitAnd_m4, vint_dec, show decide (((b64 (lastN (TL.tl z)) : Nat) : Int) % 16 = 0) = decide (b64 (lastN (TL.tl z)) % 16 = 0) from decide_eq_decide.mpr (by omega)]
      exact q _ (s1.trans s2)
    · have hc := of_decide_eq_false hc
      rw [if_neg hc] at q
      dsimp only [tNext, tSeq]
      refine ifT (decide (m = 3)) (fun k q1 => ⟨_, rfl, rfl, _, rfl, TellB.eq (by rw [vint_dec]; exact decide_eq_decide.mpr (by omega)) q1 _ (Same.refl _)⟩) (fun hc H2 s2 => ?_) (fun hc H2 s2 => ?_)
      · have hc := of_decide_eq_true hc
        rw [if_pos hc] at q
        have hne : TL.tl z ≠ [] := fun h => by rw [h] at hm; simp at hm; omega
        refine ⟨.str z, rfl, 1, rfl, z, -1, lastN (TL.tl z), rfl, rfl, hzs, (last_at hne).2, lastN (TL.tl z), rfl, fun H3 s3 => ⟨_, 3, rfl, rfl, rfl, ?_⟩⟩
        show Q (.bl (decide (V.int (Builtin.bitAnd ((b64 (lastN (TL.tl z)) : Nat) : Int) 3) = V.int 0))) _
        rw [bitAnd_m2, vint_dec, show decide (((b64 (lastN (TL.tl z)) : Nat) : Int) % 4 = 0) = decide (b64 (lastN (TL.tl z)) % 4 = 0) from decide_eq_decide.mpr (by omega)]
        exact q _ (s1.trans (s2.trans s3))
      · have hc := of_decide_eq_false hc
        rw [if_neg hc] at q
        exact q _ (s1.trans s2)
/-! ### may_stand -/
abbrev s_may_stand : Stmt := topS 44
abbrev N_may_stand : List Str := ["sign", "ahead"]
abbrev P_may_stand : List Str := ["sign", "ahead"]
theorem sc_may_stand : FnScope N_may_stand ["sign", "ahead"] (defScope s_may_stand) := ⟨rfl, rfl, rfl, by decide +kernel, rfl, by decide +kernel, by decide +kernel⟩
def sp_stand : Sp := fun vs H Q _ => ∃ (c : Nat) (z : Str), vs = [.str ⟨#[c]⟩, .str z] ∧ z.length ≤ 100000 ∧ Tell H (.bl (standB c (TL.tl z))) Q
theorem ok_stand {f fF : Addr} {fd fdF : FuncData} (F : Fun K "may_stand" "may_stand" s_may_stand f fd) (T : Tx mg tk) (D_may_fill : Def P w K mg base "may_fill" 2 fF fdF P_may_fill sp_fill) : FnOk P w K mg base CX0 3 f fd P_may_stand sp_stand := by
  refine F.ok sc_may_stand (fun vs H Q E h => ?_) (fun cdv A outer s H vs Q E hr h => ?_)
  · obtain ⟨c, z, rfl, _⟩ := h
    rfl
  · have nd := sc_may_stand.nd
    obtain ⟨c, z, rfl, hz, q⟩ := h
    refine ⟨_, (pss_cons (ps_if (pt_cmpR op_eq (pe_callB call_len_str (by rfl) T.n_len (by decide +kernel) (pa_cons (pv 1) pa_nil)) (pe_glob (v := .int 60) (by rfl) T.m_ROW_SIGNS ⟨_, rfl⟩) (nomark _))
        (pss_one (ps_ret pe_bl))
        pss_nil)
      (pss_cons (ps_if (pt_cmpR op_eq (pv 0) pe_str (nomark _))
        (pss_one (ps_ret (pe_def D_may_fill (hr.mono (by decide)) (pa_cons (pv 1) pa_nil))))
        pss_nil)
      (pss_one (ps_ret (pe_and (pe_cmpR op_in_sign (pv 0) (pe_glob (v := .str S64) (by rfl) T.m_SIXTY_FOUR ⟨_, rfl⟩) rfl) (pe_one (pe_not (pe_m1 PySem.F.slot_str_endswith PySem.F.type_str_endswith mt_endswith (pv 1) pe_str)))))))), ?_⟩
    have hzl : z.length = (TL.tl z).length := TL.len_tl z
    have hzs : z.length ≤ sizeLine := by rw [sizeLine_eq]; omega
    unfold standB at q
    refine ifT (decide ((TL.tl z).length = 60)) (fun k q1 => ⟨.str z, rfl, z, rfl, hzs, rfl, _, rfl, TellB.eq (by rw [vint_dec]; exact decide_eq_decide.mpr (by omega)) q1 _ (Same.refl _)⟩) (fun hc H1 s1 => ?_) (fun hc H1 s1 => ?_)
    · rw [if_pos (of_decide_eq_true hc)] at q
      exact q _ s1
    · rw [if_neg (of_decide_eq_false hc)] at q
      dsimp only [tNext, tSeq]
      refine ifT (decide (c = 61)) (fun k q1 => ⟨_, rfl, rfl, _, rfl, TellB.eq (by rw [vstr_dec, eqS]; refine decide_eq_decide.mpr ?_; rw [str_eq_iff]; exact ⟨fun h => (List.cons.inj h).1, fun h => by rw [h]⟩) q1 _ (Same.refl _)⟩) (fun hc H2 s2 => ?_) (fun hc H2 s2 => ?_)
      · rw [if_pos (of_decide_eq_true hc)] at q
        exact ⟨.str z, rfl, z, rfl, hz, fun H3 s3 => q _ (s1.trans (s2.trans s3))⟩
      · rw [if_neg (of_decide_eq_false hc)] at q
        dsimp only [tNext, tSeq]
        refine andV (in64 c) (!decide ((TL.tl z).getLast? = some 61)) (fun Q' q' => ⟨_, rfl, c, S64, rfl, rfl, q' _ (Same.refl _)⟩) (fun _ H3 Q' s3 q' => ⟨.str z, rfl, ⟨z, rfl⟩, z, Str.ofString "=", rfl, rfl, _, rfl, ?_⟩) (fun H3 s3 => q _ (s1.trans (s2.trans s3)))
        rw [ends_one z _ 61 eqS_tl]
        exact q' _ (Same.refl _)
/-! ### may_end -/
abbrev s_may_end : Stmt := topS 46
abbrev N_may_end : List Str := ["row", "last"]
abbrev P_may_end : List Str := ["row", "last"]
theorem sc_may_end : FnScope N_may_end ["row", "last"] (defScope s_may_end) := ⟨rfl, rfl, rfl, by decide +kernel, rfl, by decide +kernel, by decide +kernel⟩
def sp_end : Sp := fun vs H Q _ => ∃ (z : Str) (b : Bool), vs = [.str z, .bl b] ∧ z.length ≤ 100000 ∧ Tell H (.bl (endB (TL.tl z) b)) Q
theorem ok_end {f : Addr} {fd : FuncData} {k : Nat} (F : Fun K "may_end" "may_end" s_may_end f fd) (T : Tx mg tk) : FnOk P w K mg base CX0 (k + 1) f fd P_may_end sp_end := by
  refine F.ok sc_may_end (fun vs H Q E h => ?_) (fun cdv A outer s H vs Q E hr h => ?_)
  · obtain ⟨z, b, rfl, _⟩ := h
    rfl
  · have nd := sc_may_end.nd
    obtain ⟨z, b, rfl, hz, q⟩ := h
    refine ⟨_, (pss_cons (ps_if (pt_val (pv 1))
        (pss_one (ps_ret (pe_and (pe_cmpR op_gt (pe_callB call_len_str (by rfl) T.n_len (by decide +kernel) (pa_cons (pv 0) pa_nil)) pe_int (nomark _)) (pe_one (pe_cmpR op_eq (pe_op op_mod (pe_callB call_len_str (by rfl) T.n_len (by decide +kernel) (pa_cons (pv 0) pa_nil)) pe_int) pe_int (nomark _))))))
        pss_nil)
      (pss_one (ps_ret (pe_and (pe_cmpR op_eq (pe_callB call_len_str (by rfl) T.n_len (by decide +kernel) (pa_cons (pv 0) pa_nil)) (pe_glob (v := .int 60) (by rfl) T.m_ROW_SIGNS ⟨_, rfl⟩) (nomark _)) (pe_one (pe_not (pe_m1 PySem.F.slot_str_endswith PySem.F.type_str_endswith mt_endswith (pv 0) pe_str))))))), ?_⟩
    have hzl : z.length = (TL.tl z).length := TL.len_tl z
    have hzs : z.length ≤ sizeLine := by rw [sizeLine_eq]; omega
    unfold endB at q
    refine ifT b (fun k q1 => ⟨.bl b, rfl, b, rfl, q1 _ (Same.refl _)⟩) (fun hc H1 s1 => ?_) (fun hc H1 s1 => ?_)
    · rw [if_pos hc] at q
      refine andV _ _ (fun Q' q' => ⟨.str z, rfl, z, rfl, hzs, _, 0, rfl, rfl, ?_⟩) (fun _ H2 Q' s2 q' => ⟨.str z, rfl, z, rfl, hzs, _, 4, rfl, rfl, (show (0 : Int) < 4 by decide), rfl, ?_⟩) (fun H2 s2 => q _ (s1.trans s2))
      · show Q' (.bl (decide ((0 : Int) < (z.length : Nat)))) _
        rw [show decide ((0 : Int) < (z.length : Nat)) = decide (0 < (TL.tl z).length) from decide_eq_decide.mpr (by omega)]
        exact q' _ (Same.refl _)
      · show Q' (.bl (decide (V.int (((z.length : Nat) : Int) % 4) = V.int 0))) _
        rw [vint_dec, show decide (((z.length : Nat) : Int) % 4 = 0) = decide ((TL.tl z).length % 4 = 0) from decide_eq_decide.mpr (by omega)]
        exact q' _ (Same.refl _)
    · rw [if_neg (by rw [hc]; exact Bool.false_ne_true)] at q
      dsimp only [tNext, tSeq]
      refine andV _ _ (fun Q' q' => ⟨.str z, rfl, z, rfl, hzs, rfl, ?_⟩) (fun _ H2 Q' s2 q' => ⟨.str z, rfl, ⟨z, rfl⟩, z, Str.ofString "=", rfl, rfl, _, rfl, ?_⟩) (fun H2 s2 => q _ (s1.trans s2))
      · show Q' (.bl (decide (V.int ((z.length : Nat) : Int) = V.int 60))) _
        rw [vint_dec, show decide (((z.length : Nat) : Int) = 60) = decide ((TL.tl z).length = 60) from decide_eq_decide.mpr (by omega)]
        exact q' _ (Same.refl _)
      · rw [ends_one z _ 61 eqS_tl]
        exact q' _ (Same.refl _)
end
end K09

namespace K09
open PySem PySem.Spec PyProof.Rows L2 LH
section
variable {P : Program} {w : World} {K : PySem.W.Frag} {mg : Str → Option Value} {base : Heap} {tk : Nat → Tok} {ca : Nat → Addr}
/-! ### the first wrong sign of rows, by what may stand and what may end -/
/-- how many signs of r may stand, those of a ahead of it -/
def goodF (g : Nat → List Nat → Bool) : List Nat → List Nat → Nat
  | _, [] => 0
  | a, c :: r => if g c a = true then goodF g (a ++ [c]) r + 1 else 0
theorem goodF_le (g : Nat → List Nat → Bool) : ∀ (r a : List Nat), goodF g a r ≤ r.length
  | [], a => Nat.le_refl _
  | c :: r, a => by
    unfold goodF
    split
    · have := goodF_le g r (a ++ [c]); rw [List.length_cons]; omega
    · exact Nat.zero_le _
/-- the promise of what may stand -/
def spS (g : Nat → List Nat → Bool) : Sp := fun vs H Q _ => ∃ (c : Nat) (z : Str), vs = [.str ⟨#[c]⟩, .str z] ∧ z.length ≤ 100000 ∧ Tell H (.bl (g c (TL.tl z))) Q
def spE (e : List Nat → Bool → Bool) : Sp := fun vs H Q _ => ∃ (z : Str) (b : Bool), vs = [.str z, .bl b] ∧ z.length ≤ 100000 ∧ Tell H (.bl (e (TL.tl z) b)) Q
/-! ### good_signs -/
abbrev s_good_signs : Stmt := topS 28
abbrev N_good_signs : List Str := ["row", "may_stand", "at"]
abbrev P_good_signs : List Str := ["row", "may_stand"]
theorem sc_good_signs : FnScope N_good_signs ["row", "may_stand"] (defScope s_good_signs) := ⟨rfl, rfl, rfl, by decide +kernel, rfl, by decide +kernel, by decide +kernel⟩
def sp_good (P : Program) (w : World) (K : PySem.W.Frag) (mg : Str → Option Value) (base : Heap) : Sp := fun vs H Q _ => ∃ (z : Str) (f : Addr) (g : Nat → List Nat → Bool), vs = [.str z, .ref f] ∧ z.length ≤ 100000 ∧ FnV P w K mg base 3 f (spS g) ∧ Tell H (.int (goodF g [] (TL.tl z) : Nat)) Q
theorem ok_good {f : Addr} {fd : FuncData} (F : Fun K "good_signs" "good_signs" s_good_signs f fd) (T : Tx mg tk) : FnOk P w K mg base CX0 4 f fd P_good_signs (sp_good P w K mg base) := by
  refine F.ok sc_good_signs (fun vs H Q E h => ?_) (fun cdv A outer s H vs Q E hr h => ?_)
  · obtain ⟨z, f, g, rfl, _⟩ := h
    rfl
  · have nd := sc_good_signs.nd
    obtain ⟨z, fS, g, rfl, hz, hf, q⟩ := h
    refine ⟨_, (pss_cons (ps_for PassesOwn.never rfl (pi_range1 (by rfl) T.n_range (pa_cons (pe_callB call_len_str (by rfl) T.n_len (by decide +kernel) (pa_cons (pv 0) pa_nil)) pa_nil)) (pg_name (i := 2) nd rfl (Or.inl rfl))
        (pss_one (ps_if (pt_not (pt_val (pe_callV (k := 3) (hr.mono (by decide)) (pv 1) (pa_cons (pe_ix ix_str (pv 0) (pv 2) (fun _ _ => rfl)) (pa_cons (pe_slice sl_str (pv 0) po_none (po_some (pv 2))) pa_nil)))))
          (pss_one (ps_ret (pv 2)))
          pss_nil)))
      (pss_one (ps_ret (pe_callB call_len_str (by rfl) T.n_len (by decide +kernel) (pa_cons (pv 0) pa_nil))))), ?_⟩
    have hzl : z.length = (TL.tl z).length := TL.len_tl z
    have hzs : z.length ≤ sizeLine := by rw [sizeLine_eq]; omega
    refine ⟨.str z, rfl, z, rfl, hzs, z.length, rfl, by omega, by omega, for_it walk_range (fun i σ H' => ∃ y2 : Option V, σ = [some (.str z), some (.ref fS), y2] ∧ Same H H' ∧ goodF g [] (TL.tl z) = i + goodF g ((TL.tl z).take i) ((TL.tl z).drop i))
      ⟨none, rfl, Same.refl _, by simp⟩ (fun _ _ _ _ _ => trivial) (fun i x σ H1 H2 hi hP hy => ?_) (fun σ H1 hP => ?_)⟩
    · obtain ⟨y2, rfl, sm, e⟩ := hP
      obtain ⟨rfl, rfl⟩ := hy
      have hi : i < (TL.tl z).length := by omega
      have hd : (TL.tl z).drop i = (TL.tl z)[i] :: (TL.tl z).drop (i + 1) := List.drop_eq_getElem_cons hi
      have htk : (TL.tl z).take (i + 1) = (TL.tl z).take i ++ [(TL.tl z)[i]] := by
        rw [List.take_add_one, List.getElem?_eq_getElem hi]
        rfl
      rw [hd, goodF] at e
      dsimp only [gName]
      rw [show (0 : Int) + (i : Int) = (i : Int) by omega]
      have hat : atI z.cps.toList (i : Int) = some (TL.tl z)[i] := atI_nat (List.getElem?_eq_getElem hi)
      generalize (TL.tl z)[i] = c at *
      have hcut : TL.tl (cutS z none (some (i : Int))) = (TL.tl z).take i := by rw [cutS_to]
      have hcl := cutTo_len z i
      refine ifT (!g c ((TL.tl z).take i)) (fun k q1 => notT _ (fun k q2 => ⟨.ref fS, rfl, fS, spS g, rfl, hf, .str z, rfl, .int (i : Nat), rfl, z, _, c, rfl, rfl, hzs, hat, .str z, rfl, .int (i : Nat), rfl, _, rfl, z, rfl, hzs, c, cutS z none (some (i : Nat)), rfl, by rw [hcl]; omega, fun H3 s3 => ⟨_, rfl, ?_⟩⟩) q1) (fun hc H3 s3 => ?_) (fun hc H3 s3 => ?_)
      · rw [hcut]
        exact q2 _ s3
      · have hg : ¬ g c ((TL.tl z).take i) = true := by simpa using hc
        rw [if_neg hg, Nat.add_zero] at e
        rw [e] at q
        exact ⟨_, rfl, q _ (sm.trans s3)⟩
      · have hg : g c ((TL.tl z).take i) = true := by simpa using hc
        rw [if_pos hg] at e
        refine ⟨_, rfl, sm.trans s3, ?_⟩
        rw [htk, e]
        omega
    · obtain ⟨y2, rfl, sm, e⟩ := hP
      rw [hzl, Int.toNat_natCast, List.drop_of_length_le (Nat.le_refl _)] at e
      refine ⟨.str z, rfl, z, rfl, hzs, ?_⟩
      show Q (.int (z.length : Nat)) _
      rw [show goodF g [] (TL.tl z) = z.length by rw [e, hzl]; rfl] at q
      exact q _ sm
/-- the first wrong row and how many of its signs are good -/
def wrongF (g : Nat → List Nat → Bool) (e : List Nat → Bool → Bool) : Nat → List Str → Option (Nat × Nat)
  | _, [] => none
  | n, r :: R => if goodF g [] (TL.tl r) < (TL.tl r).length ∨ e (TL.tl r) (decide (R = [])) = false then some (n + 1, goodF g [] (TL.tl r) + 1) else wrongF g e (n + 1) R
def lineP : Option (Nat × Nat) → Nat × Nat := fun o => o.getD (0, 0)
/-- what rows are refused at, (0, 0) of good ones -/
def FirstAt (K : PySem.W.Frag) (H : Hp) (g : Nat → List Nat → Bool) (e : List Nat → Bool → Bool) (x : V) (l p : Nat) : Prop :=
  (NoList K H x ∧ l = 1 ∧ p = 1) ∨ ∃ (a : Addr) (xs : List V), x = .ref a ∧ H a = some (.lst xs) ∧ xs.length ≤ 10000 ∧ (∀ v ∈ xs, (∃ z, v = .str z) ∨ Odd H v) ∧
    ((0 < firstOdd 0 xs ∧ l = firstOdd 0 xs ∧ p = 1) ∨ ∃ R : List Str, xs = R.map V.str ∧ (∀ z ∈ R, z.length ≤ 1000) ∧ (l, p) = lineP (wrongF g e 0 R))
theorem firstOdd_texts : ∀ (R : List Str) (n : Nat), firstOdd n (R.map V.str) = 0
  | [], _ => rfl
  | _ :: R, n => firstOdd_texts R (n + 1)
/-! ### first_wrong -/
abbrev s_first_wrong : Stmt := topS 27
abbrev N_first_wrong : List Str := ["rows", "may_stand", "may_end", "number", "at", "good"]
abbrev P_first_wrong : List Str := ["rows", "may_stand", "may_end"]
theorem sc_first_wrong : FnScope N_first_wrong ["rows", "may_stand", "may_end"] (defScope s_first_wrong) := ⟨rfl, rfl, rfl, by decide +kernel, rfl, by decide +kernel, by decide +kernel⟩
def sp_first (P : Program) (w : World) (K : PySem.W.Frag) (mg : Str → Option Value) (base : Heap) : Sp := fun vs H Q _ => ∃ (x : V) (fS fE : Addr) (g : Nat → List Nat → Bool) (e : List Nat → Bool → Bool) (l p : Nat), vs = [x, .ref fS, .ref fE] ∧ FnV P w K mg base 3 fS (spS g) ∧ FnV P w K mg base 1 fE (spE e) ∧
  FirstAt K H g e x l p ∧ ∀ H' t, Same H H' → H t = none → H' t = some (.tup [.int (l : Nat), .int (p : Nat)]) → Q (.ref t) H'
theorem ok_first {f fN fG : Addr} {fd fdN fdG : FuncData} (F : Fun K "first_wrong" "first_wrong" s_first_wrong f fd) (T : Tx mg tk) (D_no_text_row : Def P w K mg base "no_text_row" 1 fN fdN P_no_text_row (sp_no_textX K)) (D_good_signs : Def P w K mg base "good_signs" 4 fG fdG P_good_signs (sp_good P w K mg base)) : FnOk P w K mg base CX0 5 f fd P_first_wrong (sp_first P w K mg base) := by
  refine F.ok sc_first_wrong (fun vs H Q E h => ?_) (fun cdv A outer s H vs Q E hr h => ?_)
  · obtain ⟨x, fS, fE, g, e, l, p, rfl, _⟩ := h
    rfl
  · have nd := sc_first_wrong.nd
    obtain ⟨x, fS, fE, g, e, l, p, rfl, hS, hE, hx, q⟩ := h
    refine ⟨_, (pss_cons (ps_set (i := 3) nd rfl (.inl rfl) (pe_def D_no_text_row (hr.mono (by decide)) (pa_cons (pv 0) pa_nil)))
      (pss_cons (ps_if (pt_cmpR op_gt (pv 3) pe_int (nomark _))
        (pss_one (ps_ret (pe_tup (pa_cons (pv 3) (pa_cons pe_int pa_nil)))))
        pss_nil)
      (pss_cons (ps_for PassesOwn.never rfl (pi_range1 (by rfl) T.n_range (pa_cons (pe_callB (cLen K) (by rfl) T.n_len (by decide +kernel) (pa_cons (pv 0) pa_nil)) pa_nil)) (pg_name (i := 4) nd rfl (Or.inl rfl))
        (pss_cons (ps_set (i := 5) nd rfl (.inl rfl) (pe_def D_good_signs (hr.mono (by decide)) (pa_cons (pe_ix (ixL K) (pv 0) (pv 4) (fun _ _ => rfl)) (pa_cons (pv 1) pa_nil))))
        (pss_one (ps_if (PW.pt (pw_or (pt_cmpR op_lt (pv 5) (pe_callB call_len_str (by rfl) T.n_len (by decide +kernel) (pa_cons (pe_ix (ixL K) (pv 0) (pv 4) (fun _ _ => rfl)) pa_nil)) (nomark _)) (pw_or1 (pt_not (pt_val (pe_callV (k := 1) (hr.mono (by decide)) (pv 2) (pa_cons (pe_ix (ixL K) (pv 0) (pv 4) (fun _ _ => rfl)) (pa_cons (pe_cmpR op_eq (pv 4) (pe_op op_sub (pe_callB (cLen K) (by rfl) T.n_len (by decide +kernel) (pa_cons (pv 0) pa_nil)) pe_int) (nomark _)) pa_nil))))))))
          (pss_one (ps_ret (pe_tup (pa_cons (pe_op op_add (pv 4) pe_int) (pa_cons (pe_op op_add (pv 5) pe_int) pa_nil)))))
          pss_nil))))
      (pss_one (ps_ret (pe_tup (pa_cons pe_int (pa_cons pe_int pa_nil)))))))), ?_⟩
    have n2 : 2 ≤ sizeLine := Nat.le_of_lt (small1000 (show 2 ≤ 1000 by decide))
    rcases hx with ⟨hn, rfl, rfl⟩ | ⟨a, xs, rfl, ea, hl, hv, hx⟩
    · refine ⟨x, rfl, x, rfl, .inl ⟨hn, fun H1 s1 => ?_⟩⟩
      dsimp only [gName]
      refine ifT true (fun k q1 => ⟨_, rfl, _, 0, rfl, rfl, _, rfl, TellB.eq (decide_eq_true (by decide)) q1 _ (Same.refl _)⟩) (fun _ H2 s2 => ?_) (fun h => nomatch h)
      exact ⟨_, rfl, n2, fun t nt => q _ t (s1.trans (s2.trans (same_upd nt))) ((s1.trans s2).free nt) upd_same⟩
    refine ⟨.ref a, rfl, .ref a, rfl, .inr ⟨a, xs, rfl, ea, by omega, hv, fun H1 s1 => ?_⟩⟩
    dsimp only [gName]
    rcases hx with ⟨h0, rfl, rfl⟩ | ⟨R, rfl, hz, hlp⟩
    · refine ifT true (fun k q1 => ⟨_, rfl, _, 0, rfl, rfl, _, rfl, TellB.eq (decide_eq_true (by omega)) q1 _ (Same.refl _)⟩) (fun _ H2 s2 => ?_) (fun h => nomatch h)
      exact ⟨_, rfl, n2, fun t nt => q _ t (s1.trans (s2.trans (same_upd nt))) ((s1.trans s2).free nt) upd_same⟩
    rw [firstOdd_texts]
    have hm : (R.map V.str).length = R.length := List.length_map ..
    refine ifT false (fun k q1 => ⟨_, rfl, _, 0, rfl, rfl, _, rfl, TellB.eq (decide_eq_false (by decide)) q1 _ (Same.refl _)⟩) (fun h => nomatch h) (fun _ H2 s2 => ?_)
    dsimp only [tNext, tSeq]
    have s12 := s1.trans s2
    rw [hm] at hl
    refine ⟨.ref a, rfl, a, _, rfl, .inl (.inl (.inl (s12 _ _ ea))), (R.map V.str).length, rfl, by omega, by rw [hm]; omega, ?_⟩
    rw [hm]
    refine for_it walk_range (fun i σ H' => ∃ y4 y5 : Option V, σ = [some (.ref a), some (.ref fS), some (.ref fE), some (.int (0 : Nat)), y4, y5] ∧ Same H H' ∧ wrongF g e 0 R = wrongF g e i (R.drop i)) ⟨none, none, rfl, s12, by simp⟩ (fun _ _ _ _ _ => trivial) (fun i x σ H3 H4 hi hP hy => ?_) (fun σ H3 hP => ?_)
    · obtain ⟨y4, y5, rfl, sm, ew⟩ := hP
      obtain ⟨rfl, rfl⟩ := hy
      rw [Int.toNat_natCast] at hi
      have hd : R.drop i = R[i] :: R.drop (i + 1) := List.drop_eq_getElem_cons hi
      have hzi := hz R[i] (List.getElem_mem hi)
      have hat : atI (R.map V.str) (i : Int) = some (.str R[i]) := atI_nat (by rw [List.getElem?_map, List.getElem?_eq_getElem hi]; rfl)
      have hlast : decide (R.drop (i + 1) = []) = decide (i = R.length - 1) := by
        refine decide_eq_decide.mpr ?_
        rw [List.drop_eq_nil_iff]
        omega
      rw [hd, wrongF, hlast] at ew
      dsimp only [gName]
      rw [show (0 : Int) + (i : Int) = (i : Int) by omega]
      generalize R[i] = r at *
      have hrl : r.length = (TL.tl r).length := TL.len_tl r
      have hrs : r.length ≤ sizeLine := by rw [sizeLine_eq]; omega
      have hS3 : SqL K H4 a (R.map V.str) := .inl (.inl (sm _ _ ea))
      refine ⟨.ref a, rfl, .int (i : Nat), rfl, a, _, _, .str r, rfl, rfl, hS3, hat, .ref fS, rfl, r, fS, g, rfl, by omega, hS, fun H5 s5 => ?_⟩
      have hG := goodF_le g (TL.tl r) []
      generalize goodF g [] (TL.tl r) = G at *
      dsimp only [gName]
      refine ifT (decide (G < (TL.tl r).length) || !e (TL.tl r) (decide (i = R.length - 1))) (fun k q1 => orT _ _ (fun k q2 => ⟨_, rfl, .ref a, rfl, .int (i : Nat), rfl, a, _, _, .str r, rfl, rfl, s5.seq hS3, hat, r, rfl, hrs, _, _, rfl, rfl, _, rfl, TellB.eq (decide_eq_decide.mpr (by omega)) q2 _ (Same.refl _)⟩)
        (fun _ H6 k s6 q2 => notT _ (fun k q3 => ⟨.ref fE, rfl, fE, spE e, rfl, hE, .ref a, rfl, .int (i : Nat), rfl, a, _, _, .str r, rfl, rfl, s6.seq (s5.seq hS3), hat, .int (i : Nat), rfl, .ref a, rfl, a, _, rfl, .inl (s6.seq (s5.seq hS3)), _, 1, rfl, rfl, rfl, r, _, rfl, by omega, fun H7 s7 => ⟨_, rfl, ?_⟩⟩) q2) q1) (fun hc H6 s6 => ?_) (fun hc H6 s6 => ?_)
      · have eb : decide (V.int ((i : Nat) : Int) = V.int (((R.map V.str).length : Nat) - 1)) = decide (i = R.length - 1) := by
          rw [vint_dec, hm]
          exact decide_eq_decide.mpr (by omega)
        show k (e (TL.tl r) (decide (V.int ((i : Nat) : Int) = V.int (((R.map V.str).length : Nat) - 1)))) H7
        rw [eb]
        exact q3 _ s7
      · have hcc : G < (TL.tl r).length ∨ e (TL.tl r) (decide (i = R.length - 1)) = false := by simpa using hc
        rw [if_pos hcc] at ew
        rw [ew] at hlp
        obtain ⟨rfl, rfl⟩ := Prod.mk.inj hlp
        refine ⟨_, rfl, _, 1, rfl, rfl, _, rfl, _, 1, rfl, rfl, n2, fun t nt => ?_⟩
        exact q _ t (sm.trans (s5.trans (s6.trans (same_upd nt)))) ((sm.trans (s5.trans s6)).free nt) upd_same
      · have hcc : ¬ (G < (TL.tl r).length ∨ e (TL.tl r) (decide (i = R.length - 1)) = false) := fun h => by
          have : (decide (G < (TL.tl r).length) || !e (TL.tl r) (decide (i = R.length - 1))) = true := by simpa using h
          rw [hc] at this
          exact nomatch this
        rw [if_neg hcc] at ew
        exact ⟨_, _, rfl, sm.trans (s5.trans s6), ew⟩
    · obtain ⟨y4, y5, rfl, sm, ew⟩ := hP
      rw [Int.toNat_natCast, List.drop_of_length_le (Nat.le_refl _)] at ew
      rw [ew] at hlp
      obtain ⟨rfl, rfl⟩ := Prod.mk.inj hlp
      exact ⟨n2, fun t nt => q _ t (sm.trans (same_upd nt)) (sm.free nt) upd_same⟩
end
end K09

namespace K09
open PySem PySem.Spec PyProof.Rows L2 LH
section
variable {P : Program} {w : World} {K : PySem.W.Frag} {mg : Str → Option Value} {base : Heap} {tk : Nat → Tok} {ca : Nat → Addr}
/-! ### the bytes of four signs -/
def val64 (l : List Nat) : Nat := l.foldl (fun n c => n * 64 + b64 c) 0
theorem val64_snoc (l : List Nat) (c : Nat) : val64 (l ++ [c]) = val64 l * 64 + b64 c := by
  unfold val64
  rw [List.foldl_append]
  rfl
theorem val64_gen : ∀ (l : List Nat) (n : Nat), l.foldl (fun n c => n * 64 + b64 c) n < (n + 1) * 64 ^ l.length
  | [], n => by simp
  | c :: r, n => by
    have h1 := val64_gen r (n * 64 + b64 c)
    have h2 := b64_lt c
    rw [List.foldl_cons, List.length_cons, Nat.pow_succ]
    refine Nat.lt_of_lt_of_le h1 ?_
    rw [show (n + 1) * (64 ^ r.length * 64) = ((n + 1) * 64) * 64 ^ r.length by rw [Nat.mul_comm (64 ^ r.length) 64, Nat.mul_assoc]]
    exact Nat.mul_le_mul_right _ (by omega)
theorem val64_lt (l : List Nat) : val64 l < 64 ^ l.length := by
  have := val64_gen l 0
  rwa [Nat.zero_add, Nat.one_mul] at this
def fourV (l : List Nat) : List V := cutV [.int ((val64 l / 65536 : Nat) : Int), .int ((val64 l / 256 % 256 : Nat) : Int), .int ((val64 l % 256 : Nat) : Int)] none (some (3 - (l.count 61 : Nat)))
/-! ### bytes_of_four -/
abbrev s_bytes_of_four : Stmt := topS 42
abbrev N_bytes_of_four : List Str := ["signs", "number", "sign", "row"]
abbrev P_bytes_of_four : List Str := ["signs"]
theorem sc_bytes_of_four : FnScope N_bytes_of_four ["signs"] (defScope s_bytes_of_four) := ⟨rfl, rfl, rfl, by decide +kernel, rfl, by decide +kernel, by decide +kernel⟩
def sp_four : Sp := fun vs H Q _ => ∃ z : Str, vs = [.str z] ∧ z.length ≤ 4 ∧ New H (fourV (TL.tl z)) Q
theorem ok_four {f fB : Addr} {fd fdB : FuncData} (F : Fun K "bytes_of_four" "bytes_of_four" s_bytes_of_four f fd) (T : Tx mg tk) (D_bits_of : Def P w K mg base "bits_of" 1 fB fdB P_bits_of sp_bits) : FnOk P w K mg base CX0 2 f fd P_bytes_of_four sp_four := by
  refine F.ok sc_bytes_of_four (fun vs H Q E h => ?_) (fun cdv A outer s H vs Q E hr h => ?_)
  · obtain ⟨z, rfl, _⟩ := h
    rfl
  · have nd := sc_bytes_of_four.nd
    obtain ⟨z, rfl, hz, q⟩ := h
    refine ⟨_, (pss_cons (ps_set (i := 1) nd rfl (.inl rfl) pe_int)
      (pss_cons (ps_for PassesOwn.never rfl (pi_str (pv 0)) (pg_name (i := 2) nd rfl (Or.inl rfl))
        (pss_one (ps_set (i := 1) nd rfl (.inl rfl) (pe_op op_or (pe_op op_shl (pv 1) pe_int) (pe_def D_bits_of (hr.mono (by decide)) (pa_cons (pv 2) pa_nil))))))
      (pss_cons (ps_set (i := 3) nd rfl (.inl rfl) (pe_lst (pa_cons (pe_op op_shr (pv 1) pe_int) (pa_cons (pe_op op_and (pe_op op_shr (pv 1) pe_int) pe_int) (pa_cons (pe_op op_and (pv 1) pe_int) pa_nil)))))
      (pss_one (ps_ret (pe_slice (slL K) (pv 3) po_none (po_some (pe_op op_sub pe_int (pe_m1 PySem.F.slot_str_count PySem.F.type_str_count mt_count (pv 0) pe_str))))))))), ?_⟩
    have hzl : z.length = (TL.tl z).length := TL.len_tl z
    refine ⟨.str z, rfl, z, rfl, for_it walk_strF (fun i σ H' => ∃ y2 : Option V, σ = [some (.str z), some (.int (val64 ((TL.tl z).take i) : Nat)), y2, none] ∧ Same H H') ⟨none, rfl, Same.refl _⟩ (fun _ _ _ _ _ => trivial) (fun i x σ H1 H2 hi hP hy => ?_) (fun σ H1 hP => ?_)⟩
    · obtain ⟨y2, rfl, sm⟩ := hP
      obtain ⟨rfl, rfl⟩ := hy
      have htk : (TL.tl z).take (i + 1) = (TL.tl z).take i ++ [(TL.tl z).getD i 0] := by
        rw [List.take_add_one, List.getElem?_eq_getElem hi, List.getD_eq_getElem?_getD, List.getElem?_eq_getElem hi]
        rfl
      rw [htk]
      have hv := val64_lt ((TL.tl z).take i)
      have hl : ((TL.tl z).take i).length ≤ 3 := by rw [List.length_take]; omega
      have hv2 : val64 ((TL.tl z).take i) < 262144 := Nat.lt_of_lt_of_le hv (Nat.le_trans (Nat.pow_le_pow_right (by decide) hl) (by decide))
      dsimp only [gName]
      generalize (TL.tl z).getD i 0 = c at *
      generalize (TL.tl z).take i = t at *
      have hb := b64_lt c
      refine ⟨_, rfl, _, 6, rfl, rfl, ⟨by decide, by decide, by omega⟩, .str ⟨#[c]⟩, rfl, c, rfl, fun H3 s3 => ⟨_, _, rfl, rfl, some (.str ⟨#[c]⟩), ?_, sm.trans s3⟩⟩
      · show [_, some (V.int (Builtin.bitOr ((val64 t : Nat) * 2 ^ 6) (b64 c : Nat))), some (V.str ⟨#[c]⟩), _] = _
        rw [val64_snoc, Bits.bitOr_join' (k := 6) (by omega) (by omega) (by omega)]
        rw [show ((b64 c : Nat) : Int) + (val64 t : Nat) * 2 ^ 6 = ((val64 t * 64 + b64 c : Nat) : Int) by omega]
    · obtain ⟨y2, rfl, sm⟩ := hP
      rw [List.take_length]
      have hv := val64_lt (TL.tl z)
      have hv2 : val64 (TL.tl z) < 16777216 := Nat.lt_of_lt_of_le hv (Nat.le_trans (Nat.pow_le_pow_right (by decide) (show (TL.tl z).length ≤ 4 by omega)) (by decide))
      unfold fourV at q
      have hcnt := count_one z 61
      generalize val64 (TL.tl z) = N at *
      refine ⟨_, rfl, _, 16, rfl, rfl, (by show (0 : Int) ≤ 16; decide), _, rfl, _, 8, rfl, rfl, (by show (0 : Int) ≤ 8; decide), _, 255, rfl, rfl, _, rfl, _, 255, rfl, rfl, Nat.le_of_lt (small1000 (show 3 ≤ 1000 by decide)), fun p np => ?_⟩
      dsimp only [gName]
      rw [bitAnd_m8, bitAnd_m8]
      rw [show ((N : Nat) : Int) / 2 ^ (16 : Int).toNat = ((N / 65536 : Nat) : Int) by show ((N : Nat) : Int) / 65536 = _; omega, show ((N : Nat) : Int) / 2 ^ (8 : Int).toNat % 256 = ((N / 256 % 256 : Nat) : Int) by show ((N : Nat) : Int) / 256 % 256 = _; omega, show ((N : Nat) : Int) % 256 = ((N % 256 : Nat) : Int) by omega]
      have s4 := same_upd (o := .lst [V.int ((N / 65536 : Nat) : Int), .int ((N / 256 % 256 : Nat) : Int), .int ((N % 256 : Nat) : Int)]) np
      refine ⟨.ref p, rfl, .str z, rfl, ⟨z, rfl⟩, z, Str.ofString "=", rfl, rfl, 3, _, rfl, rfl, _, rfl, p, _, rfl, .inl (.inl upd_same), fun g ng => ?_⟩
      rw [eqS, hcnt]
      exact q _ g (sm.trans (s4.trans (same_upd ng))) ((sm.trans s4).free ng) upd_same
/-- a refusal by the class at C, with its row and place -/
def RefuseW (H : Hp) (C : Addr) (l p : Nat) (E : XK) : Prop := ∀ H1 d, Same H H1 → H1 d = none → E (.ref C) (some d) (upd H1 d (.xd (wrFields "badsixty" l p)))
structure DefX (P : Program) (w : World) (K : PySem.W.Frag) (mg : Str → Option Value) (base : Heap) (x : Str) (k : Nat) (f : Addr) (fd : FuncData) (ps : List Str) (sp : Sp) : Prop where
  ok : FnOk P w K mg base (L2.CX P w) k f fd ps sp
  mg : mg x = some (.ref f)
  kp : PySem.W.keepIn K (.ref f) = true
  bd : Binds K fd ps []
theorem log_small {n : Nat} (h : n ≤ 100000) : ((n : Int)).natAbs.log2 < 1920 := by
  rw [Int.natAbs_natCast]
  by_cases h0 : n = 0
  · rw [h0]; decide
  · have : n.log2 < 20 := (Nat.log2_lt h0).mpr (Nat.lt_of_le_of_lt h (by decide))
    omega
theorem firstOdd_le : ∀ (xs : List V) (n : Nat), firstOdd n xs ≤ n + xs.length
  | [], n => Nat.zero_le _
  | v :: r, n => by
    have ih := firstOdd_le r (n + 1)
    rw [List.length_cons]
    cases v <;> (unfold firstOdd; omega)
theorem wrongF_le (g : Nat → List Nat → Bool) (e : List Nat → Bool → Bool) : ∀ (R : List Str) (n l p : Nat), (∀ z ∈ R, z.length ≤ 1000) → wrongF g e n R = some (l, p) → 1 ≤ l ∧ l ≤ n + R.length ∧ 1 ≤ p ∧ p ≤ 1001
  | [], n, l, p, _, h => nomatch h
  | r :: R, n, l, p, hz, h => by
    rw [wrongF] at h
    have hr := hz r (by simp)
    rw [TL.len_tl] at hr
    have hg := goodF_le g (TL.tl r) []
    split at h
    · have := Option.some.inj h
      obtain ⟨rfl, rfl⟩ := Prod.mk.inj this
      rw [List.length_cons]
      omega
    · have := wrongF_le g e R (n + 1) l p (fun z hz' => hz z (by simp [hz'])) h
      rw [List.length_cons]
      omega
/-- all signs of rows, one behind the other -/
def textR (R : List Str) : List Nat := (R.map TL.tl).flatten
def bytes64 (R : List Str) : List V := ((chunks 4 (textR R)).map fourV).flatten
theorem fourV_len (l : List Nat) : (fourV l).length ≤ 3 := cutV_length _ _ _
theorem textR_len {R : List Str} (h : ∀ z ∈ R, z.length ≤ 1000) : (textR R).length ≤ 1000 * R.length := by
  unfold textR
  induction R with
  | nil => exact Nat.le_refl _
  | cons r R ih =>
    have h1 := h r (by simp)
    have h2 := ih fun z hz => h z (by simp [hz])
    rw [TL.len_tl] at h1
    rw [List.map_cons, List.flatten_cons, List.length_append, List.length_cons]
    omega
theorem flat_le {α : Type} (ls : List (List α)) (k : Nat) (h : ∀ x ∈ ls, x.length ≤ k) : ls.flatten.length ≤ ls.length * k := by
  induction ls with
  | nil => exact Nat.zero_le _
  | cons x r ih =>
    have h1 := h x (by simp)
    have h2 := ih fun y hy => h y (by simp [hy])
    rw [List.flatten_cons, List.length_append, List.length_cons, Nat.succ_mul]
    omega
/-! ### bytes_of_sixty -/
abbrev s_bytes_of_sixty : Stmt := topS 41
abbrev N_bytes_of_sixty : List Str := ["rows", "text", "line", "place", "at", "byte"]
abbrev P_bytes_of_sixty : List Str := ["rows"]
theorem sc_bytes_of_sixty : FnScope N_bytes_of_sixty ["rows"] (defScope s_bytes_of_sixty) := ⟨rfl, rfl, rfl, by decide +kernel, rfl, by decide +kernel, by decide +kernel⟩
def sp_sixtyX (K : PySem.W.Frag) (C : Addr) : Sp := fun vs H Q E => ∃ (x : V) (l p : Nat), vs = [x] ∧ FirstAt K H standB endB x l p ∧
  ((0 < l ∧ RefuseW H C l p E) ∨ ∃ (a : Addr) (R : List Str), l = 0 ∧ x = .ref a ∧ H a = some (.lst (R.map V.str)) ∧ R.length ≤ 10000 ∧ (∀ z ∈ R, z.length ≤ 1000) ∧ New H (bytes64 R) Q)
theorem first_small {K : PySem.W.Frag} {H : Hp} {g : Nat → List Nat → Bool} {e : List Nat → Bool → Bool} {x : V} {l p : Nat} (h : FirstAt K H g e x l p) : l ≤ 20000 ∧ p ≤ 20000 := by
  rcases h with ⟨_, rfl, rfl⟩ | ⟨a, xs, _, _, hl, _, ⟨_, rfl, rfl⟩ | ⟨R, rfl, hz, hlp⟩⟩
  · exact ⟨by decide, by decide⟩
  · have := firstOdd_le xs 0
    omega
  · cases hw : wrongF g e 0 R with
    | none =>
      rw [hw] at hlp
      obtain ⟨rfl, rfl⟩ := Prod.mk.inj hlp
      exact ⟨by decide, by decide⟩
    | some lp =>
      rw [hw] at hlp
      obtain ⟨l', p'⟩ := lp
      obtain ⟨rfl, rfl⟩ := Prod.mk.inj hlp
      have := wrongF_le g e R 0 _ _ hz hw
      rw [List.length_map] at hl
      omega
theorem ok_sixtyX {f fF f4 fS fE D fI cc cda BH fH ccH cdaH : Addr} {fd fdF fd4 fdS fdE : FuncData} (F : Fun K "bytes_of_sixty" "bytes_of_sixty" s_bytes_of_sixty f fd) (T : Tx mg tk) (W_BadSixty : WrC P K mg "BadSixty" (ca 13) D fI cc cda BH fH ccH cdaH "badsixty") (D_first_wrong : Def P w K mg base "first_wrong" 5 fF fdF P_first_wrong (sp_first P w K mg base)) (D_bytes_of_four : Def P w K mg base "bytes_of_four" 2 f4 fd4 P_bytes_of_four sp_four)
    (D_may_stand : Def P w K mg base "may_stand" 3 fS fdS P_may_stand sp_stand) (D_may_end : Def P w K mg base "may_end" 1 fE fdE P_may_end sp_end) : FnOk P w K mg base (L2.CX P w) 6 f fd P_bytes_of_sixty (sp_sixtyX K (ca 13)) := by
  refine F.okX sc_bytes_of_sixty (fun vs H Q E h => ?_) (fun cdv A outer s H vs Q E hr h => ?_)
  · obtain ⟨x, l, p, rfl, _⟩ := h
    rfl
  · have nd := sc_bytes_of_sixty.nd
    obtain ⟨x, l, p, rfl, hx, h⟩ := h
    refine ⟨_, (pss_cons (ps_asg (pe_def D_first_wrong (hr.mono (by decide)) (pa_cons (pv 0) (pa_cons (pe_glob (v := .ref _) (by rfl) D_may_stand.mg rfl) (pa_cons (pe_glob (v := .ref _) (by rfl) D_may_end.mg rfl) pa_nil)))) (pg_tup rfl (pgs_cons (pg_name (i := 2) nd rfl (Or.inl rfl)) (pgs_cons (pg_name (i := 3) nd rfl (Or.inl rfl)) pgs_nil))))
      (pss_cons (ps_if (pt_cmpR op_gt (pv 2) pe_int (nomark _))
        (pss_one (ps_raiseW rfl W_BadSixty hr (takes_of rfl rfl rfl rfl) (by exact (pa_cons (pv 2) (pa_cons (pv 3) pa_nil)))))
        pss_nil)
      (PSs.nox (pss_cons (ps_set (i := 1) nd rfl (.inr rfl) (pe_join pe_str (pv 0)))
      (pss_one (ps_ret (pe_lc2 (own := [("at", 4), ("byte", 5)]) (vs1 := [5]) (g := gName 4) (g1 := gName 5) (by rfl) nd (pi_range3 (by rfl) T.n_range (pa_cons pe_int (pa_cons (pe_callB call_len_str (by rfl) T.n_len (by decide +kernel) (pa_cons (pv 1) pa_nil)) (pa_cons pe_int pa_nil)))) (blkOk_by (N := N_bytes_of_sixty) (sc := defScope s_bytes_of_sixty) (by decide +kernel)) (by decide) (fun _ _ _ _ _ => (pg_name (i := 4) nd rfl (Or.inl rfl))) (fun _ _ _ _ _ => pts_nil) (fun _ _ _ _ _ => by exact (pi_listK K (pe_def D_bytes_of_four (hr.mono (by decide)) (pa_cons (pe_slice sl_str (pv 1) (po_some (pv 4)) (po_some (pe_op op_add (pv 4) pe_int))) pa_nil)))) (fun _ _ _ _ _ => (pg_name (i := 5) nd rfl (Or.inl rfl))) (fun _ _ _ _ _ => pts_nil) (fun _ _ _ _ _ => (pv 5))))))))), ?_⟩
    have hsm := first_small hx
    refine ⟨x, rfl, x, fS, fE, standB, endB, l, p, rfl, FnV.of D_may_stand, FnV.of D_may_end, hx, fun H1 t s1 nt et => ⟨t, _, rfl, .inl (.inl et), rfl, _, _, rfl, _, _, rfl, rfl, ?_⟩⟩
    dsimp only [gName]
    rcases h with ⟨h0, r⟩ | ⟨a, R, rfl, rfl, ea, hRl, hz, q⟩
    · refine ifT true (fun k q1 => ⟨_, rfl, _, 0, rfl, rfl, _, rfl, TellB.eq (decide_eq_true (by omega)) q1 _ (Same.refl _)⟩) (fun _ H2 s2 => ?_) (fun h => nomatch h)
      exact ⟨_, rfl, _, rfl, (l : Nat), (p : Nat), rfl, log_small (by omega), log_small (by omega), fun d hd => r H2 d (s1.trans s2) hd⟩
    · refine ifT false (fun k q1 => ⟨_, rfl, _, 0, rfl, rfl, _, rfl, TellB.eq (decide_eq_false (by decide)) q1 _ (Same.refl _)⟩) (fun h => nomatch h) (fun _ H2 s2 => ?_)
      dsimp only [tNext, tSeq]
      have ea2 := s2 _ _ (s1 _ _ ea)
      have htl := textR_len hz
      have hsum : (R.map (·.length)).sum = (textR R).length := sum_len R
      refine ⟨⟨_, rfl⟩, .ref a, rfl, Str.ofString "", a, R, rfl, rfl, .inl (.inl (.inl ea2)), by rw [hsum, show (Str.ofString "").length = 0 by decide +kernel]; omega, ?_⟩
      have ej : TL.tl (Txt.join (Str.ofString "") R) = textR R := tl_join0 R
      generalize Txt.join (Str.ofString "") R = z at *
      have hzl : z.length = (textR R).length := by rw [TL.len_tl, ej]
      have hzs : z.length ≤ sizeLine := by rw [sizeLine_eq]; omega
      dsimp only [gName]
      have hch : chunks 4 (textR R) = (List.range ((z.length + 3) / 4)).map fun i => ((textR R).drop (i * 4)).take 4 := by
        unfold chunks
        rw [hzl]
      have hck : ∀ i, TL.tl (cutS z (some (0 + ((i : Nat) : Int) * 4)) (some (0 + ((i : Nat) : Int) * 4 + 4))) = ((textR R).drop (i * 4)).take 4 := fun i => by
        rw [show (0 : Int) + ((i : Nat) : Int) * 4 = ((i * 4 : Nat) : Int) by omega, show ((i * 4 : Nat) : Int) + 4 = ((i * 4 + 4 : Nat) : Int) by omega, cutS_at, ej, Nat.add_sub_cancel_left]
      have hrow : ∀ n, (((List.range n).map fun i => (List.range (fourV (((textR R).drop (i * 4)).take 4)).length).map fun j => (fourV (((textR R).drop (i * 4)).take 4)).getD j .non).flatten) = ((List.range n).map fun i => fourV (((textR R).drop (i * 4)).take 4)).flatten := fun n => by
        congr 1
        exact List.map_congr_left fun x _ => LH.range_getD _ _
      refine ⟨.str z, rfl, z, rfl, hzs, 0, _, 4, (z.length + 3) / 4, rfl, rgC z.length 4 (by decide) (by decide) (by omega), fun D hD => lc_two (K := K) (fun i => .int (0 + ((i : Nat) : Int) * 4)) (fun i => fourV (((textR R).drop (i * 4)).take 4)) (fun i j => (fourV (((textR R).drop (i * 4)).take 4)).getD j .non) (by decide) walk_rangeC (fun _ _ => trivial) hD (fun i hi => ?_) (fun i H3 Rr hi s3 hR => ?_) (fun i j H3 Q3 hi hj s3 q3 => ?_) (fun H3 s3 e => ?_)⟩
      · rw [hrow]
        have h1 := flat_le ((List.range i).map fun i => fourV (((textR R).drop (i * 4)).take 4)) 3 fun x hx => by
          obtain ⟨j, _, rfl⟩ := List.mem_map.mp hx
          exact fourV_len _
        rw [List.length_map, List.length_range] at h1
        rw [sizeLine_eq]
        omega
      · have hl4 : (((textR R).drop (i * 4)).take 4).length ≤ 4 := by rw [List.length_take]; omega
        refine ⟨.str z, rfl, .int (0 + ((i : Nat) : Int) * 4), rfl, _, rfl, .int (0 + ((i : Nat) : Int) * 4), rfl, _, 4, rfl, rfl, _, rfl, z, rfl, hzs, _, rfl, by rw [TL.len_tl, hck]; exact hl4, ?_⟩
        intro H4 p4 s4 n4 e4
        rw [hck] at e4
        exact ⟨p4, rfl, ⟨_, .inl (.inl e4)⟩, hR H4 p4 s4 n4 e4⟩
      · exact ⟨_, rfl, q3 _ (Same.refl _)⟩
      · refine q H3 D (s1.trans (s2.trans s3)) ((s1.trans s2).free hD) ?_
        rw [e, hrow]
        unfold bytes64
        rw [hch, List.map_map]
        rfl
end
end K09

namespace K09
open PySem PySem.Spec PyProof.Rows L2 LH
def Bytes (bs : List Int) : Prop := ∀ b ∈ bs, 0 ≤ b ∧ b < 256
section
variable {P : Program} {w : World} {K : PySem.W.Frag} {mg : Str → Option Value} {base : Heap} {tk : Nat → Tok} {ca : Nat → Addr}
def val256 (l : List Int) : Int := l.foldl (fun n b => n * 256 + b) 0
def sgn (n : Int) : Nat := (TL.tl S64).getD n.toNat 0
def fourL (c : List Int) : List Nat :=
  let v := val256 (c ++ List.replicate (3 - c.length) 0)
  (([18, 12, 6, 0] : List Nat).map fun s => sgn (v / 2 ^ s % 64)).take (4 - (3 - c.length)) ++ List.replicate (3 - c.length) 61
theorem S64_len : (TL.tl S64).length = 64 := by decide +kernel
theorem sgn_at {n : Int} (h0 : 0 ≤ n) (h1 : n < 64) : atI (TL.tl S64) n = some (sgn n) := by
  have hl : n.toNat < (TL.tl S64).length := by rw [S64_len]; omega
  obtain ⟨m, rfl⟩ : ∃ m : Nat, n = (m : Int) := ⟨n.toNat, by omega⟩
  refine atI_nat ?_
  unfold sgn
  rw [Int.toNat_natCast] at hl ⊢
  rw [List.getD_eq_getElem?_getD, List.getElem?_eq_getElem hl]
  rfl
theorem val256_snoc (l : List Int) (b : Int) : val256 (l ++ [b]) = val256 l * 256 + b := by
  unfold val256
  rw [List.foldl_append]
  rfl
theorem val256_le (l : List Int) (h : Bytes l) : 0 ≤ val256 l ∧ val256 l < 256 ^ l.length := by
  have key : ∀ r : List Int, Bytes r → 0 ≤ val256 r.reverse ∧ val256 r.reverse < 256 ^ r.length := by
    intro r
    induction r with
    | nil => intro _; exact ⟨by decide, by decide⟩
    | cons b r ih =>
      intro h
      have hb := h b (by simp)
      have ih' := ih fun x hx => h x (by simp [hx])
      rw [List.reverse_cons, val256_snoc, List.length_cons, Int.pow_succ]
      omega
  have := key l.reverse fun x hx => h x (by simpa using hx)
  simpa using this
theorem tl_rep_eq (k : Int) : TL.tl (repS (Str.ofString "=") k) = List.replicate k.toNat 61 := by
  show (List.replicate k.toNat (TL.tl (Str.ofString "="))).flatten = _
  rw [show TL.tl (Str.ofString "=") = [61] by decide +kernel]
  generalize k.toNat = n
  induction n with
  | zero => rfl
  | succ n ih => rw [List.replicate_succ, List.flatten_cons, ih, List.replicate_succ]; rfl
theorem rep_flat (n : Nat) : (List.replicate n [V.int 0]).flatten = (List.replicate n (0 : Int)).map V.int := by
  induction n with
  | zero => rfl
  | succ n ih => rw [List.replicate_succ, List.flatten_cons, ih, List.replicate_succ]; rfl
/-! ### four_of -/
abbrev s_four_of : Stmt := topS 40
abbrev N_four_of : List Str := ["row", "lacking", "number", "byte", "signs", "shift"]
abbrev P_four_of : List Str := ["row"]
theorem sc_four_of : FnScope N_four_of ["row"] (defScope s_four_of) := ⟨rfl, rfl, rfl, by decide +kernel, rfl, by decide +kernel, by decide +kernel⟩
def sp_four_of : Sp := fun vs H Q _ => ∃ (a : Addr) (c : List Int), vs = [.ref a] ∧ H a = some (.lst (c.map V.int)) ∧ Bytes c ∧ 1 ≤ c.length ∧ c.length ≤ 3 ∧ Tell H (.str ⟨(fourL c).toArray⟩) Q
theorem ok_four_of {f : Addr} {fd : FuncData} {k : Nat} (F : Fun K "four_of" "four_of" s_four_of f fd) (T : Tx mg tk) : FnOk P w K mg base CX0 (k + 1) f fd ["row"] sp_four_of := by
  refine F.ok sc_four_of (fun vs H Q E h => ?_) (fun cdv A outer s H vs Q E hr h => ?_)
  · obtain ⟨a, bs, rfl, _⟩ := h
    rfl
  · have nd := sc_four_of.nd
    obtain ⟨a, c, rfl, hS, hb, hl1, hl3, q⟩ := h
    refine ⟨_, (pss_cons (ps_set (i := 1) nd rfl (.inl rfl) (pe_op op_sub pe_int (pe_callB (cLen K) (by rfl) T.n_len (by decide +kernel) (pa_cons (pv 0) pa_nil))))
      (pss_cons (ps_set (i := 2) nd rfl (.inr rfl) pe_int)
      (pss_cons (ps_for PassesOwn.never rfl (pi_list (pe_op op_cat (pv 0) (pe_op op_rep (pe_lst (pa_cons pe_int pa_nil)) (pv 1)))) (pg_name (i := 3) nd rfl (Or.inl rfl))
        (pss_one (ps_set (i := 2) nd rfl (.inr rfl) (pe_op op_or (pe_op op_shl (pv 2) pe_int) (pv 3)))))
      (pss_cons (ps_set (i := 4) nd rfl (.inl rfl) (pe_join pe_str (pe_lc (own := [("shift", 5)]) (g := gName 5) (by rfl) nd (pi_tup (pe_tup (pa_cons pe_int (pa_cons pe_int (pa_cons pe_int (pa_cons pe_int pa_nil)))))) (blkOk_by (N := N_four_of) (sc := defScope s_four_of) (by decide +kernel)) (fun _ _ _ _ _ => (pg_name (i := 5) nd rfl (Or.inl rfl))) (fun _ _ _ _ _ => pts_nil) (fun _ _ _ _ _ => (pe_ix ix_str (pe_glob (v := .str S64) (by rfl) T.m_SIXTY_FOUR ⟨_, rfl⟩) (pe_op op_and (pe_op op_shr (pv 2) (pv 5)) pe_int) (fun _ _ => rfl))))))
      (pss_one (ps_ret (pe_op op_add_str (pe_slice sl_str (pv 4) po_none (po_some (pe_op op_sub pe_int (pv 1)))) (pe_op op_mul_str pe_str (pv 1))))))))), ?_⟩
    have hlm : (c.map V.int).length = c.length := List.length_map ..
    refine ⟨.ref a, rfl, a, _, rfl, .inl (.inl (.inl hS)), 3, _, rfl, rfl, ?_⟩
    rw [hlm]
    have hL0 : 0 ≤ (3 : Int) - (c.length : Nat) ∧ (3 : Int) - (c.length : Nat) ≤ 2 := by omega
    have hLn : ((3 : Int) - (c.length : Nat)).toNat = 3 - c.length := by omega
    refine ⟨.ref a, rfl, Nat.le_of_lt (small1000 (show 1 ≤ 1000 by decide)), fun p np => ⟨.int (3 - (c.length : Nat)), rfl, p, 3 - (c.length : Nat), _, rfl, rfl, upd_same, by omega, by omega, ?_, fun p2 np2 => ?_⟩⟩
    · rw [List.length_singleton, sizeLine_eq]
      omega
    have s1 := same_upd (o := .lst [V.int 0]) np
    have e2 : (List.replicate ((3 : Int) - (c.length : Nat)).toNat [V.int 0]).flatten = (List.replicate (3 - c.length) (0 : Int)).map V.int := by rw [hLn, rep_flat]
    rw [e2]
    have s2 := same_upd (o := .lst ((List.replicate (3 - c.length) (0 : Int)).map V.int)) np2
    refine ⟨a, p2, _, _, rfl, rfl, s2 _ _ (s1 _ _ hS), upd_same, ?_, fun p3 np3 => ?_⟩
    · rw [List.length_map, List.length_map, List.length_replicate, sizeLine_eq]
      omega
    rw [← List.map_append]
    have hb3 : Bytes (c ++ List.replicate (3 - c.length) (0 : Int)) := fun x hx => by
      rcases List.mem_append.mp hx with h | h
      · exact hb x h
      · rw [(List.mem_replicate.mp h).2]
        decide
    have hl : (c ++ List.replicate (3 - c.length) (0 : Int)).length = 3 := by
      rw [List.length_append, List.length_replicate]
      omega
    have ev : fourL c = (([18, 12, 6, 0] : List Nat).map fun s => sgn (val256 (c ++ List.replicate (3 - c.length) 0) / 2 ^ s % 64)).take (4 - (3 - c.length)) ++ List.replicate (3 - c.length) 61 := rfl
    generalize c ++ List.replicate (3 - c.length) (0 : Int) = l at *
    have s3 := same_upd (o := .lst (l.map V.int)) np3
    have s13 := (s1.trans s2).trans s3
    generalize hH3 : upd _ p3 (.lst (l.map V.int)) = H3 at *
    have e3 : H3 p3 = some (.lst (l.map V.int)) := by rw [← hH3, upd_same]
    refine ⟨p3, rfl, ⟨_, .inl (.inl e3)⟩, for_it walk_list (fun i σ H' => ∃ y3, σ = [some (.ref a), some (.int (3 - (c.length : Nat))), some (.int (val256 (l.take i))), y3, none, none] ∧ H' = H3) ⟨none, rfl, rfl⟩
      (fun i σ H' _ h => by obtain ⟨y, rfl, rfl⟩ := h; exact .inl (.inl e3)) (fun i x σ H' H'' hi hP hy => ?_) (fun σ H' hP => ?_)⟩
    · obtain ⟨y3, rfl, rfl⟩ := hP
      obtain ⟨rfl, hx⟩ := hy
      rw [List.length_map] at hi
      rw [List.getElem?_map, List.getElem?_eq_getElem hi] at hx
      obtain rfl := Option.some.inj hx
      have hv := val256_le (l.take i) fun x hx => hb3 x (List.mem_of_mem_take hx)
      have hli : (l.take i).length = i := by rw [List.length_take]; omega
      rw [hli] at hv
      have hi3 : i = 0 ∨ i = 1 ∨ i = 2 := by omega
      have hv2 : val256 (l.take i) < 65536 := by
        rcases hi3 with rfl | rfl | rfl
        · exact Int.lt_of_lt_of_le hv.2 (by decide)
        · exact Int.lt_of_lt_of_le hv.2 (by decide)
        · exact Int.lt_of_lt_of_le hv.2 (by decide)
      have hbi := hb3 l[i] (List.getElem_mem hi)
      refine ⟨_, rfl, val256 (l.take i), 8, rfl, rfl, ⟨by decide, by decide, by omega⟩, .int l[i], rfl, _, l[i], rfl, rfl, some (.int l[i]), ?_, rfl⟩
      rw [List.take_add_one, List.getElem?_eq_getElem hi]
      show _ = [_, _, some (V.int (val256 (l.take i ++ [l[i]]))), _, _, _]
      rw [val256_snoc]
      have := Bits.bitOr_join' (k := 8) hbi.1 hbi.2 hv.1
      show [_, _, some (V.int (Builtin.bitOr (val256 (l.take i) * 2 ^ 8) l[i])), _, _, _] = _
      rw [this, Int.add_comm]
      rfl
    · obtain ⟨y3, rfl, rfl⟩ := hP
      rw [List.length_map, List.take_length]
      have hv := val256_le l hb3
      generalize val256 l = v at *
      refine ⟨⟨_, rfl⟩, Nat.le_of_lt (small1000 (show 4 ≤ 1000 by decide)), fun p np => ?_⟩
      have s4 := same_upd (o := .tup [.int 18, .int 12, .int 6, .int 0]) np
      refine ⟨p, rfl, ⟨_, .inl (.inl upd_same)⟩, fun D hD => lc_pure (n := 4) (fun i => ([.int 18, .int 12, .int 6, .int 0] : List V).getD i .non) (fun i => .str ⟨#[sgn (v / 2 ^ (([18, 12, 6, 0] : List Nat).getD i 0) % 64)]⟩) (walk_tupF (xs := [.int 18, .int 12, .int 6, .int 0])) (fun H1 sm => seqT sm (.inl (.inl upd_same))) hD (Nat.le_of_lt (small1000 (by decide))) (fun i H1 Q1 hi sm q1 => ?_) (fun H1 sm e => ?_)⟩
      · have key : ∀ t : Nat, atI S64.cps.toList (Builtin.bitAnd (v / 2 ^ t) 63) = some (sgn (v / 2 ^ t % 64)) := fun t => by
          rw [bitAnd_m6]
          exact sgn_at (Int.emod_nonneg _ (by decide)) (Int.emod_lt_of_pos _ (by decide))
        have hz : S64.length ≤ sizeLine := Nat.le_of_lt (small1000 (by decide +kernel))
        have hi4 : i = 0 ∨ i = 1 ∨ i = 2 ∨ i = 3 := by omega
        rcases hi4 with rfl | rfl | rfl | rfl
        · exact ⟨.int v, rfl, .int 18, rfl, v, 18, rfl, rfl, (show (0 : Int) ≤ 18 by decide), _, 63, rfl, rfl, S64, _, _, rfl, rfl, hz, key 18, q1 _ (Same.refl _)⟩
        · exact ⟨.int v, rfl, .int 12, rfl, v, 12, rfl, rfl, (show (0 : Int) ≤ 12 by decide), _, 63, rfl, rfl, S64, _, _, rfl, rfl, hz, key 12, q1 _ (Same.refl _)⟩
        · exact ⟨.int v, rfl, .int 6, rfl, v, 6, rfl, rfl, (show (0 : Int) ≤ 6 by decide), _, 63, rfl, rfl, S64, _, _, rfl, rfl, hz, key 6, q1 _ (Same.refl _)⟩
        · exact ⟨.int v, rfl, .int 0, rfl, v, 0, rfl, rfl, (show (0 : Int) ≤ 0 by decide), _, 63, rfl, rfl, S64, _, _, rfl, rfl, hz, key 0, q1 _ (Same.refl _)⟩
      · refine ⟨Str.ofString "", D, ([18, 12, 6, 0] : List Nat).map fun s => ⟨#[sgn (v / 2 ^ s % 64)]⟩, rfl, rfl, .inl (.inl (.inl e)), ?_, ?_⟩
        · show 4 ≤ 16777216
          decide
        have ej : TL.tl (Txt.join (Str.ofString "") (([18, 12, 6, 0] : List Nat).map fun s => (⟨#[sgn (v / 2 ^ s % 64)]⟩ : Str))) = ([18, 12, 6, 0] : List Nat).map fun s => sgn (v / 2 ^ s % 64) := by
          rw [TL.join_eq, TL.tl_join]
          rfl
        generalize Txt.join (Str.ofString "") (([18, 12, 6, 0] : List Nat).map fun s => (⟨#[sgn (v / 2 ^ s % 64)]⟩ : Str)) = J at ej
        have hJ : J.length = 4 := by rw [TL.len_tl, ej]; rfl
        refine ⟨.str J, rfl, .int (3 - (c.length : Nat)), rfl, 4, 3 - (c.length : Nat), rfl, rfl, 4 - (3 - (c.length : Nat)), rfl, J, rfl, by rw [hJ]; exact Nat.le_of_lt (small1000 (by decide)), ?_⟩
        refine ⟨.int (3 - (c.length : Nat)), rfl, Str.ofString "=", 3 - (c.length : Nat), rfl, rfl, by omega, by omega, by decide +kernel, _, _, rfl, rfl, ?_, ?_⟩
        · rw [TL.len_tl (repS _ _), tl_rep_eq, List.length_replicate, hLn, sizeLine_eq]
          have := cutS_length J none (some (4 - (3 - (c.length : Int))))
          omega
        · have ef : cutS J none (some (4 - (3 - (c.length : Int)))) ++ repS (Str.ofString "=") (3 - (c.length : Int)) = ⟨(fourL c).toArray⟩ := by
            refine TL.ext_tl ?_
            rw [TL.tl_append, tl_rep_eq, hLn, show (4 - (3 - (c.length : Int))) = ((4 - (3 - c.length) : Nat) : Int) by omega, cutS_to]
            show (TL.tl J).take (4 - (3 - c.length)) ++ List.replicate (3 - c.length) 61 = fourL c
            rw [ej, ev]
          rw [ef]
          refine q _ (s13.trans (s4.trans ?_))
          exact sm
end
def rowsV (t : List Nat) : List V := (chunks 60 t).map fun l => .str ⟨l.toArray⟩
def ptext (bs : List Int) : List Nat := ((chunks 3 bs).map fourL).flatten
theorem joinL_nil (l : List (List Nat)) : TL.joinL [] l = l.flatten := by
  induction l with
  | nil => rfl
  | cons x r ih =>
    cases r with
    | nil => simp [TL.joinL]
    | cons y r => rw [TL.joinL, ih]; simp
theorem tl_empty : TL.tl (Str.ofString "") = [] := by decide +kernel
theorem tl_join0 (ys : List Str) : TL.tl (Txt.join (Str.ofString "") ys) = (ys.map TL.tl).flatten := by
  rw [TL.join_eq, TL.tl_join, tl_empty, joinL_nil]
theorem flatten_le {α : Type} {k : Nat} : ∀ l : List (List α), (∀ x ∈ l, x.length ≤ k) → l.flatten.length ≤ k * l.length
  | [], _ => Nat.le_refl _
  | x :: r, h => by
    have ih := flatten_le r fun y hy => h y (List.mem_cons_of_mem _ hy)
    have hx := h x (by simp)
    rw [List.flatten_cons, List.length_append, List.length_cons, Nat.mul_succ]
    omega
theorem fourL_le (c : List Int) : (fourL c).length ≤ 7 := by
  unfold fourL
  simp only [List.length_append, List.length_take, List.length_map, List.length_replicate]
  omega
theorem chunks_len {α : Type} (k : Nat) (t : List α) : (chunks k t).length = (t.length + (k - 1)) / k := by
  unfold chunks
  rw [List.length_map, List.length_range]
theorem ptext_le (bs : List Int) : (ptext bs).length ≤ 7 * bs.length := by
  unfold ptext
  refine Nat.le_trans (flatten_le (k := 7) _ fun x hx => ?_) ?_
  · obtain ⟨c, _, rfl⟩ := List.mem_map.mp hx
    exact fourL_le c
  · rw [List.length_map, chunks_len]
    omega
theorem sum_len (ys : List Str) : (ys.map (·.length)).sum = ((ys.map TL.tl).flatten).length := by
  rw [List.length_flatten, List.map_map]
  rfl
section
variable {P : Program} {w : World} {K : PySem.W.Frag} {mg : Str → Option Value} {base : Heap} {tk : Nat → Tok} {ca : Nat → Addr}
/-! ### sixty_of -/
abbrev s_sixty_of : Stmt := topS 39
abbrev N_sixty_of : List Str := ["row", "text", "at"]
abbrev P_sixty_of : List Str := ["row"]
theorem sc_sixty_of : FnScope N_sixty_of ["row"] (defScope s_sixty_of) := ⟨rfl, rfl, rfl, by decide +kernel, rfl, by decide +kernel, by decide +kernel⟩
def sp_sixty_of (g : List Int → List Nat) : Sp := fun vs H Q _ => ∃ (a : Addr) (bs : List Int), vs = [.ref a] ∧ H a = some (.lst (bs.map V.int)) ∧ Bytes bs ∧ bs.length ≤ 4000 ∧ New H (rowsV (g bs)) Q
theorem ok_sixty_of {f fB fF : Addr} {fd fdB fdF : FuncData} (F : Fun K "sixty_of" "sixty_of" s_sixty_of f fd) (T : Tx mg tk) (D_is_bytes : Def P w K mg base "is_bytes" 2 fB fdB P_is_bytes (sp_is_bytesG K)) (D_four_of : Def P w K mg base "four_of" 1 fF fdF P_four_of sp_four_of) :
    FnOk P w K mg base CX0 3 f fd P_sixty_of (sp_sixty_of ptext) := by
  refine F.ok sc_sixty_of (fun vs H Q E h => ?_) (fun cdv A outer s H vs Q E hr h => ?_)
  · obtain ⟨a, bs, rfl, _⟩ := h
    rfl
  · have nd := sc_sixty_of.nd
    obtain ⟨a, bs, rfl, hS, hb, hlen, q⟩ := h
    refine ⟨_, (pss_cons (ps_if (pt_not (pt_val (pe_def D_is_bytes (hr.mono (by decide)) (pa_cons (pv 0) pa_nil))))
        (pss_one ps_never)
        pss_nil)
      (pss_cons (ps_set (i := 1) nd rfl (.inr rfl) (pe_join pe_str (pe_lc (own := [("at", 2)]) (g := gName 2) (by rfl) nd (pi_range3 (by rfl) T.n_range (pa_cons pe_int (pa_cons (pe_callB (cLen K) (by rfl) T.n_len (by decide +kernel) (pa_cons (pv 0) pa_nil)) (pa_cons pe_int pa_nil)))) (blkOk_by (N := N_sixty_of) (sc := defScope s_sixty_of) (by decide +kernel)) (fun _ _ _ _ _ => (pg_name (i := 2) nd rfl (Or.inl rfl))) (fun _ _ _ _ _ => pts_nil) (fun _ _ _ _ _ => (pe_def D_four_of (hr.mono (by decide)) (pa_cons (pe_slice (slL K) (pv 0) (po_some (pv 2)) (po_some (pe_op op_add (pv 2) pe_int))) pa_nil))))))
      (pss_one (ps_ret (pe_lc (own := [("at", 2)]) (g := gName 2) (by rfl) nd (pi_range3 (by rfl) T.n_range (pa_cons pe_int (pa_cons (pe_callB call_len_str (by rfl) T.n_len (by decide +kernel) (pa_cons (pv 1) pa_nil)) (pa_cons (pe_glob (v := .int 60) (by rfl) T.m_ROW_SIGNS ⟨_, rfl⟩) pa_nil)))) (blkOk_by (N := N_sixty_of) (sc := defScope s_sixty_of) (by decide +kernel)) (fun _ _ _ _ _ => (pg_name (i := 2) nd rfl (Or.inl rfl))) (fun _ _ _ _ _ => pts_nil) (fun _ _ _ _ _ => (pe_slice sl_str (pv 1) (po_some (pv 2)) (po_some (pe_op op_add (pv 2) (pe_glob (v := .int 60) (by rfl) T.m_ROW_SIGNS ⟨_, rfl⟩)))))))))), ?_⟩
    have hlm : (bs.map V.int).length = bs.length := List.length_map ..
    have hel : ∀ v ∈ bs.map V.int, ElemB H v := fun v hv => by
      obtain ⟨i, _, rfl⟩ := List.mem_map.mp hv
      exact .inl ⟨_, rfl⟩
    have hall : true = (bs.map V.int).all okV := by
      symm
      rw [List.all_eq_true]
      intro v hv
      obtain ⟨i, hi, rfl⟩ := List.mem_map.mp hv
      have := hb i hi
      show (decide (0 ≤ i) && decide (i ≤ 255)) = true
      rw [decide_eq_true (by omega), decide_eq_true (by omega)]
      rfl
    refine ⟨.ref a, rfl, .ref a, true, rfl, .inr ⟨a, _, rfl, hS, by rw [hlm]; omega, hel, hall⟩, fun H1 s1 => ⟨true, rfl, iteF ?_⟩⟩
    refine ⟨⟨_, rfl⟩, .ref a, rfl, a, _, rfl, .inl (.inl (.inl (s1 _ _ hS))), 0, _, 3, (bs.length + 2) / 3, rfl, by rw [hlm]; exact rgC bs.length 3 (by decide) (by decide) (by omega), fun D hD => ?_⟩
    refine lc_pure (fun i => .int (0 + ((i : Nat) : Int) * 3)) (fun i => .str ⟨(fourL ((bs.drop (i * 3)).take 3)).toArray⟩) walk_rangeC (fun _ _ => trivial) hD (by rw [sizeLine_eq]; omega) (fun i H2 Q2 hi s2 q2 => ?_) (fun H2 s2 e => ?_)
    · refine ⟨.ref a, rfl, .int (0 + ((i : Nat) : Int) * 3), rfl, _, rfl, .int (0 + ((i : Nat) : Int) * 3), rfl, _, 3, rfl, rfl, 0 + ((i : Nat) : Int) * 3 + 3, rfl, a, _, rfl, .inl (.inl (s2 _ _ (s1 _ _ hS))), fun p np => ?_⟩
      have hl2 : ((bs.drop (i * 3)).take 3).length = min 3 (bs.length - i * 3) := by rw [List.length_take, List.length_drop]
      refine ⟨p, (bs.drop (i * 3)).take 3, rfl, ?_, fun x hx => hb x (List.mem_of_mem_drop (List.mem_of_mem_take hx)), by omega, by omega, fun H3 s3 => q2 _ ((same_upd np).trans s3)⟩
      rw [upd_same, show (0 : Int) + ((i : Nat) : Int) * 3 = ((i * 3 : Nat) : Int) by omega, show ((i * 3 : Nat) : Int) + 3 = ((i * 3 + 3 : Nat) : Int) by omega, cutV_at, Nat.add_sub_cancel_left, List.map_take, List.map_drop]
    · have e2 : (List.range ((bs.length + 2) / 3)).map (fun i => V.str ⟨(fourL ((bs.drop (i * 3)).take 3)).toArray⟩) = (((chunks 3 bs).map fun c => (⟨(fourL c).toArray⟩ : Str))).map V.str := by
        unfold chunks
        rw [List.map_map, List.map_map]
        rfl
      rw [e2] at e
      have e3 : ((((chunks 3 bs).map fun c => (⟨(fourL c).toArray⟩ : Str))).map TL.tl).flatten = ptext bs := by
        unfold ptext
        rw [List.map_map]
        rfl
      have hp := ptext_le bs
      refine ⟨Str.ofString "", D, _, rfl, rfl, .inl (.inl (.inl e)), ?_, ?_⟩
      · rw [sum_len, e3]
        show (ptext bs).length + _ * 0 ≤ 16777216
        omega
      have eJ := tl_join0 ((chunks 3 bs).map fun c => (⟨(fourL c).toArray⟩ : Str))
      rw [e3] at eJ
      generalize Txt.join (Str.ofString "") ((chunks 3 bs).map fun c => (⟨(fourL c).toArray⟩ : Str)) = J at eJ
      have hJ : J.length = (ptext bs).length := by rw [TL.len_tl, eJ]
      refine ⟨.str J, rfl, J, rfl, by rw [hJ]; exact Nat.le_of_lt (by rw [sizeLine_eq]; omega), 0, _, 60, (J.length + 59) / 60, rfl, rgC J.length 60 (by decide) (by decide) (by omega), fun D2 hD2 => ?_⟩
      refine lc_pure (fun i => .int (0 + ((i : Nat) : Int) * 60)) (fun i => .str ⟨(((ptext bs).drop (i * 60)).take 60).toArray⟩) walk_rangeC (fun _ _ => trivial) hD2 (by rw [sizeLine_eq]; omega) (fun i H3 Q3 hi s3 q3 => ?_) (fun H3 s3 e => ?_)
      · refine ⟨.str J, rfl, .int (0 + ((i : Nat) : Int) * 60), rfl, _, rfl, .int (0 + ((i : Nat) : Int) * 60), rfl, _, 60, rfl, rfl, 0 + ((i : Nat) : Int) * 60 + 60, rfl, J, rfl, by rw [hJ, sizeLine_eq]; omega, ?_⟩
        rw [show (0 : Int) + ((i : Nat) : Int) * 60 = ((i * 60 : Nat) : Int) by omega, show ((i * 60 : Nat) : Int) + 60 = ((i * 60 + 60 : Nat) : Int) by omega, cutS_at, Nat.add_sub_cancel_left, eJ]
        exact q3 _ (Same.refl _)
      · refine q H3 D2 (s1.trans (s2.trans s3)) ((s1.trans s2).free hD2) ?_
        rw [e, hJ]
        unfold rowsV chunks
        rw [List.map_map]
        rfl
end
end K09

namespace K09
open PySem PySem.Spec PyProof.Rows L2 LH
/-! ### sixty-four signs: what is told is read again -/
def sg (n : Nat) : Nat := (TL.tl S64).getD n 0
theorem sg_facts (n : Nat) (h : n < 64) : b64 (sg n) = n ∧ in64 (sg n) = true ∧ sg n ≠ 61 ∧ sg n < 128 ∧ isSgn (sg n) = true := by
  have : ∀ i : Fin 64, b64 (sg i.val) = i.val ∧ in64 (sg i.val) = true ∧ sg i.val ≠ 61 ∧ sg i.val < 128 ∧ isSgn (sg i.val) = true := by decide +kernel
  exact this ⟨n, h⟩
theorem sgn_sg (n : Nat) : sgn (n : Int) = sg n := by unfold sgn sg; rw [Int.toNat_natCast]
abbrev I (l : List Nat) : List Int := l.map fun b => ((b : Nat) : Int)
theorem four1 (a : Nat) (ha : a < 256) : fourL (I [a]) = [sg (a / 4), sg (a % 4 * 16), 61, 61] := by
  have e : val256 ([(a : Int)] ++ List.replicate 2 0) = ((a * 65536 : Nat) : Int) := by
    show ((0 * 256 + (a : Int)) * 256 + 0) * 256 + 0 = _
    omega
  show (([18, 12, 6, 0] : List Nat).map fun s => sgn (val256 ([(a : Int)] ++ List.replicate 2 0) / 2 ^ s % 64)).take 2 ++ [61, 61] = _
  rw [e]
  show [sgn (((a * 65536 : Nat) : Int) / 262144 % 64), sgn (((a * 65536 : Nat) : Int) / 4096 % 64)] ++ [61, 61] = _
  rw [show ((a * 65536 : Nat) : Int) / 262144 % 64 = ((a / 4 : Nat) : Int) by omega, show ((a * 65536 : Nat) : Int) / 4096 % 64 = ((a % 4 * 16 : Nat) : Int) by omega, sgn_sg, sgn_sg]
  rfl
theorem four2 (a b : Nat) (ha : a < 256) (hb : b < 256) : fourL (I [a, b]) = [sg (a / 4), sg (a % 4 * 16 + b / 16), sg (b % 16 * 4), 61] := by
  have e : val256 ([(a : Int), (b : Int)] ++ List.replicate 1 0) = (((a * 256 + b) * 256 : Nat) : Int) := by
    show ((0 * 256 + (a : Int)) * 256 + b) * 256 + 0 = _
    omega
  show (([18, 12, 6, 0] : List Nat).map fun s => sgn (val256 ([(a : Int), (b : Int)] ++ List.replicate 1 0) / 2 ^ s % 64)).take 3 ++ [61] = _
  rw [e]
  show [sgn ((((a * 256 + b) * 256 : Nat) : Int) / 262144 % 64), sgn ((((a * 256 + b) * 256 : Nat) : Int) / 4096 % 64), sgn ((((a * 256 + b) * 256 : Nat) : Int) / 64 % 64)] ++ [61] = _
  rw [show (((a * 256 + b) * 256 : Nat) : Int) / 262144 % 64 = ((a / 4 : Nat) : Int) by omega, show (((a * 256 + b) * 256 : Nat) : Int) / 4096 % 64 = ((a % 4 * 16 + b / 16 : Nat) : Int) by omega, show (((a * 256 + b) * 256 : Nat) : Int) / 64 % 64 = ((b % 16 * 4 : Nat) : Int) by omega, sgn_sg, sgn_sg, sgn_sg]
  rfl
theorem four3 (a b c : Nat) (ha : a < 256) (hb : b < 256) (hc : c < 256) : fourL (I [a, b, c]) = [sg (a / 4), sg (a % 4 * 16 + b / 16), sg (b % 16 * 4 + c / 64), sg (c % 64)] := by
  have e : val256 ([(a : Int), (b : Int), (c : Int)] ++ List.replicate 0 0) = (((a * 256 + b) * 256 + c : Nat) : Int) := by
    show ((0 * 256 + (a : Int)) * 256 + b) * 256 + c = _
    omega
  show (([18, 12, 6, 0] : List Nat).map fun s => sgn (val256 ([(a : Int), (b : Int), (c : Int)] ++ List.replicate 0 0) / 2 ^ s % 64)).take 4 ++ [] = _
  rw [e]
  show [sgn ((((a * 256 + b) * 256 + c : Nat) : Int) / 262144 % 64), sgn ((((a * 256 + b) * 256 + c : Nat) : Int) / 4096 % 64), sgn ((((a * 256 + b) * 256 + c : Nat) : Int) / 64 % 64), sgn ((((a * 256 + b) * 256 + c : Nat) : Int) / 1 % 64)] = _
  rw [show (((a * 256 + b) * 256 + c : Nat) : Int) / 262144 % 64 = ((a / 4 : Nat) : Int) by omega, show (((a * 256 + b) * 256 + c : Nat) : Int) / 4096 % 64 = ((a % 4 * 16 + b / 16 : Nat) : Int) by omega, show (((a * 256 + b) * 256 + c : Nat) : Int) / 64 % 64 = ((b % 16 * 4 + c / 64 : Nat) : Int) by omega, show (((a * 256 + b) * 256 + c : Nat) : Int) / 1 % 64 = ((c % 64 : Nat) : Int) by omega, sgn_sg, sgn_sg, sgn_sg, sgn_sg]
theorem b61 : b64 61 = 0 := by decide +kernel
theorem back1 (a : Nat) (ha : a < 256) : fourV (fourL (I [a])) = nb [a] := by
  rw [four1 a ha]
  have f1 := sg_facts (a / 4) (by omega)
  have f2 := sg_facts (a % 4 * 16) (by omega)
  have ev : val64 [sg (a / 4), sg (a % 4 * 16), 61, 61] = a * 65536 := by
    show (((0 * 64 + b64 (sg (a / 4))) * 64 + b64 (sg (a % 4 * 16))) * 64 + b64 61) * 64 + b64 61 = _
    rw [f1.1, f2.1, b61]
    omega
  have ec : [sg (a / 4), sg (a % 4 * 16), 61, 61].count 61 = 2 := by
    rw [List.count_cons_of_ne f1.2.2.1, List.count_cons_of_ne f2.2.2.1]
    rfl
  unfold fourV
  rw [ev, ec]
  show cutV _ none (some (((1 : Nat)) : Int)) = _
  rw [cutV_to]
  show [V.int ((a * 65536 / 65536 : Nat) : Int)] = [V.int (a : Nat)]
  rw [show a * 65536 / 65536 = a by omega]
theorem back2 (a b : Nat) (ha : a < 256) (hb : b < 256) : fourV (fourL (I [a, b])) = nb [a, b] := by
  rw [four2 a b ha hb]
  have f1 := sg_facts (a / 4) (by omega)
  have f2 := sg_facts (a % 4 * 16 + b / 16) (by omega)
  have f3 := sg_facts (b % 16 * 4) (by omega)
  have ev : val64 [sg (a / 4), sg (a % 4 * 16 + b / 16), sg (b % 16 * 4), 61] = (a * 256 + b) * 256 := by
    show (((0 * 64 + b64 (sg (a / 4))) * 64 + b64 (sg (a % 4 * 16 + b / 16))) * 64 + b64 (sg (b % 16 * 4))) * 64 + b64 61 = _
    rw [f1.1, f2.1, f3.1, b61]
    omega
  have ec : [sg (a / 4), sg (a % 4 * 16 + b / 16), sg (b % 16 * 4), 61].count 61 = 1 := by
    rw [List.count_cons_of_ne f1.2.2.1, List.count_cons_of_ne f2.2.2.1, List.count_cons_of_ne f3.2.2.1]
    rfl
  unfold fourV
  rw [ev, ec]
  show cutV _ none (some (((2 : Nat)) : Int)) = _
  rw [cutV_to]
  show [V.int (((a * 256 + b) * 256 / 65536 : Nat) : Int), V.int (((a * 256 + b) * 256 / 256 % 256 : Nat) : Int)] = [V.int (a : Nat), V.int (b : Nat)]
  rw [show (a * 256 + b) * 256 / 65536 = a by omega, show (a * 256 + b) * 256 / 256 % 256 = b by omega]
theorem back3 (a b c : Nat) (ha : a < 256) (hb : b < 256) (hc : c < 256) : fourV (fourL (I [a, b, c])) = nb [a, b, c] := by
  rw [four3 a b c ha hb hc]
  have f1 := sg_facts (a / 4) (by omega)
  have f2 := sg_facts (a % 4 * 16 + b / 16) (by omega)
  have f3 := sg_facts (b % 16 * 4 + c / 64) (by omega)
  have f4 := sg_facts (c % 64) (by omega)
  have ev : val64 [sg (a / 4), sg (a % 4 * 16 + b / 16), sg (b % 16 * 4 + c / 64), sg (c % 64)] = (a * 256 + b) * 256 + c := by
    show (((0 * 64 + b64 (sg (a / 4))) * 64 + b64 (sg (a % 4 * 16 + b / 16))) * 64 + b64 (sg (b % 16 * 4 + c / 64))) * 64 + b64 (sg (c % 64)) = _
    rw [f1.1, f2.1, f3.1, f4.1]
    omega
  have ec : [sg (a / 4), sg (a % 4 * 16 + b / 16), sg (b % 16 * 4 + c / 64), sg (c % 64)].count 61 = 0 := by
    rw [List.count_cons_of_ne f1.2.2.1, List.count_cons_of_ne f2.2.2.1, List.count_cons_of_ne f3.2.2.1, List.count_cons_of_ne f4.2.2.1]
    rfl
  unfold fourV
  rw [ev, ec]
  show cutV _ none (some (((3 : Nat)) : Int)) = _
  rw [cutV_to]
  show [V.int ((((a * 256 + b) * 256 + c) / 65536 : Nat) : Int), V.int ((((a * 256 + b) * 256 + c) / 256 % 256 : Nat) : Int), V.int ((((a * 256 + b) * 256 + c) % 256 : Nat) : Int)] = [V.int (a : Nat), V.int (b : Nat), V.int (c : Nat)]
  rw [show ((a * 256 + b) * 256 + c) / 65536 = a by omega, show ((a * 256 + b) * 256 + c) / 256 % 256 = b by omega, show ((a * 256 + b) * 256 + c) % 256 = c by omega]
/-! ### the whole text -/
def t64 (l : List Nat) : List Nat := ptext (I l)
theorem t64_nil : t64 [] = [] := by
  unfold t64 ptext
  rw [show I [] = [] from rfl, chunks_nil (by decide)]
  rfl
theorem t64_short {l : List Nat} (h0 : l ≠ []) (h3 : l.length ≤ 3) : t64 l = fourL (I l) := by
  have hne : I l ≠ [] := fun e => h0 (List.map_eq_nil_iff.mp e)
  have hl : (I l).length = l.length := List.length_map ..
  unfold t64 ptext
  rw [chunks_cons (by decide) hne, List.take_of_length_le (by omega), List.drop_of_length_le (by omega), chunks_nil (by decide)]
  simp
theorem t64_long (a b c : Nat) (r : List Nat) : t64 (a :: b :: c :: r) = fourL (I [a, b, c]) ++ t64 r := by
  unfold t64 ptext
  rw [chunks_cons (by decide) (by simp)]
  rfl
theorem chunks_app {α : Type} {k : Nat} (hk : 0 < k) {x r : List α} (hx : x.length = k) : chunks k (x ++ r) = x :: chunks k r := by
  have hne : x ++ r ≠ [] := fun e => by
    rw [List.append_eq_nil_iff] at e
    rw [e.1] at hx
    simp at hx
    omega
  rw [chunks_cons hk hne, ← hx, List.take_left, List.drop_left]
theorem four_len {l : List Nat} (hb : BytesN l) (h0 : l ≠ []) (h3 : l.length ≤ 3) : (fourL (I l)).length = 4 := by
  match l, hb, h0, h3 with
  | [a], hb, _, _ => rw [four1 a (hb a (by simp))]; rfl
  | [a, b], hb, _, _ => rw [four2 a b (hb a (by simp)) (hb b (by simp))]; rfl
  | [a, b, c], hb, _, _ => rw [four3 a b c (hb a (by simp)) (hb b (by simp)) (hb c (by simp))]; rfl
theorem t64_back : ∀ l : List Nat, BytesN l → ((chunks 4 (t64 l)).map fourV).flatten = nb l
  | [], _ => by rw [t64_nil, chunks_nil (by decide)]; rfl
  | [a], hb => by
    rw [t64_short (by simp) (by simp), ← List.append_nil (fourL (I [a])), chunks_app (by decide) (four_len hb (by simp) (by simp)), chunks_nil (by decide)]
    simp only [List.map_cons, List.map_nil, List.flatten_cons, List.flatten_nil, List.append_nil]
    exact back1 a (hb a (by simp))
  | [a, b], hb => by
    rw [t64_short (by simp) (by simp), ← List.append_nil (fourL (I [a, b])), chunks_app (by decide) (four_len hb (by simp) (by simp)), chunks_nil (by decide)]
    simp only [List.map_cons, List.map_nil, List.flatten_cons, List.flatten_nil, List.append_nil]
    exact back2 a b (hb a (by simp)) (hb b (by simp))
  | a :: b :: c :: r, hb => by
    have h3 : BytesN [a, b, c] := fun x hx => hb x (by simp only [List.mem_cons, List.not_mem_nil, or_false] at hx ⊢; rcases hx with h | h | h; exact .inl h; exact .inr (.inl h); exact .inr (.inr (.inl h)))
    rw [t64_long, chunks_app (by decide) (four_len h3 (by simp) (by simp)), List.map_cons, List.flatten_cons, t64_back r (fun x hx => hb x (by simp [hx])), back3 a b c (hb a (by simp)) (hb b (by simp)) (hb c (by simp))]
    rfl
/-! ### its rows are good -/
/-- what may stand at each place of the text -/
def GoodT (t : List Nat) : Prop := t.length % 4 = 0 ∧ ∀ p c, t[p]? = some c → (c = 61 → t.length ≤ p + 2 ∧ 2 ≤ p % 4 ∧ ∀ d, t[p - 1]? = some d → (p % 4 = 2 → b64 d % 16 = 0) ∧ (p % 4 = 3 → b64 d % 4 = 0)) ∧ (c ≠ 61 → in64 c = true ∧ (0 < p → ∀ d, t[p - 1]? = some d → d ≠ 61)) ∧ isSgn c = true
theorem good_nil : GoodT [] := ⟨rfl, fun p c h => by simp at h⟩
theorem sgn61 : isSgn 61 = true := by decide
theorem good_full (a b c : Nat) (ha : a < 256) (hb : b < 256) (hc : c < 256) (t : List Nat) (h : GoodT t) : GoodT (fourL (I [a, b, c]) ++ t) := by
  rw [four3 a b c ha hb hc]
  have f1 := sg_facts (a / 4) (by omega)
  have f2 := sg_facts (a % 4 * 16 + b / 16) (by omega)
  have f3 := sg_facts (b % 16 * 4 + c / 64) (by omega)
  have f4 := sg_facts (c % 64) (by omega)
  generalize sg (a / 4) = w at *
  generalize sg (a % 4 * 16 + b / 16) = x at *
  generalize sg (b % 16 * 4 + c / 64) = y at *
  generalize sg (c % 64) = z at *
  refine ⟨by have := h.1; simp; omega, fun p e he => ?_⟩
  match p with
  | 0 =>
    obtain rfl : w = e := Option.some.inj he
    exact ⟨fun h => absurd h f1.2.2.1, fun _ => ⟨f1.2.1, fun h => absurd h (by decide)⟩, f1.2.2.2.2⟩
  | 1 =>
    obtain rfl : x = e := Option.some.inj he
    refine ⟨fun h => absurd h f2.2.2.1, fun _ => ⟨f2.2.1, fun _ d hd => ?_⟩, f2.2.2.2.2⟩
    obtain rfl : w = d := Option.some.inj hd
    exact f1.2.2.1
  | 2 =>
    obtain rfl : y = e := Option.some.inj he
    refine ⟨fun h => absurd h f3.2.2.1, fun _ => ⟨f3.2.1, fun _ d hd => ?_⟩, f3.2.2.2.2⟩
    obtain rfl : x = d := Option.some.inj hd
    exact f2.2.2.1
  | 3 =>
    obtain rfl : z = e := Option.some.inj he
    refine ⟨fun h => absurd h f4.2.2.1, fun _ => ⟨f4.2.1, fun _ d hd => ?_⟩, f4.2.2.2.2⟩
    obtain rfl : y = d := Option.some.inj hd
    exact f3.2.2.1
  | p + 4 =>
    have he : t[p]? = some e := he
    obtain ⟨g1, g2, g3⟩ := h.2 p e he
    refine ⟨fun h61 => ?_, fun hn => ⟨(g2 hn).1, fun _ d hd => ?_⟩, g3⟩
    · obtain ⟨k1, k2, k3⟩ := g1 h61
      refine ⟨by simp; omega, by omega, fun d hd => ?_⟩
      have hp : p + 4 - 1 = (p - 1) + 4 := by omega
      rw [hp] at hd
      have := k3 d hd
      exact ⟨fun h => this.1 (by omega), fun h => this.2 (by omega)⟩
    · match p with
      | 0 =>
        obtain rfl : z = d := Option.some.inj hd
        exact f4.2.2.1
      | p + 1 => exact (g2 hn).2 (by omega) d hd
theorem t64_good : ∀ l : List Nat, BytesN l → GoodT (t64 l)
  | [], _ => by rw [t64_nil]; exact good_nil
  | [a], hb => by
    have ha := hb a (by simp)
    rw [t64_short (by simp) (by simp), four1 a ha]
    have f1 := sg_facts (a / 4) (by omega)
    have f2 := sg_facts (a % 4 * 16) (by omega)
    have e2 : b64 (sg (a % 4 * 16)) % 16 = 0 := by rw [f2.1]; omega
    generalize sg (a / 4) = w at *
    generalize sg (a % 4 * 16) = x at *
    refine ⟨by simp, fun p e he => ?_⟩
    match p with
    | 0 =>
      obtain rfl : w = e := Option.some.inj he
      exact ⟨fun h => absurd h f1.2.2.1, fun _ => ⟨f1.2.1, fun h => absurd h (by decide)⟩, f1.2.2.2.2⟩
    | 1 =>
      obtain rfl : x = e := Option.some.inj he
      refine ⟨fun h => absurd h f2.2.2.1, fun _ => ⟨f2.2.1, fun _ d hd => ?_⟩, f2.2.2.2.2⟩
      obtain rfl : w = d := Option.some.inj hd
      exact f1.2.2.1
    | 2 =>
      obtain rfl : 61 = e := Option.some.inj he
      refine ⟨fun _ => ⟨by simp, by decide, fun d hd => ?_⟩, fun h => absurd rfl h, sgn61⟩
      obtain rfl : x = d := Option.some.inj hd
      exact ⟨fun _ => e2, fun h => absurd h (by decide)⟩
    | 3 =>
      obtain rfl : 61 = e := Option.some.inj he
      refine ⟨fun _ => ⟨by simp, by decide, fun d hd => ?_⟩, fun h => absurd rfl h, sgn61⟩
      obtain rfl : 61 = d := Option.some.inj hd
      exact ⟨fun h => absurd h (by decide), fun _ => by rw [b61]⟩
    | p + 4 => exact nomatch he
  | [a, b], hb => by
    have ha := hb a (by simp)
    have hb' := hb b (by simp)
    rw [t64_short (by simp) (by simp), four2 a b ha hb']
    have f1 := sg_facts (a / 4) (by omega)
    have f2 := sg_facts (a % 4 * 16 + b / 16) (by omega)
    have f3 := sg_facts (b % 16 * 4) (by omega)
    have e3 : b64 (sg (b % 16 * 4)) % 4 = 0 := by rw [f3.1]; omega
    generalize sg (a / 4) = w at *
    generalize sg (a % 4 * 16 + b / 16) = x at *
    generalize sg (b % 16 * 4) = y at *
    refine ⟨by simp, fun p e he => ?_⟩
    match p with
    | 0 =>
      obtain rfl : w = e := Option.some.inj he
      exact ⟨fun h => absurd h f1.2.2.1, fun _ => ⟨f1.2.1, fun h => absurd h (by decide)⟩, f1.2.2.2.2⟩
    | 1 =>
      obtain rfl : x = e := Option.some.inj he
      refine ⟨fun h => absurd h f2.2.2.1, fun _ => ⟨f2.2.1, fun _ d hd => ?_⟩, f2.2.2.2.2⟩
      obtain rfl : w = d := Option.some.inj hd
      exact f1.2.2.1
    | 2 =>
      obtain rfl : y = e := Option.some.inj he
      refine ⟨fun h => absurd h f3.2.2.1, fun _ => ⟨f3.2.1, fun _ d hd => ?_⟩, f3.2.2.2.2⟩
      obtain rfl : x = d := Option.some.inj hd
      exact f2.2.2.1
    | 3 =>
      obtain rfl : 61 = e := Option.some.inj he
      refine ⟨fun _ => ⟨by simp, by decide, fun d hd => ?_⟩, fun h => absurd rfl h, sgn61⟩
      obtain rfl : y = d := Option.some.inj hd
      exact ⟨fun h => absurd h (by decide), fun _ => e3⟩
    | p + 4 => exact nomatch he
  | a :: b :: c :: r, hb => by
    rw [t64_long]
    exact good_full a b c (hb a (by simp)) (hb b (by simp)) (hb c (by simp)) _ (t64_good r fun x hx => hb x (by simp [hx]))
end K09

namespace K09
open PySem PySem.Spec PyProof.Rows L2 LH
/-! ### rows all of whose signs may stand -/
theorem goodF_all (g : Nat → List Nat → Bool) : ∀ (r a : List Nat), (∀ i c, r[i]? = some c → g c (a ++ r.take i) = true) → goodF g a r = r.length
  | [], a, _ => rfl
  | c :: r, a, h => by
    have h0 := h 0 c rfl
    rw [List.take_zero, List.append_nil] at h0
    unfold goodF
    rw [if_pos h0, goodF_all g r (a ++ [c]) fun i d hd => by
      have := h (i + 1) d hd
      rw [List.take_succ_cons] at this
      rw [List.append_assoc]
      exact this]
    rfl
theorem wrongF_all (g : Nat → List Nat → Bool) (e : List Nat → Bool → Bool) : ∀ (R : List Str) (n : Nat), (∀ i (h : i < R.length), goodF g [] (TL.tl R[i]) = (TL.tl R[i]).length ∧ e (TL.tl R[i]) (decide (i = R.length - 1)) = true) → wrongF g e n R = none
  | [], _, _ => rfl
  | r :: R, n, h => by
    obtain ⟨h1, h2⟩ := h 0 (by simp)
    have h1 : goodF g [] (TL.tl r) = (TL.tl r).length := h1
    have hd : decide (0 = (r :: R).length - 1) = decide (R = []) := by
      cases R with
      | nil => rfl
      | cons x y => simp
    rw [hd] at h2
    have h2 : e (TL.tl r) (decide (R = [])) = true := h2
    unfold wrongF
    rw [if_neg (by rw [h1, h2]; simp), wrongF_all g e R (n + 1) fun i hi => by
      have := h (i + 1) (by simp; omega)
      have e : decide (i + 1 = (r :: R).length - 1) = decide (i = R.length - 1) := decide_eq_decide.mpr (by simp; omega)
      rw [e] at this
      exact this]
theorem first_none {K : PySem.W.Frag} {H : Hp} {g : Nat → List Nat → Bool} {e : List Nat → Bool → Bool} {a : Addr} {R : List Str} (ea : H a = some (.lst (R.map V.str))) (hl : R.length ≤ 10000) (hz : ∀ z ∈ R, z.length ≤ 1000) (h : wrongF g e 0 R = none) : FirstAt K H g e (.ref a) 0 0 :=
  .inr ⟨a, R.map V.str, rfl, ea, by rw [List.length_map]; exact hl, fun v hv => by
    obtain ⟨z, _, rfl⟩ := List.mem_map.mp hv
    exact .inl ⟨z, rfl⟩, .inr ⟨R, rfl, hz, by rw [h]; rfl⟩⟩
/-! ### the rows of sixty -/
def rowsS (t : List Nat) : List Str := (chunks 60 t).map fun l => ⟨l.toArray⟩
theorem rowsS_V (t : List Nat) : (rowsS t).map V.str = rowsV t := by unfold rowsS rowsV; rw [List.map_map]; rfl
theorem chunk_at {α : Type} {k : Nat} {t : List α} {i : Nat} (h : i < (chunks k t).length) : (chunks k t)[i] = (t.drop (i * k)).take k := by
  have e : (chunks k t)[i]? = some ((t.drop (i * k)).take k) := by
    unfold chunks at h ⊢
    rw [List.length_map, List.length_range] at h
    rw [List.getElem?_map, List.getElem?_range h]
    rfl
  exact Option.some.inj ((List.getElem?_eq_getElem h).symm.trans e)
theorem chunks_flat {α : Type} {k : Nat} (hk : 0 < k) : ∀ (n : Nat) (t : List α), t.length ≤ n → (chunks k t).flatten = t
  | 0, t, h => by
    obtain rfl : t = [] := List.eq_nil_of_length_eq_zero (by omega)
    rw [chunks_nil hk]; rfl
  | n + 1, t, h => by
    by_cases ht : t = []
    · rw [ht, chunks_nil hk]; rfl
    · have : 0 < t.length := List.length_pos_iff.mpr ht
      rw [chunks_cons hk ht, List.flatten_cons, chunks_flat hk n _ (by rw [List.length_drop]; omega), List.take_append_drop]
theorem textR_rows (t : List Nat) : textR (rowsS t) = t := by
  unfold textR rowsS
  rw [List.map_map]
  show ((chunks 60 t).map fun l => l).flatten = t
  rw [List.map_id', chunks_flat (by decide) _ t (Nat.le_refl _)]
theorem rows_len (t : List Nat) : (rowsS t).length = (t.length + 59) / 60 := by
  unfold rowsS
  rw [List.length_map, chunks_len]
theorem rowS_at {t : List Nat} {i : Nat} (h : i < (rowsS t).length) : TL.tl (rowsS t)[i] = (t.drop (i * 60)).take 60 := by
  have hc : i < (chunks 60 t).length := by unfold rowsS at h; rwa [List.length_map] at h
  have e : (rowsS t)[i]? = some ⟨((t.drop (i * 60)).take 60).toArray⟩ := by
    unfold rowsS
    rw [List.getElem?_map, List.getElem?_eq_getElem hc, chunk_at hc]
    rfl
  rw [Option.some.inj ((List.getElem?_eq_getElem h).symm.trans e)]
theorem rows_short (t : List Nat) : ∀ z ∈ rowsS t, z.length ≤ 60 := fun z hz => by
  obtain ⟨i, hi, rfl⟩ := List.getElem_of_mem hz
  rw [TL.len_tl, rowS_at hi, List.length_take]
  omega
theorem rows64_good {t : List Nat} (h : GoodT t) : wrongF standB endB 0 (rowsS t) = none := by
  have hrl := rows_len t
  refine wrongF_all _ _ _ _ fun i hi => ?_
  rw [rowS_at hi]
  have hlen : ((t.drop (i * 60)).take 60).length = min 60 (t.length - i * 60) := by rw [List.length_take, List.length_drop]
  have hget : ∀ j, j < 60 → ((t.drop (i * 60)).take 60)[j]? = t[i * 60 + j]? := fun j hj => by rw [List.getElem?_take, if_pos hj, List.getElem?_drop]
  constructor
  · refine goodF_all _ _ _ fun j c hc => ?_
    have hj : j < 60 := by have := (List.getElem?_eq_some_iff.mp hc).1; omega
    rw [hget j hj] at hc
    obtain ⟨g1, g2, _⟩ := h.2 _ c hc
    have hlt := (List.getElem?_eq_some_iff.mp hc).1
    rw [List.nil_append]
    have htl : (((t.drop (i * 60)).take 60).take j).length = j := by rw [List.length_take, hlen]; omega
    have hlast : 0 < j → (((t.drop (i * 60)).take 60).take j).getLast? = t[i * 60 + j - 1]? := fun h0 => by
      rw [List.getLast?_eq_getElem?, htl, List.getElem?_take, if_pos (by omega), hget _ (by omega), show i * 60 + (j - 1) = i * 60 + j - 1 by omega]
    unfold standB
    rw [htl, if_neg (by omega)]
    by_cases h61 : c = 61
    · rw [if_pos h61]
      obtain ⟨k1, k2, k3⟩ := g1 h61
      have hj2 : 2 ≤ j % 4 := by omega
      obtain ⟨d, hd⟩ : ∃ d, t[i * 60 + j - 1]? = some d := ⟨t[i * 60 + j - 1], List.getElem?_eq_getElem (by omega)⟩
      have hl := hlast (by omega)
      rw [hd] at hl
      have hlN : lastN (((t.drop (i * 60)).take 60).take j) = d := by
        unfold lastN
        rw [List.getLastD_eq_getLast?, hl]
        rfl
      have k3 := k3 d hd
      unfold fillB
      rw [htl, hlN]
      by_cases h2 : j % 4 = 2
      · rw [if_pos h2, k3.1 (by omega)]; rfl
      · rw [if_neg h2, if_pos (by omega), k3.2 (by omega)]; rfl
    · rw [if_neg h61, (g2 h61).1, Bool.true_and, Bool.not_eq_true', decide_eq_false_iff_not]
      intro e
      by_cases h0 : 0 < j
      · rw [hlast h0] at e
        exact (g2 h61).2 (by omega) 61 e rfl
      · have : j = 0 := by omega
        subst this
        simp at e
  · have h4 := h.1
    unfold endB
    by_cases hla : i = (rowsS t).length - 1
    · rw [decide_eq_true hla, if_pos rfl, hlen, decide_eq_true (by omega), decide_eq_true (by omega)]
      rfl
    · rw [decide_eq_false hla, if_neg (by simp), hlen, decide_eq_true (by omega), Bool.true_and, Bool.not_eq_true', decide_eq_false_iff_not]
      intro e
      rw [List.getLast?_eq_getElem?, hlen, hget _ (by omega)] at e
      obtain ⟨k1, _⟩ := (h.2 _ 61 e).1 rfl
      omega
theorem bytes64_rows {l : List Nat} (hb : BytesN l) : bytes64 (rowsS (t64 l)) = nb l := by
  unfold bytes64
  rw [textR_rows, t64_back l hb]
end K09

namespace K09
open PySem PySem.Spec PyProof.Rows L2 LH
def isVal (l : List Nat) : Bool := l.all isSgn && (decide (l = []) || !decide ([] ∈ splitL 32 l))
/-- the words of a value -/
def wordsL (l : List Nat) : List (List Nat) := if l = [] then [] else splitL 32 l
theorem join_split (s : Nat) : ∀ l : List Nat, TL.joinL [s] (splitL s l) = l
  | [] => rfl
  | c :: r => by
    have ih := join_split s r
    have hne := splitL_ne s r
    unfold splitL
    split
    · rename_i h
      obtain ⟨x, y, e⟩ := List.exists_cons_of_ne_nil hne
      rw [e] at ih ⊢
      rw [TL.joinL, ih, h]
      rfl
    · obtain ⟨x, y, e⟩ := List.exists_cons_of_ne_nil hne
      rw [e] at ih ⊢
      show TL.joinL [s] ((c :: x) :: y) = c :: r
      cases y with
      | nil =>
        show c :: x = c :: r
        rw [← ih]; rfl
      | cons z t =>
        rw [TL.joinL] at ih ⊢
        rw [← ih]; rfl
theorem split_free (s : Nat) : ∀ l : List Nat, ∀ p ∈ splitL s l, s ∉ p
  | [], p, hp => by simp [splitL] at hp; simp [hp]
  | c :: r, p, hp => by
    unfold splitL at hp
    split at hp
    · rcases List.mem_cons.mp hp with rfl | hp
      · simp
      · exact split_free s r p hp
    · rename_i hc
      rcases List.mem_cons.mp hp with rfl | hp
      · intro h
        rcases List.mem_cons.mp h with h | h
        · exact hc h.symm
        · refine split_free s r _ ?_ h
          rw [splitL_eta s r]
          exact List.mem_cons_self
      · refine split_free s r p ?_
        rw [splitL_eta s r]
        exact List.mem_cons_of_mem _ hp
theorem isVal_iff {l : List Nat} (h : isVal l = true) : (∀ c ∈ l, isSgn c = true) ∧ (l ≠ [] → [] ∉ splitL 32 l) := by
  obtain ⟨h1, h2⟩ := Bool.and_eq_true_iff.mp h
  refine ⟨fun c hc => List.all_eq_true.mp h1 c hc, fun hne => ?_⟩
  rw [decide_eq_false hne, Bool.false_or, Bool.not_eq_true', decide_eq_false_iff_not] at h2
  exact h2
theorem sgn_word {c : Nat} (h : isSgn c = true) (h32 : c ≠ 32) : 33 ≤ c ∧ c ≤ 126 ∧ c ≠ 37 := by
  unfold isSgn at h
  simp only [Bool.and_eq_true, decide_eq_true_eq, Bool.not_eq_true', decide_eq_false_iff_not] at h
  omega
theorem words_wordL {l : List Nat} (h : isVal l = true) : ∀ u ∈ wordsL l, WordL u := fun u hu => by
  obtain ⟨h1, h2⟩ := isVal_iff h
  unfold wordsL at hu
  split at hu
  · exact nomatch hu
  · rename_i hne
    refine ⟨fun e => h2 hne (e ▸ hu), fun c hc => sgn_word (h1 c (splitL_mem 32 l u hu c hc)) fun e => split_free 32 l u hu (e ▸ hc)⟩
theorem val_words {z : Str} (h : isVal (TL.tl z) = true) : Txt.words z = strL (wordsL (TL.tl z)) := by
  have hw := words_wordL h
  refine TL.map_tl_inj ?_
  rw [strL_tls, TL.words_tl]
  unfold wordsL at hw ⊢
  by_cases hz : TL.tl z = []
  · rw [if_pos hz, hz]; rfl
  · rw [if_neg hz] at hw ⊢
    conv => lhs; rw [← join_split 32 (TL.tl z)]
    rw [TL.wfold_join _ _ (splitL_ne 32 _) fun p hp => ⟨(hw p hp).1, fun c hc => space_no ⟨((hw p hp).2 c hc).1, ((hw p hp).2 c hc).2.1⟩⟩, List.nil_append]
theorem starts_eq (x y : Str) : Txt.startswith x y = decide ((TL.tl x).take (TL.tl y).length = TL.tl y) := by
  unfold Txt.startswith
  have hyl : y.length = (TL.tl y).length := TL.len_tl y
  rw [PySem.StrLaws.subAt_eq, hyl, Bool.eq_iff_iff, Bool.and_eq_true, decide_eq_true_eq, decide_eq_true_eq, List.drop_zero, beq_iff_eq, TL.len_tl]
  constructor
  · exact fun h => h.2
  · intro h
    refine ⟨?_, h⟩
    have := congrArg List.length h
    rw [List.length_take] at this
    omega
theorem strL_at (us : List (List Nat)) (i : Nat) (h : i < us.length) : ((strL us).map V.str).getD i .non = .str ⟨(us.getD i []).toArray⟩ := by
  rw [List.getD_eq_getElem?_getD, List.getElem?_map]
  unfold strL
  rw [List.getElem?_map, List.getElem?_eq_getElem h, List.getD_eq_getElem?_getD, List.getElem?_eq_getElem h]
  rfl
theorem word_len {l : List Nat} : ∀ u ∈ wordsL l, u.length ≤ l.length := fun u hu => by
  unfold wordsL at hu
  split at hu
  · exact nomatch hu
  · exact splitL_le 32 l u hu
theorem words_many (l : List Nat) : (wordsL l).length ≤ l.length + 1 := by
  unfold wordsL
  split
  · exact Nat.zero_le _
  · exact splitL_len 32 l
theorem t64_len : ∀ l : List Nat, BytesN l → (t64 l).length = 4 * ((l.length + 2) / 3)
  | [], _ => by rw [t64_nil]; rfl
  | [a], hb => by rw [t64_short (by simp) (by simp), four_len hb (by simp) (by simp)]; simp
  | [a, b], hb => by rw [t64_short (by simp) (by simp), four_len hb (by simp) (by simp)]; simp
  | a :: b :: c :: r, hb => by
    have h3 : BytesN [a, b, c] := fun x hx => hb x (by simp only [List.mem_cons, List.not_mem_nil, or_false] at hx ⊢; rcases hx with h | h | h; exact .inl h; exact .inr (.inl h); exact .inr (.inr (.inl h)))
    rw [t64_long, List.length_append, four_len h3 (by simp) (by simp), t64_len r fun x hx => hb x (by simp [hx])]
    simp only [List.length_cons]
    omega
theorem one_row {t : List Nat} (h0 : t ≠ []) (h : t.length ≤ 60) : chunks 60 t = [t] := by
  rw [chunks_cons (by decide) h0, List.take_of_length_le h, List.drop_of_length_le h, chunks_nil (by decide)]
section
variable {P : Program} {w : World} {K : PySem.W.Frag} {mg : Str → Option Value} {base : Heap} {tk : Nat → Tok} {ca : Nat → Addr}
/-! ### is_value -/
abbrev s_is_value : Stmt := topS 35
abbrev N_is_value : List Str := ["thing", "sign"]
abbrev P_is_value : List Str := ["thing"]
theorem sc_is_value : FnScope N_is_value ["thing"] (defScope s_is_value) := ⟨rfl, rfl, rfl, by decide +kernel, rfl, by decide +kernel, by decide +kernel⟩
def NoStr (K : PySem.W.Frag) (H : Hp) (x : V) : Prop := ∃ t, TyX K H x t ∧ PySem.W.kitOne K t (.type "str") = some false
def sp_value (K : PySem.W.Frag) : Sp := fun vs H Q _ => ∃ x : V, vs = [x] ∧ ((∃ z : Str, x = .str z ∧ z.length ≤ 100000 ∧ Tell H (.bl (isVal (TL.tl z))) Q) ∨ (NoStr K H x ∧ Tell H (.bl false) Q))
theorem ok_value {f fS : Addr} {fd fdS : FuncData} (F : Fun K "is_value" "is_value" s_is_value f fd) (T : Tx mg tk) (D_is_sign : Def P w K mg base "is_sign" 1 fS fdS ["sign"] sp_is_sign) : FnOk P w K mg base CX0 2 f fd ["thing"] (sp_value K) := by
  refine F.ok sc_is_value (fun vs H Q E h => ?_) (fun cdv A outer s H vs Q E hr h => ?_)
  · obtain ⟨x, rfl, _⟩ := h
    rfl
  · have nd := sc_is_value.nd
    obtain ⟨x, rfl, h⟩ := h
    refine ⟨_, (pss_cons (ps_if (PW.pt (pw_or (pt_not (pt_val (pe_callB (cIsi K) (by rfl) T.n_isinstance (by decide +kernel) (pa_cons (pv 0) (pa_cons (pe_bltn (v := .ty "str") (by rfl) T.n_str (by decide +kernel) rfl) pa_nil))))) (pw_or1 (pt_not (pt_val (pe_callB (cAll K) (by rfl) T.n_all (by decide +kernel) (pa_cons (pe_lc (own := [("sign", 1)]) (g := gName 1) (by rfl) nd (pi_str (pv 0)) (blkOk_by (N := N_is_value) (sc := defScope s_is_value) (by decide +kernel)) (fun _ _ _ _ _ => (pg_name (i := 1) nd rfl (Or.inl rfl))) (fun _ _ _ _ _ => pts_nil) (fun _ _ _ _ _ => (pe_def D_is_sign (hr.mono (by decide)) (pa_cons (pv 1) pa_nil)))) pa_nil)))))))
        (pss_one (ps_ret pe_bl))
        pss_nil)
      (pss_one (ps_ret (pe_or (pe_cmpR op_eq (pv 0) pe_str (nomark _)) (pe_one (pe_cmpR (oNotIn K) pe_str (pe_split (pv 0) pe_str) (by rfl))))))), ?_⟩
    rcases h with ⟨z, rfl, hz, q⟩ | ⟨⟨t, ty, hk⟩, q⟩
    · refine ⟨.str z, rfl, .str z, .ty "str", _, _, true, rfl, .ty _, .base (.str z), kit_ty (by decide +kernel), true, rfl, iteF ?_⟩
      have hzl : z.length = (TL.tl z).length := TL.len_tl z
      have hsl : z.length ≤ sizeLine := by rw [sizeLine_eq]; omega
      unfold isVal at q
      refine ⟨.str z, rfl, z, rfl, fun D hD => lc_pure (fun i => .str ⟨#[(TL.tl z).getD i 0]⟩) (fun i => .bl (isSgn ((TL.tl z).getD i 0))) walk_strF (fun _ _ => trivial) hD (by rw [← hzl]; exact hsl) (fun i H1 Q1 hi sm q1 => ?_) (fun H1 sm e => ?_)⟩
      · exact ⟨.str ⟨#[(TL.tl z).getD i 0]⟩, rfl, (TL.tl z).getD i 0, rfl, q1⟩
      · refine ⟨D, (List.range (TL.tl z).length).map fun i => isSgn ((TL.tl z).getD i 0), rfl, .inl (.inl (by rw [e, List.map_map]; rfl)), _, rfl, ?_⟩
        rw [lall_range]
        cases hs : (TL.tl z).all isSgn with
        | false =>
          rw [hs] at q
          exact iteT (q _ sm)
        | true =>
          rw [hs] at q
          refine iteF ⟨.str z, rfl, rfl, _, rfl, ?_⟩
          have hsp := split_tl (x := z) (y := Str.ofString " ") (s := 32) (by decide +kernel) (by decide)
          by_cases h0 : TL.tl z = []
          · have ez : z = Str.ofString "" := TL.ext_tl (by rw [h0]; decide +kernel)
            rw [decide_eq_true h0] at q
            rw [ez, decide_eq_true rfl]
            exact iteT (q _ sm)
          · have ez : ¬ z = Str.ofString "" := fun h => h0 (by rw [h]; decide +kernel)
            rw [decide_eq_false h0] at q
            rw [decide_eq_false (show ¬ V.str z = V.str (Str.ofString "") from fun h => ez (V.str.inj h))]
            refine iteF ⟨.str z, rfl, ⟨_, rfl⟩, z, Str.ofString " ", rfl, rfl, by decide +kernel, by rw [sizeLine_eq]; omega, fun p np => ?_⟩
            have s1 := same_upd (o := .lst ((Txt.split z (Str.ofString " ")).map V.str)) np
            generalize Txt.split z (Str.ofString " ") = ws at *
            refine ⟨p, _, rfl, .inl (.inl (.inl upd_same)), rfl, by simp [flatV], ?_⟩
            have ei : inV (.str (Str.ofString "")) (ws.map V.str) = decide ([] ∈ splitL 32 (TL.tl z)) := by
              rw [← hsp]
              unfold inV
              rw [List.any_map]
              have : ∀ ws : List Str, (ws.any ((fun y => eqV y (.str (Str.ofString ""))) ∘ V.str)) = decide ([] ∈ ws.map TL.tl) := by
                intro ws
                induction ws with
                | nil => rfl
                | cons x r ih =>
                  rw [List.any_cons, ih, List.map_cons]
                  show ((x == Str.ofString "") || _) = _
                  by_cases hx : x = Str.ofString ""
                  · have : TL.tl x = [] := by rw [hx]; decide +kernel
                    simp [hx, this]
                    left; decide +kernel
                  · have h2 : ¬ TL.tl x = [] := fun h => hx (TL.ext_tl (by rw [h]; decide +kernel))
                    have h3 : ¬ [] = TL.tl x := fun h => h2 h.symm
                    simp [hx, h3]
              exact this ws
            show Q (.bl (!inV (.str (Str.ofString "")) (ws.map V.str))) _
            rw [ei]
            exact q _ (sm.trans s1)
    · exact ⟨x, rfl, x, .ty "str", t, _, false, rfl, .ty _, ty, hk, false, rfl, iteT (q _ (Same.refl _))⟩
/-! ### goes_into_rows -/
abbrev s_goes_into_rows : Stmt := topS 36
abbrev N_goes_into_rows : List Str := ["word"]
abbrev P_goes_into_rows : List Str := ["word"]
theorem sc_goes_into_rows : FnScope N_goes_into_rows ["word"] (defScope s_goes_into_rows) := ⟨rfl, rfl, rfl, by decide +kernel, rfl, by decide +kernel, by decide +kernel⟩
def sp_goes : Sp := fun vs H Q _ => ∃ z : Str, vs = [.str z] ∧ z.length ≤ 100000 ∧ Tell H (.bl (decide ((TL.tl z).length < 60))) Q
theorem ok_goes {f : Addr} {fd : FuncData} {k : Nat} (F : Fun K "goes_into_rows" "goes_into_rows" s_goes_into_rows f fd) (T : Tx mg tk) : FnOk P w K mg base CX0 (k + 1) f fd P_goes_into_rows sp_goes := by
  refine F.ok sc_goes_into_rows (fun vs H Q E h => ?_) (fun cdv A outer s H vs Q E hr h => ?_)
  · obtain ⟨z, rfl, _⟩ := h
    rfl
  · have nd := sc_goes_into_rows.nd
    obtain ⟨z, rfl, hz, q⟩ := h
    refine ⟨_, (pss_one (ps_ret (pe_cmpR op_lt (pe_callB call_len_str (by rfl) T.n_len (by decide +kernel) (pa_cons (pv 0) pa_nil)) (pe_glob (v := .int 60) (by rfl) T.m_ROW_SIGNS ⟨_, rfl⟩) (nomark _)))), ?_⟩
    have hl : z.length = (TL.tl z).length := TL.len_tl z
    refine ⟨.str z, rfl, z, rfl, by rw [sizeLine_eq]; omega, _, 60, rfl, rfl, ?_⟩
    show Q (.bl (decide (((z.length : Nat) : Int) < 60))) H
    rw [show decide (((z.length : Nat) : Int) < 60) = decide ((TL.tl z).length < 60) from decide_eq_decide.mpr (by omega)]
    exact q _ (Same.refl _)
/-! ### may_stand_plain -/
abbrev s_may_stand_plain : Stmt := topS 54
abbrev N_may_stand_plain : List Str := ["text", "word"]
abbrev P_may_stand_plain : List Str := ["text"]
theorem sc_may_stand_plain : FnScope N_may_stand_plain ["text"] (defScope s_may_stand_plain) := ⟨rfl, rfl, rfl, by decide +kernel, rfl, by decide +kernel, by decide +kernel⟩
def headL : List Nat := [61, 63]
def plainW (u : List Nat) : Bool := decide (u.length < 60) && !decide (u.take 2 = headL)
def plainL (l : List Nat) : Bool := isVal l && (wordsL l).all plainW
def sp_plain : Sp := fun vs H Q _ => ∃ z : Str, vs = [.str z] ∧ z.length ≤ 100000 ∧ Tell H (.bl (plainL (TL.tl z))) Q
theorem ok_plain {fV fG f : Addr} {fdV fdG fd : FuncData} (F : Fun K "may_stand_plain" "may_stand_plain" s_may_stand_plain f fd) (T : Tx mg tk) (D_is_value : Def P w K mg base "is_value" 2 fV fdV P_is_value (sp_value K)) (D_goes_into_rows : Def P w K mg base "goes_into_rows" 1 fG fdG P_goes_into_rows sp_goes) : FnOk P w K mg base CX0 3 f fd P_may_stand_plain sp_plain := by
  refine F.ok sc_may_stand_plain (fun vs H Q E h => ?_) (fun cdv A outer s H vs Q E hr h => ?_)
  · obtain ⟨z, rfl, _⟩ := h
    rfl
  · have nd := sc_may_stand_plain.nd
    obtain ⟨z, rfl, hz, q⟩ := h
    refine ⟨_, (pss_one (ps_ret (pe_and (pe_def D_is_value (hr.mono (by decide)) (pa_cons (pv 0) pa_nil)) (pe_one (pe_callB (cAll K) (by rfl) T.n_all (by decide +kernel) (pa_cons (pe_lc (own := [("word", 1)]) (g := gName 1) (by rfl) nd (pi_list (pe_words (pv 0))) (blkOk_by (N := N_may_stand_plain) (sc := defScope s_may_stand_plain) (by decide +kernel)) (fun _ _ _ _ _ => (pg_name (i := 1) nd rfl (Or.inl rfl))) (fun _ _ _ _ _ => pts_nil) (fun _ _ _ _ _ => (pe_and (pe_def D_goes_into_rows (hr.mono (by decide)) (pa_cons (pv 1) pa_nil)) (pe_one (pe_not (pe_m1 PySem.F.slot_str_startswith PySem.F.type_str_startswith mt_startswith (pv 1) (pe_glob (v := .str (Str.ofString "=?")) (by rfl) T.m_HEAD ⟨_, rfl⟩))))))) pa_nil)))))), ?_⟩
    have hl : z.length = (TL.tl z).length := TL.len_tl z
    refine andV (isVal (TL.tl z)) ((wordsL (TL.tl z)).all plainW) (fun Q' q' => ⟨.str z, rfl, .str z, rfl, .inl ⟨z, rfl, hz, q'⟩⟩) (fun hv H2 Q' s2 q' => ⟨.str z, rfl, ⟨_, rfl⟩, z, rfl, rfl, by rw [sizeLine_eq]; omega, fun p np => ?_⟩) q
    have hwl := @word_len (TL.tl z)
    have hwm := words_many (TL.tl z)
    rw [val_words hv]
    generalize wordsL (TL.tl z) = us at *
    have s3 := same_upd (o := .lst ((strL us).map V.str)) np
    have hm : ((strL us).map V.str).length = us.length := by rw [List.length_map, strL_len]
    refine ⟨p, rfl, ⟨_, .inl (.inl upd_same)⟩, fun D hD => lc_pure (fun i => ((strL us).map V.str).getD i .non) (fun i => .bl (plainW (us.getD i []))) walk_listF (fun H4 s4 => s4.seq (.inl (.inl upd_same))) hD (by rw [hm, sizeLine_eq]; omega) (fun i H4 Q4 hi s4 q4 => ?_) (fun H4 s4 e4 => ?_)⟩
    · rw [hm] at hi
      rw [strL_at us i hi]
      have hli := hwl (us.getD i []) (by rw [List.getD_eq_getElem?_getD, List.getElem?_eq_getElem hi]; exact List.getElem_mem hi)
      generalize us.getD i [] = u at *
      have hlu : (⟨u.toArray⟩ : Str).length = u.length := mk_len _
      refine andV (decide (u.length < 60)) (!decide (u.take 2 = headL)) (fun Q5 q5 => ⟨_, rfl, ⟨u.toArray⟩, rfl, by rw [hlu]; omega, q5⟩) (fun _ H5 Q5 s5 q5 => ⟨_, rfl, ⟨_, rfl⟩, ⟨u.toArray⟩, Str.ofString "=?", rfl, rfl, _, rfl, ?_⟩) q4
      rw [starts_eq, show TL.tl (Str.ofString "=?") = headL by decide +kernel]
      exact q5 _ (Same.refl _)
    · refine ⟨D, (List.range us.length).map fun i => plainW (us.getD i []), rfl, .inl (.inl (by rw [e4, hm, List.map_map]; rfl)), ?_⟩
      rw [lall_range us [] plainW]
      exact q' _ (s3.trans s4)
/-! ### word_of -/
abbrev s_word_of : Stmt := topS 55
abbrev N_word_of : List Str := ["row"]
abbrev P_word_of : List Str := ["row"]
theorem sc_word_of : FnScope N_word_of ["row"] (defScope s_word_of) := ⟨rfl, rfl, rfl, by decide +kernel, rfl, by decide +kernel, by decide +kernel⟩
/-- the word of some bytes -/
def wordL (c : List Nat) : List Nat := [61, 63] ++ t64 c ++ [63, 61]
def sp_word_of : Sp := fun vs H Q _ => ∃ (a : Addr) (c : List Nat), vs = [.ref a] ∧ H a = some (.lst (nb c)) ∧ BytesN c ∧ 1 ≤ c.length ∧ c.length ≤ 24 ∧ Tell H (.str ⟨(wordL c).toArray⟩) Q
theorem ok_word_of {fS f : Addr} {fdS fd : FuncData} (F : Fun K "word_of" "word_of" s_word_of f fd) (T : Tx mg tk) (D_sixty_of : Def P w K mg base "sixty_of" 3 fS fdS P_sixty_of (sp_sixty_of ptext)) : FnOk P w K mg base CX0 4 f fd P_word_of sp_word_of := by
  refine F.ok sc_word_of (fun vs H Q E h => ?_) (fun cdv A outer s H vs Q E hr h => ?_)
  · obtain ⟨a, c, rfl, _⟩ := h
    rfl
  · have nd := sc_word_of.nd
    obtain ⟨a, c, rfl, ea, hb, h1, h24, q⟩ := h
    refine ⟨_, (pss_one (ps_ret (pe_op op_add_str (pe_op op_add_str (pe_glob (v := .str (Str.ofString "=?")) (by rfl) T.m_HEAD ⟨_, rfl⟩) (pe_ix (ixL K) (pe_def D_sixty_of (hr.mono (by decide)) (pa_cons (pv 0) pa_nil)) pe_int (fun _ _ => rfl))) (pe_glob (v := .str (Str.ofString "?=")) (by rfl) T.m_TAIL ⟨_, rfl⟩)))), ?_⟩
    have eI : (I c).map V.int = nb c := by unfold nb; rw [List.map_map]; rfl
    have hB : Bytes (I c) := fun b hb' => by
      obtain ⟨x, hx, rfl⟩ := List.mem_map.mp hb'
      have := hb x hx
      omega
    have htl := t64_len c hb
    have hne : t64 c ≠ [] := fun e => by rw [e] at htl; simp at htl; omega
    refine ⟨.ref a, rfl, a, I c, rfl, by rw [eI]; exact ea, hB, by rw [List.length_map]; omega, fun H1 p s1 np e1 => ?_⟩
    have er : rowsV (ptext (I c)) = [.str ⟨(t64 c).toArray⟩] := by
      show (chunks 60 (t64 c)).map _ = _
      rw [one_row hne (by omega)]
      rfl
    rw [er] at e1
    have hlt : (⟨(t64 c).toArray⟩ : Str).length = (t64 c).length := mk_len _
    have h1' : (Str.ofString "=?").length = 2 := by decide +kernel
    have h2' : (Str.ofString "?=").length = 2 := by decide +kernel
    refine ⟨p, _, 0, _, rfl, rfl, .inl (.inl e1), rfl, _, _, rfl, rfl, by rw [h1', hlt, sizeLine_eq]; omega, _, _, rfl, rfl, by rw [len_app, h1', h2', hlt, sizeLine_eq]; omega, ?_⟩
    have e : Str.ofString "=?" ++ (⟨(t64 c).toArray⟩ : Str) ++ Str.ofString "?=" = (⟨(wordL c).toArray⟩ : Str) := TL.ext_tl (by
      rw [TL.tl_append, TL.tl_append, show TL.tl (Str.ofString "=?") = [61, 63] by decide +kernel, show TL.tl (Str.ofString "?=") = [63, 61] by decide +kernel]
      rfl)
    have q1 := q _ s1
    rw [← e] at q1
    exact q1
/-! ### value_of -/
abbrev s_value_of : Stmt := topS 53
abbrev N_value_of : List Str := ["row", "text", "byte", "at"]
abbrev P_value_of : List Str := ["row"]
theorem sc_value_of : FnScope N_value_of ["row"] (defScope s_value_of) := ⟨rfl, rfl, rfl, by decide +kernel, rfl, by decide +kernel, by decide +kernel⟩
def allSgn (l : List Nat) : Bool := l.all isSgn
/-- the value of bytes -/
def valueL (l : List Nat) : List Nat := if allSgn l = true ∧ plainL l = true then l else TL.joinL [32] ((chunks 24 l).map wordL)
def sp_value_of : Sp := fun vs H Q _ => ∃ (a : Addr) (l : List Nat), vs = [.ref a] ∧ H a = some (.lst (nb l)) ∧ BytesN l ∧ l.length ≤ 4000 ∧ ∀ z : Str, TL.tl z = valueL l → Tell H (.str z) Q
theorem ok_value_of {fI fB fO fP fW f : Addr} {fdI fdB fdO fdP fdW fd : FuncData} (F : Fun K "value_of" "value_of" s_value_of f fd) (T : Tx mg tk) (D_is_bytes : Def P w K mg base "is_bytes" 2 fI fdI P_is_bytes sp_is_bytes) (D_is_sign_byte : Def P w K mg base "is_sign_byte" 1 fB fdB P_is_sign_byte sp_sign_byte)
    (D_sign_of_byte : Def P w K mg base "sign_of_byte" 1 fO fdO P_sign_of_byte sp_sign_of) (D_may_stand_plain : Def P w K mg base "may_stand_plain" 3 fP fdP P_may_stand_plain sp_plain) (D_word_of : Def P w K mg base "word_of" 4 fW fdW P_word_of sp_word_of) : FnOk P w K mg base CX0 5 f fd P_value_of sp_value_of := by
  refine F.ok sc_value_of (fun vs H Q E h => ?_) (fun cdv A outer s H vs Q E hr h => ?_)
  · obtain ⟨a, l, rfl, _⟩ := h
    rfl
  · have nd := sc_value_of.nd
    obtain ⟨a, l, rfl, ea, hb, hl, q⟩ := h
    refine ⟨_, (pss_cons (ps_if (pt_not (pt_val (pe_def D_is_bytes (hr.mono (by decide)) (pa_cons (pv 0) pa_nil))))
        (pss_one ps_never)
        pss_nil)
      (pss_cons (ps_if (pt_val (pe_callB (cAll K) (by rfl) T.n_all (by decide +kernel) (pa_cons (pe_lc (own := [("byte", 2)]) (g := gName 2) (by rfl) nd (pi_list (pv 0)) (blkOk_by (N := N_value_of) (sc := defScope s_value_of) (by decide +kernel)) (fun _ _ _ _ _ => (pg_name (i := 2) nd rfl (Or.inl rfl))) (fun _ _ _ _ _ => pts_nil) (fun _ _ _ _ _ => (pe_def D_is_sign_byte (hr.mono (by decide)) (pa_cons (pv 2) pa_nil)))) pa_nil)))
        (pss_cons (ps_set (i := 1) nd rfl (.inl rfl) (pe_join pe_str (pe_lc (own := [("byte", 2)]) (g := gName 2) (by rfl) nd (pi_list (pv 0)) (blkOk_by (N := N_value_of) (sc := defScope s_value_of) (by decide +kernel)) (fun _ _ _ _ _ => (pg_name (i := 2) nd rfl (Or.inl rfl))) (fun _ _ _ _ _ => pts_nil) (fun _ _ _ _ _ => (pe_def D_sign_of_byte (hr.mono (by decide)) (pa_cons (pv 2) pa_nil))))))
        (pss_one (ps_if (pt_val (pe_def D_may_stand_plain (hr.mono (by decide)) (pa_cons (pv 1) pa_nil)))
          (pss_one (ps_ret (pv 1)))
          pss_nil)))
        pss_nil)
      (pss_one (ps_ret (pe_join pe_str (pe_lc (own := [("at", 3)]) (g := gName 3) (by rfl) nd (pi_range3 (by rfl) T.n_range (pa_cons pe_int (pa_cons (pe_callB (cLen K) (by rfl) T.n_len (by decide +kernel) (pa_cons (pv 0) pa_nil)) (pa_cons (pe_glob (v := .int 24) (by rfl) T.m_WORD_BYTES ⟨_, rfl⟩) pa_nil)))) (blkOk_by (N := N_value_of) (sc := defScope s_value_of) (by decide +kernel)) (fun _ _ _ _ _ => (pg_name (i := 3) nd rfl (Or.inl rfl))) (fun _ _ _ _ _ => pts_nil) (fun _ _ _ _ _ => (pe_def D_word_of (hr.mono (by decide)) (pa_cons (pe_slice (slL K) (pv 0) (po_some (pv 3)) (po_some (pe_op op_add (pv 3) (pe_glob (v := .int 24) (by rfl) T.m_WORD_BYTES ⟨_, rfl⟩)))) pa_nil))))))))), ?_⟩
    dsimp only [tSeq]
    have hwl : ∀ c : List Nat, BytesN c → c.length ≤ 24 → (wordL c).length ≤ 36 := fun c hc h => by
      have := t64_len c hc
      unfold wordL
      simp only [List.length_append, List.length_cons, List.length_nil]
      omega
    have hck : ∀ c ∈ chunks 24 l, BytesN c ∧ c.length ≤ 24 ∧ 1 ≤ c.length := fun c hc => by
      obtain ⟨i, hi, rfl⟩ := List.getElem_of_mem hc
      have hn := chunks_len 24 l
      rw [chunk_at hi]
      exact ⟨fun x hx => hb x (List.mem_of_mem_drop (List.mem_of_mem_take hx)), by rw [List.length_take]; omega, by rw [List.length_take, List.length_drop]; omega⟩
    have hjoin : ((strL ((chunks 24 l).map wordL)).map (·.length)).sum + (strL ((chunks 24 l).map wordL)).length * (Str.ofString " ").length ≤ 16777216 := by
      have hs : ∀ us : List (List Nat), (∀ u ∈ us, u.length ≤ 36) → ((strL us).map (·.length)).sum ≤ 36 * us.length := by
        intro us
        induction us with
        | nil => intro _; exact Nat.le_refl _
        | cons u r ih =>
          intro h
          have h1 := h u (by simp)
          have h2 := ih fun x hx => h x (by simp [hx])
          have e : ((strL (u :: r)).map (·.length)).sum = (⟨u.toArray⟩ : Str).length + ((strL r).map (·.length)).sum := by unfold strL; simp
          rw [e, mk_len, List.length_cons]
          omega
      have h1 := hs ((chunks 24 l).map wordL) fun u hu => by
        obtain ⟨c, hc, rfl⟩ := List.mem_map.mp hu
        exact hwl c (hck c hc).1 (hck c hc).2.1
      have hn := chunks_len 24 l
      rw [List.length_map] at h1
      rw [strL_len, List.length_map, show (Str.ofString " ").length = 1 by decide +kernel]
      omega
    refine ifT false (fun k q1 => notT true (fun k q2 => ⟨.ref a, rfl, a, l, rfl, ea, hb, by omega, fun H1 s1 => ⟨true, rfl, q2 _ s1⟩⟩) q1) (fun h => nomatch h) (fun _ H1 s1 => ?_)
    dsimp only [tNext, tSeq]
    have ea1 := s1 _ _ ea
    refine ifT (allSgn l) (fun k q1 => ⟨.ref a, rfl, a, rfl, ⟨_, .inl (.inl ea1)⟩, fun D hD => lc_pure (fun i => (nb l).getD i .non) (fun i => .bl (isSgn (l.getD i 0))) walk_listF (fun H2 s2 => s2.seq (.inl (.inl ea1))) hD (by rw [nb_len, sizeLine_eq]; omega) (fun i H2 Q2 hi s2 q2 => ?_) (fun H2 s2 e2 => ?_)⟩) (fun hal H2 s2 => ?_) (fun hal H2 s2 => ?_)
    · rw [nb_len] at hi
      rw [nb_at l hi]
      exact ⟨_, rfl, l.getD i 0, rfl, q2⟩
    · refine ⟨D, (List.range l.length).map fun i => isSgn (l.getD i 0), rfl, .inl (.inl (by rw [e2, nb_len, List.map_map]; rfl)), _, rfl, ?_⟩
      rw [lall_range l 0 isSgn]
      exact q1 _ s2
    · have hsg : ∀ b ∈ l, isSgn b = true := fun b hb' => List.all_eq_true.mp hal b hb'
      have ea2 := s2 _ _ ea1
      dsimp only [tSeq, tAsg]
      refine ⟨⟨_, rfl⟩, .ref a, rfl, a, rfl, ⟨_, .inl (.inl ea2)⟩, fun D hD => lc_pure (fun i => (nb l).getD i .non) (fun i => .str ⟨#[l.getD i 0]⟩) walk_listF (fun H3 s3 => s3.seq (.inl (.inl ea2))) hD (by rw [nb_len, sizeLine_eq]; omega) (fun i H3 Q3 hi s3 q3 => ?_) (fun H3 s3 e3 => ?_)⟩
      · rw [nb_len] at hi
        rw [nb_at l hi]
        exact ⟨_, rfl, l.getD i 0, rfl, hsg _ (getD_mem l 0 hi), q3⟩
      · have e4 : ((List.range (nb l).length).map fun i => V.str ⟨#[l.getD i 0]⟩) = (l.map fun b => (⟨#[b]⟩ : Str)).map V.str := by
          rw [nb_len, List.map_map]
          refine List.ext_getElem? fun i => ?_
          rw [List.getElem?_map, List.getElem?_map]
          by_cases h : i < l.length
          · rw [List.getElem?_range h, List.getElem?_eq_getElem h]
            show some (V.str ⟨#[l.getD i 0]⟩) = _
            rw [List.getD_eq_getElem?_getD, List.getElem?_eq_getElem h]
            rfl
          · rw [List.getElem?_eq_none (by rw [List.length_range]; omega), List.getElem?_eq_none (by omega)]
            rfl
        rw [e4] at e3
        have hsum : ((l.map fun b => (⟨#[b]⟩ : Str)).map (·.length)).sum = l.length := by
          have : ∀ l : List Nat, ((l.map fun b => (⟨#[b]⟩ : Str)).map (·.length)).sum = l.length := by
            intro l
            induction l with
            | nil => rfl
            | cons x r ih =>
              rw [List.map_cons, List.map_cons, List.sum_cons, ih, List.length_cons]
              show 1 + r.length = _
              omega
          exact this l
        refine ⟨Str.ofString "", D, _, rfl, rfl, .inl (.inl (.inl e3)), by rw [hsum, show (Str.ofString "").length = 0 by decide +kernel]; omega, ?_⟩
        have ej : TL.tl (Txt.join (Str.ofString "") (l.map fun b => (⟨#[b]⟩ : Str))) = l := by
          rw [tl_join0, List.map_map]
          have : ∀ l : List Nat, (l.map (TL.tl ∘ fun b => (⟨#[b]⟩ : Str))).flatten = l := by
            intro l
            induction l with
            | nil => rfl
            | cons x r ih => rw [List.map_cons, List.flatten_cons, ih]; rfl
          exact this l
        generalize Txt.join (Str.ofString "") (l.map fun b => (⟨#[b]⟩ : Str)) = T0 at ej
        dsimp only [gName]
        refine ifT (plainL l) (fun k q1 => ⟨_, rfl, T0, rfl, by rw [TL.len_tl, ej]; omega, by rw [ej]; exact fun H5 s5 => ⟨_, rfl, q1 _ s5⟩⟩) (fun hpl H5 s5 => ?_) (fun hpl H5 s5 => ?_)
        · refine ⟨_, rfl, q T0 ?_ _ (s1.trans (s2.trans (s3.trans s5)))⟩
          unfold valueL
          rw [if_pos ⟨hal, hpl⟩, ej]
        · have SM := s1.trans (s2.trans (s3.trans s5))
          have HN : ¬ (allSgn l = true ∧ plainL l = true) := fun h => by rw [hpl] at h; exact nomatch h.2
          dsimp only [tNext]
          have eN := SM _ _ ea
          refine ⟨⟨_, rfl⟩, .ref a, rfl, a, _, rfl, .inl (.inl (.inl eN)), 0, _, 24, (l.length + 23) / 24, rfl, by rw [nb_len]; exact rgC l.length 24 (by decide) (by decide) (by omega), fun D hD => ?_⟩
          refine lc_pure (fun i => .int (0 + ((i : Nat) : Int) * 24)) (fun i => .str ⟨(wordL ((l.drop (i * 24)).take 24)).toArray⟩) walk_rangeC (fun _ _ => trivial) hD (by rw [sizeLine_eq]; omega) (fun i H7 Q7 hi s7 q7 => ?_) (fun H7 s7 e7 => ?_)
          · refine ⟨.ref a, rfl, .int (0 + ((i : Nat) : Int) * 24), rfl, _, rfl, .int (0 + ((i : Nat) : Int) * 24), rfl, _, 24, rfl, rfl, 0 + ((i : Nat) : Int) * 24 + 24, rfl, a, _, rfl, .inl (.inl (s7 _ _ eN)), fun p np => ?_⟩
            have hl2 : ((l.drop (i * 24)).take 24).length = min 24 (l.length - i * 24) := by rw [List.length_take, List.length_drop]
            refine ⟨p, (l.drop (i * 24)).take 24, rfl, ?_, fun x hx => hb x (List.mem_of_mem_drop (List.mem_of_mem_take hx)), by omega, by omega, fun H8 s8 => q7 _ ((same_upd np).trans s8)⟩
            rw [upd_same, show (0 : Int) + ((i : Nat) : Int) * 24 = ((i * 24 : Nat) : Int) by omega, show ((i * 24 : Nat) : Int) + 24 = ((i * 24 + 24 : Nat) : Int) by omega, cutV_at, Nat.add_sub_cancel_left]
            unfold nb
            rw [List.map_take, List.map_drop]
          · have e2 : (List.range ((l.length + 23) / 24)).map (fun i => V.str ⟨(wordL ((l.drop (i * 24)).take 24)).toArray⟩) = (strL ((chunks 24 l).map wordL)).map V.str := by
              unfold strL chunks
              rw [List.map_map, List.map_map, List.map_map]
              rfl
            rw [e2] at e7
            refine ⟨Str.ofString " ", D, _, rfl, rfl, .inl (.inl (.inl e7)), ?_, ?_⟩
            · exact hjoin
            · refine q _ ?_ _ (SM.trans s7)
              rw [TL.join_eq, TL.tl_join, strL_tls, show TL.tl (Str.ofString " ") = [32] by decide +kernel]
              unfold valueL
              rw [if_neg HN]
    · have SM := s1.trans s2
      have HN : ¬ (allSgn l = true ∧ plainL l = true) := fun h => by rw [hal] at h; exact nomatch h.1
      dsimp only [tNext]
      have eN := SM _ _ ea
      refine ⟨⟨_, rfl⟩, .ref a, rfl, a, _, rfl, .inl (.inl (.inl eN)), 0, _, 24, (l.length + 23) / 24, rfl, by rw [nb_len]; exact rgC l.length 24 (by decide) (by decide) (by omega), fun D hD => ?_⟩
      refine lc_pure (fun i => .int (0 + ((i : Nat) : Int) * 24)) (fun i => .str ⟨(wordL ((l.drop (i * 24)).take 24)).toArray⟩) walk_rangeC (fun _ _ => trivial) hD (by rw [sizeLine_eq]; omega) (fun i H7 Q7 hi s7 q7 => ?_) (fun H7 s7 e7 => ?_)
      · refine ⟨.ref a, rfl, .int (0 + ((i : Nat) : Int) * 24), rfl, _, rfl, .int (0 + ((i : Nat) : Int) * 24), rfl, _, 24, rfl, rfl, 0 + ((i : Nat) : Int) * 24 + 24, rfl, a, _, rfl, .inl (.inl (s7 _ _ eN)), fun p np => ?_⟩
        have hl2 : ((l.drop (i * 24)).take 24).length = min 24 (l.length - i * 24) := by rw [List.length_take, List.length_drop]
        refine ⟨p, (l.drop (i * 24)).take 24, rfl, ?_, fun x hx => hb x (List.mem_of_mem_drop (List.mem_of_mem_take hx)), by omega, by omega, fun H8 s8 => q7 _ ((same_upd np).trans s8)⟩
        rw [upd_same, show (0 : Int) + ((i : Nat) : Int) * 24 = ((i * 24 : Nat) : Int) by omega, show ((i * 24 : Nat) : Int) + 24 = ((i * 24 + 24 : Nat) : Int) by omega, cutV_at, Nat.add_sub_cancel_left]
        unfold nb
        rw [List.map_take, List.map_drop]
      · have e2 : (List.range ((l.length + 23) / 24)).map (fun i => V.str ⟨(wordL ((l.drop (i * 24)).take 24)).toArray⟩) = (strL ((chunks 24 l).map wordL)).map V.str := by
          unfold strL chunks
          rw [List.map_map, List.map_map, List.map_map]
          rfl
        rw [e2] at e7
        refine ⟨Str.ofString " ", D, _, rfl, rfl, .inl (.inl (.inl e7)), ?_, ?_⟩
        · exact hjoin
        · refine q _ ?_ _ (SM.trans s7)
          rw [TL.join_eq, TL.tl_join, strL_tls, show TL.tl (Str.ofString " ") = [32] by decide +kernel]
          unfold valueL
          rw [if_neg HN]
end
end K09

namespace K09
open PySem PySem.Spec PyProof.Rows L2 LH
theorem cutS_mid (z : Str) : TL.tl (cutS z (some 2) (some (-2))) = ((TL.tl z).drop (min 2 (TL.tl z).length)).take (((TL.tl z).length - 2) - min 2 (TL.tl z).length) := by
  unfold cutS
  have hz : z.length = (TL.tl z).length := TL.len_tl z
  have e1 : HT.sIx z.length 0 (some 2) = min 2 z.length := by
    show (if (2 : Int) < 0 then (2 + ((z.length : Nat) : Int)).toNat else min (2 : Int).toNat z.length) = _
    rw [if_neg (by decide)]
    rfl
  have e2 : HT.sIx z.length z.length (some (-2)) = z.length - 2 := by
    show (if (-2 : Int) < 0 then (-2 + ((z.length : Nat) : Int)).toNat else min (-2 : Int).toNat z.length) = _
    rw [if_pos (by decide)]
    omega
  rw [e1, e2, hz]
theorem word_back (y : Str) : TL.tl (Str.ofString "=?" ++ y ++ Str.ofString "?=") = [61, 63] ++ TL.tl y ++ [63, 61] := by
  rw [TL.tl_append, TL.tl_append, show TL.tl (Str.ofString "=?") = [61, 63] by decide +kernel, show TL.tl (Str.ofString "?=") = [63, 61] by decide +kernel]
/-- what stands between the signs of a word -/
def inner (w : List Nat) : List Nat := (w.drop (min 2 w.length)).take ((w.length - 2) - min 2 w.length)
def innerS (w : List Nat) : Str := ⟨(inner w).toArray⟩
def wordOk (w : List Nat) : Bool := decide (w = [61, 63] ++ inner w ++ [63, 61]) && decide (4 ≤ (inner w).length ∧ (inner w).length ≤ 32) && decide (wrongF standB endB 0 [innerS w] = none)
/-- the bytes of a word, as the program reads it -/
def wordV (w : List Nat) : Option (List V) := if wordOk w = true then some (bytes64 [innerS w]) else none
section
variable {P : Program} {w : World} {K : PySem.W.Frag} {mg : Str → Option Value} {base : Heap} {tk : Nat → Tok} {ca : Nat → Addr}
/-! ### bytes_of_word -/
abbrev s_bytes_of_word : Stmt := topS 57
abbrev N_bytes_of_word : List Str := ["word", "signs"]
abbrev P_bytes_of_word : List Str := ["word"]
theorem sc_bytes_of_word : FnScope N_bytes_of_word ["word"] (defScope s_bytes_of_word) := ⟨rfl, rfl, rfl, by decide +kernel, rfl, by decide +kernel, by decide +kernel⟩
def sp_bword : Sp := fun vs H Q _ => ∃ z : Str, vs = [.str z] ∧ z.length ≤ 100000 ∧ TellO H (wordV (TL.tl z)) Q
theorem ok_bword {fB f : Addr} {fdB fd : FuncData} (F : Fun K "bytes_of_word" "bytes_of_word" s_bytes_of_word f fd) (T : Tx mg tk) (E : Ex K mg ca) (D_bytes_of_sixty : DefX P w K mg base "bytes_of_sixty" 6 fB fdB P_bytes_of_sixty (sp_sixtyX K (ca 13))) : FnOk P w K mg base CX0 7 f fd P_bytes_of_word sp_bword := by
  refine F.ok sc_bytes_of_word (fun vs H Q _ h => ?_) (fun cdv A outer s H vs Q _ hr h => ?_)
  · obtain ⟨z, rfl, _⟩ := h
    rfl
  · have nd := sc_bytes_of_word.nd
    obtain ⟨z, rfl, hz, h⟩ := h
    refine ⟨_, (pss_cons (ps_set (i := 1) nd rfl (.inl rfl) (pe_slice sl_str (pv 0) (po_some (pe_callB call_len_str (by rfl) T.n_len (by decide +kernel) (pa_cons (pe_glob (v := .str (Str.ofString "=?")) (by rfl) T.m_HEAD ⟨_, rfl⟩) pa_nil))) (po_some (pe_un un_neg (pe_callB call_len_str (by rfl) T.n_len (by decide +kernel) (pa_cons (pe_glob (v := .str (Str.ofString "?=")) (by rfl) T.m_TAIL ⟨_, rfl⟩) pa_nil))))))
      (pss_cons (ps_if (PW.pt (pw_or (pt_cmpR op_ne (pv 0) (pe_op op_add_str (pe_op op_add_str (pe_glob (v := .str (Str.ofString "=?")) (by rfl) T.m_HEAD ⟨_, rfl⟩) (pv 1)) (pe_glob (v := .str (Str.ofString "?=")) (by rfl) T.m_TAIL ⟨_, rfl⟩)) (nomark _)) (pw_or1 (pt_not (pt_chain op_le op_le (pe_glob (v := .int 4) (by rfl) T.m_FEWEST_SIGNS ⟨_, rfl⟩) (pe_callB call_len_str (by rfl) T.n_len (by decide +kernel) (pa_cons (pv 1) pa_nil)) (pe_glob (v := .int 32) (by rfl) T.m_MOST_SIGNS ⟨_, rfl⟩))))))
        (pss_one (ps_ret pe_non))
        pss_nil)
      (pss_one (ps_try_only rfl rfl ⟨rfl, by decide, .inl E.m_BadSixty⟩ takesN (fun W pn xe tk _ => (pss_one (ps_ret (pe_callS D_bytes_of_sixty.ok (hr.mono (by decide)) (by rfl) D_bytes_of_sixty.mg D_bytes_of_sixty.kp D_bytes_of_sixty.bd (fun σ => L2.passAt tk σ) (pa_cons (pe_lst (pa_cons (pv 1) pa_nil)) pa_nil))))) (fun a oe cls d pn hz hf => (pss_one (ps_ret pe_non))))))), ?_⟩
    dsimp only [tSeq, tAsg, gName]
    refine ⟨.str z, rfl, Str.ofString "=?", rfl, by rw [sizeLine_eq]; decide +kernel, _, rfl, Str.ofString "?=", rfl, by rw [sizeLine_eq]; decide +kernel, _, rfl, _, rfl, z, rfl, by rw [sizeLine_eq]; omega, ?_⟩
    rw [show ((Str.ofString "=?").length : Int) = 2 by decide +kernel, show ((Str.ofString "?=").length : Int) = 2 by decide +kernel]
    have hm : TL.tl (cutS z (some 2) (some (-2))) = inner (TL.tl z) := cutS_mid z
    generalize cutS z (some 2) (some (-2)) = y at *
    have hyi : innerS (TL.tl z) = y := TL.ext_tl hm.symm
    have hyl : y.length ≤ 100000 := by
      rw [TL.len_tl, hm]
      unfold inner
      rw [List.length_take, List.length_drop, ← TL.len_tl]
      omega
    have hwb := word_back y
    have hn2 : (Str.ofString "=?").length = 2 := by decide +kernel
    have hn3 : (Str.ofString "?=").length = 2 := by decide +kernel
    have hcat : (Str.ofString "=?" ++ y).length = y.length + 2 := by
      rw [TL.len_tl, TL.tl_append, List.length_append, ← TL.len_tl, ← TL.len_tl, hn2]
      omega
    have hil : (inner (TL.tl z)).length = y.length := by rw [← hm, ← TL.len_tl]
    generalize hE : Str.ofString "=?" ++ y ++ Str.ofString "?=" = E1 at *
    have hd : decide (TL.tl z = [61, 63] ++ inner (TL.tl z) ++ [63, 61]) = decide (V.str z = V.str E1) := decide_eq_decide.mpr ⟨fun e => congrArg V.str (TL.ext_tl (by rw [hwb, hm]; exact e)), fun e => by rw [← hm, ← hwb, V.str.inj e]⟩
    refine ifT (!decide (V.str z = V.str E1) || !decide (4 ≤ y.length ∧ y.length ≤ 32)) (fun k q => orT (!decide (V.str z = V.str E1)) (!decide (4 ≤ y.length ∧ y.length ≤ 32)) (fun k1 q1 => ⟨.str z, rfl, .str y, rfl, Str.ofString "=?", y, rfl, rfl, by rw [hn2, sizeLine_eq]; omega, _, Str.ofString "?=", rfl, rfl, by rw [hcat, hn3, sizeLine_eq]; omega, rfl, _, rfl, by rw [hE]; exact q1 _ (Same.refl _)⟩) (fun _ H1 k1 s1 q1 => notT (decide (4 ≤ y.length ∧ y.length ≤ 32)) (fun k2 q2 => ?_) q1) q) (fun hc H1 s1 => ?_) (fun hc H1 s1 => ?_)
    · refine ⟨.str y, rfl, y, rfl, by rw [sizeLine_eq]; omega, _, _, rfl, rfl, _, rfl, ?_⟩
      by_cases h4 : 4 ≤ y.length
      · rw [if_pos (decide_eq_true (by omega))]
        refine ⟨_, _, rfl, rfl, _, rfl, ?_⟩
        rw [show decide ((y.length : Int) ≤ 32) = decide (4 ≤ y.length ∧ y.length ≤ 32) from decide_eq_decide.mpr (by omega)]
        exact q2 _ (Same.refl _)
      · rw [if_neg (by rw [decide_eq_false (by omega)]; exact Bool.false_ne_true)]
        refine ⟨_, rfl, ?_⟩
        rw [show decide (4 ≤ y.length ∧ y.length ≤ 32) = false from decide_eq_false (by omega)] at q2
        exact q2 _ (Same.refl _)
    · refine h.1 ?_ _ s1
      unfold wordV wordOk
      rw [if_neg]
      rw [hd, hil]
      intro hh
      simp only [Bool.and_eq_true] at hh
      rw [hh.1.1, hh.1.2] at hc
      exact nomatch hc
    · dsimp only [tNext, tSeq]
      have hy4 : y.length ≤ 32 ∧ 4 ≤ y.length ∧ V.str z = V.str E1 := by
        rw [Bool.or_eq_false_iff, Bool.not_eq_false', Bool.not_eq_false', decide_eq_true_eq, decide_eq_true_eq] at hc
        exact ⟨hc.2.2, hc.2.1, hc.1⟩
      have h1 : ∀ z' ∈ [y], z'.length ≤ 1000 := fun z' hz' => by rw [List.mem_singleton.mp hz']; omega
      refine ⟨.str y, rfl, by rw [sizeLine_eq]; exact Nat.le_of_ble_eq_true rfl, fun p np => ?_⟩
      have sp := s1.trans (same_upd (o := .lst [V.str y]) np)
      cases hw : wrongF standB endB 0 [y] with
      | none =>
        refine ⟨.ref p, 0, 0, rfl, first_none (R := [y]) upd_same (Nat.le_of_ble_eq_true rfl) h1 hw, .inr ⟨p, [y], rfl, rfl, upd_same, Nat.le_of_ble_eq_true rfl, h1, fun H2 p2 s2 n2 e2 => ?_⟩⟩
        refine h.2 (bytes64 [y]) ?_ H2 p2 (sp.trans s2) (sp.free n2) e2
        unfold wordV wordOk
        rw [if_pos, hyi]
        rw [hd, hil, hyi, hw, decide_eq_true hy4.2.2, decide_eq_true (show 4 ≤ y.length ∧ y.length ≤ 32 from ⟨hy4.2.1, hy4.1⟩)]
        rfl
      | some lp =>
        obtain ⟨l', p'⟩ := lp
        have hl : 0 < l' := by
          unfold wrongF at hw
          split at hw
          · have := (Prod.mk.inj (Option.some.inj hw)).1
            omega
          · exact nomatch hw
        refine ⟨.ref p, l', p', rfl, .inr ⟨p, [y].map V.str, rfl, upd_same, Nat.le_of_ble_eq_true rfl, fun v hv => .inl ⟨y, List.mem_singleton.mp hv⟩, .inr ⟨[y], rfl, h1, by rw [hw]; rfl⟩⟩, .inl ⟨hl, fun H2 d s2 nd2 => ⟨true, E.x_BadSixty, fun _ a na => ?_, fun e => nomatch e⟩⟩⟩
        refine h.1 ?_ _ (sp.trans (s2.trans (same_upd nd2)))
        unfold wordV wordOk
        rw [if_neg]
        rw [hyi, hw]
        intro hh
        simp at hh
end
end K09

namespace K09
open PySem PySem.Spec PyProof.Rows L2 LH
theorem cutV_mem {xs : List V} {lo hi : Option Int} : ∀ v ∈ cutV xs lo hi, v ∈ xs := fun v hv => by
  unfold cutV at hv
  exact List.mem_of_mem_drop (List.mem_of_mem_take hv)
/-- the whole numbers of a list -/
def intsOf (xs : List V) : List Int := xs.map fun v => match v with | .int i => i | _ => 0
theorem ints_of {xs : List V} (h : ∀ v ∈ xs, ∃ i, v = V.int i) : (intsOf xs).map V.int = xs := by
  unfold intsOf
  rw [List.map_map]
  conv => rhs; rw [← List.map_id xs]
  refine List.map_congr_left fun v hv => ?_
  obtain ⟨i, rfl⟩ := h v hv
  rfl
theorem fourV_ints (l : List Nat) : ∀ v ∈ fourV l, ∃ i, v = V.int i := fun v hv => by
  unfold fourV at hv
  have := cutV_mem v hv
  simp only [List.mem_cons, List.not_mem_nil, or_false] at this
  rcases this with h | h | h
  · exact ⟨_, h⟩
  · exact ⟨_, h⟩
  · exact ⟨_, h⟩
theorem bytes64_ints (R : List Str) : ∀ v ∈ bytes64 R, ∃ i, v = V.int i := fun v hv => by
  unfold bytes64 at hv
  obtain ⟨l, hl, hv⟩ := List.mem_flatten.mp hv
  obtain ⟨c, _, rfl⟩ := List.mem_map.mp hl
  exact fourV_ints c v hv
theorem wordV_ints {w : List Nat} {xs : List V} (h : wordV w = some xs) : ∀ v ∈ xs, ∃ i, v = V.int i := by
  unfold wordV at h
  split at h
  · rw [← Option.some.inj h]
    exact bytes64_ints _
  · exact nomatch h
theorem bytes64_len {s : Str} (h : s.length ≤ 32) : (bytes64 [s]).length ≤ 24 := by
  unfold bytes64
  have h1 := flat_le ((chunks 4 (textR [s])).map fourV) 3 fun x hx => by
    obtain ⟨j, _, rfl⟩ := List.mem_map.mp hx
    exact fourV_len _
  rw [List.length_map, chunks_len] at h1
  have : (textR [s]).length = s.length := by
    unfold textR
    rw [List.map_cons, List.map_nil, List.flatten_cons, List.flatten_nil, List.append_nil, ← TL.len_tl]
  omega
theorem wordV_len {w : List Nat} {xs : List V} (h : wordV w = some xs) : xs.length ≤ 24 := by
  unfold wordV at h
  split at h
  · rename_i hw
    rw [← Option.some.inj h]
    unfold wordOk at hw
    simp only [Bool.and_eq_true, decide_eq_true_eq] at hw
    refine bytes64_len ?_
    unfold innerS
    rw [mk_len]
    exact hw.1.2.2
  · exact nomatch h
/-- the bytes of a value, as the program reads it -/
def valueV (v : List Nat) : List V := if (wordsL v).any (fun u => (wordV u).isNone) = true then nb v else ((wordsL v).map fun u => (wordV u).getD []).flatten
section
variable {P : Program} {w : World} {K : PySem.W.Frag} {mg : Str → Option Value} {base : Heap} {tk : Nat → Tok} {ca : Nat → Addr}
/-! ### bytes_of_value -/
abbrev s_bytes_of_value : Stmt := topS 56
abbrev N_bytes_of_value : List Str := ["value", "parts", "word", "part", "byte"]
abbrev P_bytes_of_value : List Str := ["value"]
theorem sc_bytes_of_value : FnScope N_bytes_of_value ["value"] (defScope s_bytes_of_value) := ⟨rfl, rfl, rfl, by decide +kernel, rfl, by decide +kernel, by decide +kernel⟩
def sp_bvalue : Sp := fun vs H Q _ => ∃ z : Str, vs = [.str z] ∧ z.length ≤ 100000 ∧ isVal (TL.tl z) = true ∧ New H (valueV (TL.tl z)) Q
theorem ok_bvalue {fV fW fS f : Addr} {fdV fdW fdS fd : FuncData} (F : Fun K "bytes_of_value" "bytes_of_value" s_bytes_of_value f fd) (T : Tx mg tk) (D_is_value : Def P w K mg base "is_value" 2 fV fdV P_is_value (sp_value K)) (D_bytes_of_word : Def P w K mg base "bytes_of_word" 7 fW fdW P_bytes_of_word sp_bword)
    (D_bytes_of_signs : Def P w K mg base "bytes_of_signs" 1 fS fdS P_bytes_of_signs sp_bsigns) : FnOk P w K mg base CX0 8 f fd P_bytes_of_value sp_bvalue := by
  refine F.ok sc_bytes_of_value (fun vs H Q E h => ?_) (fun cdv A outer s H vs Q E hr h => ?_)
  · obtain ⟨z, rfl, _⟩ := h
    rfl
  · have nd := sc_bytes_of_value.nd
    obtain ⟨z, rfl, hzl, hv, q⟩ := h
    refine ⟨_, (pss_cons (ps_if (pt_not (pt_val (pe_def D_is_value (hr.mono (by decide)) (pa_cons (pv 0) pa_nil))))
        (pss_one ps_never)
        pss_nil)
      (pss_cons (ps_setLc (i := 1) (own := [("word", 2)]) (g := gName 2) (by rfl) nd rfl rfl (sw_true rfl rfl rfl (by decide +kernel)) (pi_list (pe_words (pv 0))) (blkOk_by (N := N_bytes_of_value) (sc := defScope s_bytes_of_value) (by decide +kernel)) (fun _ _ _ _ _ => (pg_name (i := 2) nd rfl (Or.inl rfl))) (fun _ _ _ _ _ => pts_nil) (fun _ _ _ _ _ => (pe_def D_bytes_of_word (hr.mono (by decide)) (pa_cons (pv 2) pa_nil))))
      (pss_cons (ps_if (pt_cmpR (inD K (LH.room65 hr)) pe_non (pv 1) (by rfl))
        (pss_one (ps_ret (pe_def D_bytes_of_signs (hr.mono (by decide)) (pa_cons (pv 0) pa_nil))))
        pss_nil)
      (pss_one (ps_ret (pe_lc2 (own := [("part", 3), ("byte", 4)]) (vs1 := [4]) (g := gName 3) (g1 := gName 4) (by rfl) nd (pi_list (pv 1)) (blkOk_by (N := N_bytes_of_value) (sc := defScope s_bytes_of_value) (by decide +kernel)) (by decide) (fun _ _ _ _ _ => (pg_name (i := 3) nd rfl (Or.inl rfl))) (fun _ _ _ _ _ => pts_nil) (fun _ _ _ _ _ => by exact (pi_listK K (pv 3))) (fun _ _ _ _ _ => (pg_name (i := 4) nd rfl (Or.inl rfl))) (fun _ _ _ _ _ => pts_nil) (fun _ _ _ _ _ => (pv 4)))))))), ?_⟩
    dsimp only [tSeq, tAsg, gName]
    refine ifT false (fun k q1 => notT true (fun k' q2 => ⟨.str z, rfl, .str z, rfl, .inl ⟨z, rfl, by omega, fun H5 s5 => ⟨_, rfl, by rw [hv]; exact q2 _ s5⟩⟩⟩) q1) (fun h => nomatch h) (fun _ H1 s1 => ?_)
    dsimp only [tNext, tSeq]
    refine ⟨.str z, rfl, ⟨_, rfl⟩, z, rfl, rfl, by rw [sizeLine_eq]; omega, fun p np => ?_⟩
    have hwl := @word_len (TL.tl z)
    have hwm := words_many (TL.tl z)
    rw [val_words hv]
    have hzz : z.length = (TL.tl z).length := TL.len_tl z
    rw [← hzz] at hwl hwm
    unfold valueV at q
    generalize wordsL (TL.tl z) = us at *
    have s2 := same_upd (o := .lst ((strL us).map V.str)) np
    have hm : ((strL us).map V.str).length = us.length := by rw [List.length_map, strL_len]
    refine ⟨p, rfl, ⟨_, .inl (.inl upd_same)⟩, fun D hD => lc_opts (fun i => ((strL us).map V.str).getD i .non) (fun i => wordV (us.getD i [])) walk_listF (fun H4 s4 => s4.seq (.inl (.inl upd_same))) hD (by rw [hm, sizeLine_eq]; omega) (fun i H4 Q4 hi s4 q4 => ?_) (fun H4 as s4 hal ha e4 => ?_)⟩
    · rw [hm] at hi
      rw [strL_at us i hi]
      have hli := hwl _ (getD_mem us [] hi)
      generalize us.getD i [] = u at *
      have hlu : (⟨u.toArray⟩ : Str).length = u.length := mk_len _
      exact ⟨_, rfl, ⟨u.toArray⟩, rfl, by rw [hlu]; omega, q4⟩
    · rw [hm] at hal ha
      have hau : ∀ i, i < us.length → us[i]? = some (us.getD i []) := fun i hi => by rw [List.getD_eq_getElem?_getD, List.getElem?_eq_getElem hi]; rfl
      dsimp only [gName, tSeq]
      refine ifT (us.any fun u => (wordV u).isNone) (fun k q1 => ⟨.ref D, rfl, .none, (us.map fun u => (wordV u).map intsOf).map dOpt, .non, .lst (.inl (.inl e4)) (dpAll_opts (D := D) as _ (by rw [List.length_map]; omega) fun i hi => ?_), by rfl, shaped_opts _, _, rfl, ?_⟩) (fun hc H5 s5 => ?_) (fun hc H5 s5 => ?_)
      · have h1 := ha i (by omega)
        have h2 : (us.map fun u => (wordV u).map intsOf).getD i none = (wordV (us.getD i [])).map intsOf := by
          rw [List.getD_eq_getElem?_getD, List.getElem?_map, hau i (by omega)]
          rfl
        rw [h2, Option.map_map]
        cases hw : wordV (us.getD i []) with
        | none => rw [hw] at h1; exact h1
        | some xs =>
          rw [hw] at h1
          show OptAt D H4 (some ((intsOf xs).map V.int)) _
          rw [ints_of (wordV_ints hw)]
          exact h1
      · rw [any_opts, List.any_map]
        rw [show us.any (Option.isNone ∘ fun u => (wordV u).map intsOf) = us.any (fun u => (wordV u).isNone) from congrArg us.any (funext fun u => by cases h : wordV u <;> simp [h])]
        exact q1 _ (Same.refl _)
      · rw [if_pos hc] at q
        exact ⟨.str z, rfl, z, rfl, by omega, fun H6 p6 s6 n6 e6 => q H6 p6 (s1.trans (s2.trans (s4.trans (s5.trans s6)))) ((s1.trans (s2.trans (s4.trans s5))).free n6) e6⟩
      · rw [if_neg (by rw [hc]; exact Bool.false_ne_true)] at q
        dsimp only [tNext]
        have hso : ∀ i, i < us.length → ∃ r xs, wordV (us.getD i []) = some xs ∧ as.getD i .non = .ref r ∧ r ≠ D ∧ H4 r = some (.lst xs) := fun i hi => by
          rcases ha i hi with ⟨h1, _⟩ | h1
          · exfalso
            have : (us.any fun u => (wordV u).isNone) = true := List.any_eq_true.mpr ⟨us.getD i [], getD_mem us [] hi, by rw [h1]; rfl⟩
            rw [hc] at this
            exact nomatch this
          · exact h1
        have hrow : ∀ n, (((List.range n).map fun i => (List.range ((wordV (us.getD i [])).getD []).length).map fun j => ((wordV (us.getD i [])).getD []).getD j .non).flatten) = ((List.range n).map fun i => (wordV (us.getD i [])).getD []).flatten := fun n => by
          congr 1
          exact List.map_congr_left fun x _ => LH.range_getD _ _
        refine ⟨.ref D, rfl, D, rfl, ⟨_, .inl (.inl (s5 _ _ e4))⟩, fun E1 hE => lc_two2 (K := K) (fun i => as.getD i .non) (fun i => (wordV (us.getD i [])).getD []) (fun i j => ((wordV (us.getD i [])).getD []).getD j .non) (by decide) walk_listF (fun H6 s6 => s6.seq (.inl (.inl (s5 _ _ e4)))) hE (fun i hi => ?_) (fun i H6 Rr hi s6 hR => ?_) (fun i j H6 Q6 hi hj s6 q6 => ?_) (fun H6 s6 e6 => ?_)⟩
        · rw [hrow]
          have h1 := flat_le ((List.range i).map fun i => (wordV (us.getD i [])).getD []) 24 fun x hx => by
            obtain ⟨j, hj, rfl⟩ := List.mem_map.mp hx
            cases hw : wordV (us.getD j []) with
            | none => exact Nat.zero_le _
            | some xs => exact wordV_len hw
          rw [List.length_map, List.length_range] at h1
          rw [sizeLine_eq]
          omega
        · obtain ⟨r, xs, hw, hr2, hrD, hH⟩ := hso i (by omega)
          have hai := s6 _ _ (s5 _ _ hH)
          rw [hr2]
          refine ⟨_, rfl, r, rfl, ⟨_, .inl (.inl hai)⟩, hR H6 _ (Same.refl _) (fun e => ?_) (by rw [hw]; exact hai)⟩
          have h1 := s5 _ _ hH
          rw [e, hE] at h1
          exact nomatch h1
        · exact ⟨_, rfl, q6 _ (Same.refl _)⟩
        · rw [hal, hrow] at e6
          have hn : (List.range us.length).map (fun i => (wordV (us.getD i [])).getD []) = us.map fun u => (wordV u).getD [] := by
            exact List.ext_getElem (by simp) fun i h1 h2 => by
              rw [List.getElem_map, List.getElem_map, List.getElem_range, List.getD_eq_getElem?_getD, List.getElem?_eq_getElem (by simpa using h2)]
              rfl
          rw [hn] at e6
          exact q H6 E1 (s1.trans (s2.trans (s4.trans (s5.trans s6)))) ((s1.trans (s2.trans (s4.trans s5))).free hE) e6
end
end K09

namespace K09
open PySem PySem.Spec PyProof.Rows L2 LH
section
variable {P : Program} {w : World} {K : PySem.W.Frag} {mg : Str → Option Value} {base : Heap} {tk : Nat → Tok} {ca : Nat → Addr}
/-- a refusal by the class at C -/
def Refuse (H : Hp) (C : Addr) (kd : Str) (E : XK) : Prop := ∀ H1 d, Same H H1 → H1 d = none → E (.ref C) (some d) (upd H1 d (.xd (heFields kd)))
/-- no bytes -/
def BadB (K : PySem.W.Frag) (H : Hp) (x : V) : Prop := NoL K H x ∨ ∃ (a : Addr) (xs : List V), x = .ref a ∧ H a = some (.lst xs) ∧ xs.length ≤ 100000 ∧ (∀ v ∈ xs, ElemB H v) ∧ xs.all okV = false
theorem BadB.is {H : Hp} {x : V} (h : BadB K H x) : ((NoL K H x ∧ false = false) ∨ ∃ (a : Addr) (xs : List V), x = .ref a ∧ H a = some (.lst xs) ∧ xs.length ≤ 100000 ∧ (∀ v ∈ xs, ElemB H v) ∧ false = xs.all okV) := by
  rcases h with h | ⟨a, xs, h1, h2, h3, h4, h5⟩
  · exact .inl ⟨h, rfl⟩
  · exact .inr ⟨a, xs, h1, h2, h3, h4, h5.symm⟩
def sp_badX (K : PySem.W.Frag) (ca : Nat → Addr) : Sp := fun vs H Q E => ∃ x : V, vs = [x] ∧ BadB K H x ∧ Refuse H (ca 1) "badbytes" E
theorem ok_value_ofX {fH ccH cdaH fI fB fO fP fW f : Addr} {fdI fdB fdO fdP fdW fd : FuncData} (F : Fun K "value_of" "value_of" s_value_of f fd) (T : Tx mg tk) (W_BadBytes : HeC P K mg "BadBytes" (ca 1) (ca 0) fH ccH cdaH "badbytes") (D_is_bytes : Def P w K mg base "is_bytes" 2 fI fdI P_is_bytes (sp_is_bytesG K)) (D_is_sign_byte : Def P w K mg base "is_sign_byte" 1 fB fdB P_is_sign_byte sp_sign_byte)
    (D_sign_of_byte : Def P w K mg base "sign_of_byte" 1 fO fdO P_sign_of_byte sp_sign_of) (D_may_stand_plain : Def P w K mg base "may_stand_plain" 3 fP fdP P_may_stand_plain sp_plain) (D_word_of : Def P w K mg base "word_of" 4 fW fdW P_word_of sp_word_of) : FnOk P w K mg base (L2.CX P w) 5 f fd P_value_of (sp_badX K ca) := by
  refine F.okX sc_value_of (fun vs H Q Ex h => ?_) (fun cdv A outer s H vs Q Ex hr h => ?_)
  · obtain ⟨x, rfl, _⟩ := h
    rfl
  · have nd := sc_value_of.nd
    obtain ⟨x, rfl, hb, r⟩ := h
    refine ⟨_, (pss_cons (ps_if (pt_not (pt_val (pe_def D_is_bytes (hr.mono (by decide)) (pa_cons (pv 0) pa_nil))))
        (pss_one (ps_raiseH rfl W_BadBytes hr (takes_of rfl rfl rfl rfl) (by exact (pa_cons pe_str pa_nil))))
        pss_nil)
      (PSs.nox (pss_cons (ps_if (pt_val (pe_callB (cAll K) (by rfl) T.n_all (by decide +kernel) (pa_cons (pe_lc (own := [("byte", 2)]) (g := gName 2) (by rfl) nd (pi_list (pv 0)) (blkOk_by (N := N_value_of) (sc := defScope s_value_of) (by decide +kernel)) (fun _ _ _ _ _ => (pg_name (i := 2) nd rfl (Or.inl rfl))) (fun _ _ _ _ _ => pts_nil) (fun _ _ _ _ _ => (pe_def D_is_sign_byte (hr.mono (by decide)) (pa_cons (pv 2) pa_nil)))) pa_nil)))
        (pss_cons (ps_set (i := 1) nd rfl (.inl rfl) (pe_join pe_str (pe_lc (own := [("byte", 2)]) (g := gName 2) (by rfl) nd (pi_list (pv 0)) (blkOk_by (N := N_value_of) (sc := defScope s_value_of) (by decide +kernel)) (fun _ _ _ _ _ => (pg_name (i := 2) nd rfl (Or.inl rfl))) (fun _ _ _ _ _ => pts_nil) (fun _ _ _ _ _ => (pe_def D_sign_of_byte (hr.mono (by decide)) (pa_cons (pv 2) pa_nil))))))
        (pss_one (ps_if (pt_val (pe_def D_may_stand_plain (hr.mono (by decide)) (pa_cons (pv 1) pa_nil)))
          (pss_one (ps_ret (pv 1)))
          pss_nil)))
        pss_nil)
      (pss_one (ps_ret (pe_join pe_str (pe_lc (own := [("at", 3)]) (g := gName 3) (by rfl) nd (pi_range3 (by rfl) T.n_range (pa_cons pe_int (pa_cons (pe_callB (cLen K) (by rfl) T.n_len (by decide +kernel) (pa_cons (pv 0) pa_nil)) (pa_cons (pe_glob (v := .int 24) (by rfl) T.m_WORD_BYTES ⟨_, rfl⟩) pa_nil)))) (blkOk_by (N := N_value_of) (sc := defScope s_value_of) (by decide +kernel)) (fun _ _ _ _ _ => (pg_name (i := 3) nd rfl (Or.inl rfl))) (fun _ _ _ _ _ => pts_nil) (fun _ _ _ _ _ => (pe_def D_word_of (hr.mono (by decide)) (pa_cons (pe_slice (slL K) (pv 0) (po_some (pv 3)) (po_some (pe_op op_add (pv 3) (pe_glob (v := .int 24) (by rfl) T.m_WORD_BYTES ⟨_, rfl⟩)))) pa_nil)))))))))), ?_⟩
    exact ifT true (fun k q1 => notT false (fun k q2 => ⟨x, rfl, x, false, rfl, hb.is, fun H2 s2 => ⟨_, rfl, q2 _ s2⟩⟩) q1) (fun _ H1 s1 => ⟨_, rfl, fun d hd => r H1 d s1 hd⟩) (fun h => nomatch h)
/-- no value of a header -/
def BadV (K : PySem.W.Frag) (H : Hp) (x : V) : Prop := (∃ z : Str, x = .str z ∧ z.length ≤ 100000 ∧ isVal (TL.tl z) = false) ∨ NoStr K H x
def sp_bvX (K : PySem.W.Frag) (ca : Nat → Addr) : Sp := fun vs H Q E => ∃ x : V, vs = [x] ∧ BadV K H x ∧ Refuse H (ca 3) "badvalue" E
theorem ok_bvalueX {fH ccH cdaH fV fW fS f : Addr} {fdV fdW fdS fd : FuncData} (F : Fun K "bytes_of_value" "bytes_of_value" s_bytes_of_value f fd) (T : Tx mg tk) (W_BadValue : HeC P K mg "BadValue" (ca 3) (ca 0) fH ccH cdaH "badvalue") (D_is_value : Def P w K mg base "is_value" 2 fV fdV P_is_value (sp_value K)) (D_bytes_of_word : Def P w K mg base "bytes_of_word" 7 fW fdW P_bytes_of_word sp_bword)
    (D_bytes_of_signs : Def P w K mg base "bytes_of_signs" 1 fS fdS P_bytes_of_signs sp_bsigns) : FnOk P w K mg base (L2.CX P w) 8 f fd P_bytes_of_value (sp_bvX K ca) := by
  refine F.okX sc_bytes_of_value (fun vs H Q Ex h => ?_) (fun cdv A outer s H vs Q Ex hr h => ?_)
  · obtain ⟨x, rfl, _⟩ := h
    rfl
  · have nd := sc_bytes_of_value.nd
    obtain ⟨x, rfl, hb, r⟩ := h
    refine ⟨_, (pss_cons (ps_if (pt_not (pt_val (pe_def D_is_value (hr.mono (by decide)) (pa_cons (pv 0) pa_nil))))
        (pss_one (ps_raiseH rfl W_BadValue hr (takes_of rfl rfl rfl rfl) (by exact (pa_cons pe_str pa_nil))))
        pss_nil)
      (PSs.nox (pss_cons (ps_setLc (i := 1) (own := [("word", 2)]) (g := gName 2) (by rfl) nd rfl rfl (sw_true rfl rfl rfl (by decide +kernel)) (pi_list (pe_words (pv 0))) (blkOk_by (N := N_bytes_of_value) (sc := defScope s_bytes_of_value) (by decide +kernel)) (fun _ _ _ _ _ => (pg_name (i := 2) nd rfl (Or.inl rfl))) (fun _ _ _ _ _ => pts_nil) (fun _ _ _ _ _ => (pe_def D_bytes_of_word (hr.mono (by decide)) (pa_cons (pv 2) pa_nil))))
      (pss_cons (ps_if (pt_cmpR (inD K (LH.room65 hr)) pe_non (pv 1) (by rfl))
        (pss_one (ps_ret (pe_def D_bytes_of_signs (hr.mono (by decide)) (pa_cons (pv 0) pa_nil))))
        pss_nil)
      (pss_one (ps_ret (pe_lc2 (own := [("part", 3), ("byte", 4)]) (vs1 := [4]) (g := gName 3) (g1 := gName 4) (by rfl) nd (pi_list (pv 1)) (blkOk_by (N := N_bytes_of_value) (sc := defScope s_bytes_of_value) (by decide +kernel)) (by decide) (fun _ _ _ _ _ => (pg_name (i := 3) nd rfl (Or.inl rfl))) (fun _ _ _ _ _ => pts_nil) (fun _ _ _ _ _ => by exact (pi_listK K (pv 3))) (fun _ _ _ _ _ => (pg_name (i := 4) nd rfl (Or.inl rfl))) (fun _ _ _ _ _ => pts_nil) (fun _ _ _ _ _ => (pv 4))))))))), ?_⟩
    exact ifT true (fun k q1 => notT false (fun k q2 => ⟨x, rfl, x, rfl, by
      rcases hb with ⟨z, rfl, hz, hv⟩ | hb
      · exact .inl ⟨z, rfl, hz, fun H2 s2 => ⟨_, rfl, by rw [hv]; exact q2 _ s2⟩⟩
      · exact .inr ⟨hb, fun H2 s2 => ⟨_, rfl, q2 _ s2⟩⟩⟩) q1) (fun _ H1 s1 => ⟨_, rfl, fun d hd => r H1 d s1 hd⟩) (fun h => nomatch h)
theorem kw_BadBytes : kindWords [true, false, false, false, false, false, false, false, false, false, false, false, false, false, false, false, false, false, false] = [Str.ofString "bytes", Str.ofString "base"] := by decide +kernel
theorem kw_BadValue : kindWords [false, false, true, false, false, false, false, false, false, false, false, false, false, false, false, false, false, false, false] = [Str.ofString "value", Str.ofString "base"] := by decide +kernel
def sp_valA (K : PySem.W.Frag) (ca : Nat → Addr) : Sp := fun vs H Q E => sp_badX K ca vs H Q E ∨ sp_value_of vs H Q E
def sp_bvA (K : PySem.W.Frag) (ca : Nat → Addr) : Sp := fun vs H Q E => sp_bvX K ca vs H Q E ∨ sp_bvalue vs H Q E
/-! ### _law_told -/
abbrev s__law_told : Stmt := topS 76
abbrev N__law_told : List Str := ["_law_way", "_law_thing", "_law_refusal", "_law_found", "_law_e"]
abbrev P__law_told : List Str := ["_law_way", "_law_thing"]
theorem sc__law_told : FnScope N__law_told ["_law_way", "_law_thing"] (defScope s__law_told) := ⟨rfl, rfl, rfl, by decide +kernel, rfl, by decide +kernel, by decide +kernel⟩
def sp_told (K : PySem.W.Frag) : Sp := fun vs H Q _ => ∃ (i : Int) (x : V), vs = [.int i, x] ∧
  ((i = 0 ∧ (∀ H', Same H H' → BadB K H' x) ∧ New H ([Str.ofString "bytes", Str.ofString "base"].map V.str) Q) ∨ (i = 1 ∧ (∀ H', Same H H' → BadV K H' x) ∧ New H ([Str.ofString "value", Str.ofString "base"].map V.str) Q) ∨
  (i = 0 ∧ ∃ (a : Addr) (l : List Nat), x = .ref a ∧ H a = some (.lst (nb l)) ∧ BytesN l ∧ l.length ≤ 4000 ∧ ∀ z : Str, TL.tl z = valueL l → Tell H (.str z) Q) ∨ (i = 1 ∧ ∃ z : Str, x = .str z ∧ z.length ≤ 100000 ∧ isVal (TL.tl z) = true ∧ New H (valueV (TL.tl z)) Q))
theorem ok_told {fB fV fK f : Addr} {fdB fdV fdK fd : FuncData} (F : Fun K "_law_told" "_law_told" s__law_told f fd) (T : Tx mg tk) (E : Ex K mg ca) (D_value_of : DefX P w K mg base "value_of" 5 fV fdV P_value_of (sp_valA K ca)) (D_bytes_of_value : DefX P w K mg base "bytes_of_value" 8 fB fdB P_bytes_of_value (sp_bvA K ca))
    (D__law_kind : Def P w K mg base "_law_kind" 1 fK fdK P__law_kind (sp_kind K ca)) : FnOk P w K mg base CX0 9 f fd P__law_told (sp_told K) := by
  refine F.ok sc__law_told (fun vs H Q _ h => ?_) (fun cdv A outer s H vs Q _ hr h => ?_)
  · obtain ⟨i, x, rfl, _⟩ := h
    rfl
  · have nd := sc__law_told.nd
    obtain ⟨i, x, rfl, h⟩ := h
    refine ⟨_, (pss_cons (ps_set (i := 2) nd rfl (.inl rfl) pe_non)
      (pss_cons (ps_set (i := 3) nd rfl (.inl rfl) pe_non)
      (pss_cons (ps_try_hold (i := 4) rfl rfl rfl nd rfl rfl ⟨rfl, by decide, .inl E.m_HouseError⟩ (fun W pn xe tk _ => (pss_one (ps_set (i := 3) nd rfl (.inl rfl) (pe_callVX P w K mg base (k := 8) (hr.mono (by decide)) (pe_ix (ixL K) (pe_lst (pa_cons (pe_glob (v := .ref _) (by rfl) D_value_of.mg rfl) (pa_cons (pe_glob (v := .ref _) (by rfl) D_bytes_of_value.mg rfl) pa_nil))) (pv 0) (fun _ _ => rfl)) (fun σ => L2.passAt tk σ) (pa_cons (pv 1) pa_nil))))) (fun a oe pn => (pss_one (ps_set (i := 2) nd rfl (.inl rfl) (pv 4)))))
      (pss_cons (ps_if (pt_cmpR op_isN (pv 2) pe_non (nomark _))
        (pss_one (ps_ret (pv 3)))
        pss_nil)
      (pss_one (ps_ret (pe_def D__law_kind (hr.mono (by decide)) (pa_cons (pv 2) pa_nil)))))))), ?_⟩
    dsimp only [tSeq, tAsg, gName]
    have held : ∀ (H1 : Hp) (d a C : Addr) (kd : Str), H1 d = none → (upd H1 d (.xd (heFields kd))) a = none → HeldD (upd (upd H1 d (.xd (heFields kd))) a (ExH (.ref C) (some d) a)) C d a (heFields kd) := fun H1 d a C kd hd ha => by
      refine ⟨upd_same, ?_⟩
      have : d ≠ a := fun e => by
        rw [← e, upd_same] at ha
        exact nomatch ha
      rw [upd_ne this, upd_same]
    refine ⟨by show 2 ≤ sizeLine; rw [sizeLine_eq]; decide, fun p np => ?_⟩
    have s0 := same_upd (o := .lst [V.ref fV, V.ref fB]) np
    have g0 : upd H p (.lst [V.ref fV, V.ref fB]) p = _ := upd_same
    generalize upd H p (.lst [V.ref fV, V.ref fB]) = H0 at *
    have fV5 : FnVX P w K mg base 8 fV (sp_valA K ca) := FnVX.up (by decide) (FnVX.of D_value_of.ok D_value_of.kp D_value_of.bd)
    have fB8 : FnVX P w K mg base 8 fB (sp_bvA K ca) := FnVX.of D_bytes_of_value.ok D_bytes_of_value.kp D_bytes_of_value.bd
    rcases h with ⟨rfl, hb, q⟩ | ⟨rfl, hb, q⟩ | ⟨rfl, a0, l, rfl, ea, hB, hl, q⟩ | ⟨rfl, z, rfl, hz, hv, q⟩
    · refine ⟨.int 0, rfl, p, _, 0, .ref fV, rfl, rfl, .inl (.inl g0), rfl, fV, _, rfl, fV5, x, rfl, .inl ⟨x, rfl, hb _ s0, fun H1 d s1 hd => ⟨E.r_BadBytes.fits, fun a na => ⟨.ref a, rfl, fun n1 => ⟨.ref a, rfl, rfl, _, rfl, ?_⟩⟩⟩⟩⟩
      rw [decide_eq_false (fun h => nomatch h)]
      have s2 := (same_upd (o := .xd (heFields "badbytes")) hd).trans (same_upd (o := ExH (.ref (ca 1)) (some d) a) n1)
      refine iteF ⟨.ref a, rfl, a, ca 1, d, "badbytes", _, rfl, held H1 d a (ca 1) "badbytes" hd n1, E.r_BadBytes, E.t_BadBytes, rfl, fun H2 p2 s3 np2 e2 => ?_⟩
      rw [kw_BadBytes] at e2
      exact q H2 p2 ((s0.trans s1).trans (s2.trans s3)) (((s0.trans s1).trans s2).free np2) e2
    · refine ⟨.int 1, rfl, p, _, 1, .ref fB, rfl, rfl, .inl (.inl g0), rfl, fB, _, rfl, fB8, x, rfl, .inl ⟨x, rfl, hb _ s0, fun H1 d s1 hd => ⟨E.r_BadValue.fits, fun a na => ⟨.ref a, rfl, fun n1 => ⟨.ref a, rfl, rfl, _, rfl, ?_⟩⟩⟩⟩⟩
      rw [decide_eq_false (fun h => nomatch h)]
      have s2 := (same_upd (o := .xd (heFields "badvalue")) hd).trans (same_upd (o := ExH (.ref (ca 3)) (some d) a) n1)
      refine iteF ⟨.ref a, rfl, a, ca 3, d, "badvalue", _, rfl, held H1 d a (ca 3) "badvalue" hd n1, E.r_BadValue, E.t_BadValue, rfl, fun H2 p2 s3 np2 e2 => ?_⟩
      rw [kw_BadValue] at e2
      exact q H2 p2 ((s0.trans s1).trans (s2.trans s3)) (((s0.trans s1).trans s2).free np2) e2
    · refine ⟨.int 0, rfl, p, _, 0, .ref fV, rfl, rfl, .inl (.inl g0), rfl, fV, _, rfl, fV5, .ref a0, rfl, .inr ⟨a0, l, rfl, s0 _ _ ea, hB, hl, fun z hz H1 s1 => ?_⟩⟩
      exact ⟨.non, rfl, rfl, _, rfl, iteT ⟨_, rfl, q z hz H1 (s0.trans s1)⟩⟩
    · refine ⟨.int 1, rfl, p, _, 1, .ref fB, rfl, rfl, .inl (.inl g0), rfl, fB, _, rfl, fB8, .str z, rfl, .inr ⟨z, rfl, hz, hv, fun H1 r s1 nr er => ?_⟩⟩
      exact ⟨.non, rfl, rfl, _, rfl, iteT ⟨_, rfl, q H1 r (s0.trans s1) (s0.free nr) er⟩⟩
end
end K09

namespace K09
open PySem PySem.Spec PyProof.Rows L2 LH
section
variable {P : Program} {w : World} {K : PySem.W.Frag} {mg : Str → Option Value} {base : Heap} {tk : Nat → Tok} {ca : Nat → Addr}
/-! ### bits -/
def bitsN (n m : Nat) : List Nat := (List.range m).map fun k => n / 2 ^ (m - 1 - k) % 2
def numB (l : List Nat) : Nat := l.foldl (fun a b => 2 * a + b) 0
theorem bitsN_len (n m : Nat) : (bitsN n m).length = m := by unfold bitsN; rw [List.length_map, List.length_range]
/-! ### _law_sixty -/
abbrev s__law_sixty : Stmt := topS 64
abbrev N__law_sixty : List Str := []
abbrev P__law_sixty : List Str := []
theorem sc__law_sixty : FnScope N__law_sixty [] (defScope s__law_sixty) := ⟨rfl, rfl, rfl, by decide +kernel, rfl, by decide +kernel, by decide +kernel⟩
def sp_lsixty : Sp := fun vs H Q _ => vs = [] ∧ Q (.str S64) H
theorem ok_lsixty {f : Addr} {fd : FuncData} {k : Nat} (F : Fun K "_law_sixty" "_law_sixty" s__law_sixty f fd) : FnOk P w K mg base CX0 (k + 1) f fd P__law_sixty sp_lsixty := by
  refine F.ok sc__law_sixty (fun vs H Q E h => ?_) (fun cdv A outer s H vs Q E hr h => ?_)
  · obtain ⟨rfl, _⟩ := h
    rfl
  · have nd := sc__law_sixty.nd
    obtain ⟨rfl, q⟩ := h
    refine ⟨_, (pss_one (ps_ret pe_str)), ?_⟩
    exact q
/-! ### _law_bits -/
abbrev s__law_bits : Stmt := topS 65
abbrev N__law_bits : List Str := ["_law_number_here", "_law_many", "_law_k"]
abbrev P__law_bits : List Str := ["_law_number_here", "_law_many"]
theorem sc__law_bits : FnScope N__law_bits ["_law_number_here", "_law_many"] (defScope s__law_bits) := ⟨rfl, rfl, rfl, by decide +kernel, rfl, by decide +kernel, by decide +kernel⟩
theorem tab_at : ∀ j : Fin 8, ([V.int 1, .int 2, .int 4, .int 8, .int 16, .int 32, .int 64, .int 128] : List V)[j.val]? = some (.int ((2 ^ j.val : Nat) : Int)) := fun j => by
  obtain ⟨j, hj⟩ := j
  have : j = 0 ∨ j = 1 ∨ j = 2 ∨ j = 3 ∨ j = 4 ∨ j = 5 ∨ j = 6 ∨ j = 7 := by omega
  rcases this with rfl | rfl | rfl | rfl | rfl | rfl | rfl | rfl <;> rfl
def sp_lbits : Sp := fun vs H Q _ => ∃ n m : Nat, vs = [.int (n : Nat), .int (m : Nat)] ∧ m ≤ 8 ∧ New H (nb (bitsN n m)) Q
theorem ok_lbits {f : Addr} {fd : FuncData} {k : Nat} (F : Fun K "_law_bits" "_law_bits" s__law_bits f fd) (T : Tx mg tk) : FnOk P w K mg base CX0 (k + 1) f fd P__law_bits sp_lbits := by
  refine F.ok sc__law_bits (fun vs H Q E h => ?_) (fun cdv A outer s H vs Q E hr h => ?_)
  · obtain ⟨n, m, rfl, _⟩ := h
    rfl
  · have nd := sc__law_bits.nd
    obtain ⟨n, m, rfl, hm, q⟩ := h
    refine ⟨_, (pss_one (ps_ret (pe_lc (own := [("_law_k", 2)]) (g := gName 2) (by rfl) nd (pi_range1 (by rfl) T.n_range (pa_cons (pv 1) pa_nil)) (blkOk_by (N := N__law_bits) (sc := defScope s__law_bits) (by decide +kernel)) (fun _ _ _ _ _ => (pg_name (i := 2) nd rfl (Or.inl rfl))) (fun _ _ _ _ _ => pts_nil) (fun _ _ _ _ _ => (pe_op op_mod (pe_op op_fdiv (pv 0) (pe_ix (ixL K) (pe_lst (pa_cons pe_int (pa_cons pe_int (pa_cons pe_int (pa_cons pe_int (pa_cons pe_int (pa_cons pe_int (pa_cons pe_int (pa_cons pe_int pa_nil))))))))) (pe_op op_sub (pe_op op_sub (pv 1) pe_int) (pv 2)) (fun _ _ => rfl))) pe_int))))), ?_⟩
    refine ⟨_, rfl, m, rfl, by omega, by omega, fun D hD => lc_pure (n := m) (fun i => .int (0 + (i : Int))) (fun i => .int ((n / 2 ^ (m - 1 - i) % 2 : Nat) : Int)) walk_range (fun _ _ => trivial) hD (by rw [sizeLine_eq]; omega) (fun i H1 Q1 hi sm q1 => ?_) (fun H3 sm3 e => ?_)⟩
    · have ht := tab_at ⟨m - 1 - i, by omega⟩
      refine ⟨_, rfl, Nat.le_of_lt (small1000 (show 8 ≤ 1000 by decide)), fun p np => ⟨_, rfl, _, 1, rfl, rfl, _, rfl, _, _, rfl, rfl, p, _, _, .int ((2 ^ (m - 1 - i) : Nat) : Int), rfl, rfl, .inl (.inl upd_same), ?_, _, _, rfl, rfl, ?_, _, 2, rfl, rfl, (show (0 : Int) < 2 by decide), ?_⟩⟩
      · rw [show ((m : Nat) : Int) - 1 - (0 + (i : Int)) = ((m - 1 - i : Nat) : Int) by omega]
        exact atI_nat ht
      · have h1 : 0 < 2 ^ (m - 1 - i) := Nat.two_pow_pos _
        have h2 : 2 ^ (m - 1 - i) ≤ 2 ^ 8 := Nat.pow_le_pow_right (by decide) (by omega)
        exact ⟨by omega, by omega⟩
      · show Q1 (.int (((n : Nat) : Int) / ((2 ^ (m - 1 - i) : Nat) : Int) % 2)) _
        rw [show ((n : Nat) : Int) / ((2 ^ (m - 1 - i) : Nat) : Int) % 2 = ((n / 2 ^ (m - 1 - i) % 2 : Nat) : Int) by rw [Int.natCast_emod, Int.natCast_ediv]; rfl]
        exact q1 _ (same_upd np)
    · refine q H3 D sm3 hD ?_
      rw [e]
      unfold bitsN nb
      rw [List.map_map]
      rfl
/-! ### _law_number -/
abbrev s__law_number : Stmt := topS 66
abbrev N__law_number : List Str := ["_law_bits_here", "_law_found", "_law_bit"]
abbrev P__law_number : List Str := ["_law_bits_here"]
theorem sc__law_number : FnScope N__law_number ["_law_bits_here"] (defScope s__law_number) := ⟨rfl, rfl, rfl, by decide +kernel, rfl, by decide +kernel, by decide +kernel⟩
def sp_lnumber : Sp := fun vs H Q _ => ∃ (a : Addr) (l : List Nat), vs = [.ref a] ∧ H a = some (.lst (nb l)) ∧ Tell H (.int (numB l : Nat)) Q
theorem ok_lnumber {f : Addr} {fd : FuncData} {k : Nat} (F : Fun K "_law_number" "_law_number" s__law_number f fd) (T : Tx mg tk) : FnOk P w K mg base CX0 (k + 1) f fd P__law_number sp_lnumber := by
  refine F.ok sc__law_number (fun vs H Q E h => ?_) (fun cdv A outer s H vs Q E hr h => ?_)
  · obtain ⟨a, l, rfl, _⟩ := h
    rfl
  · have nd := sc__law_number.nd
    obtain ⟨a, l, rfl, hS, q⟩ := h
    refine ⟨_, (pss_cons (ps_set (i := 1) nd rfl (.inl rfl) pe_int)
      (pss_cons (ps_for PassesOwn.never rfl (pi_list (pv 0)) (pg_name (i := 2) nd rfl (Or.inl rfl))
        (pss_one (ps_set (i := 1) nd rfl (.inl rfl) (pe_op op_add (pe_op op_mul pe_int (pv 1)) (pv 2)))))
      (pss_one (ps_ret (pv 1))))), ?_⟩
    refine ⟨.ref a, rfl, a, rfl, ⟨_, .inl (.inl hS)⟩, for_it (walk_listF (xs := nb l)) (fun i σ H' => ∃ y2 : Option V, σ = [some (.ref a), some (.int (numB (l.take i) : Nat)), y2] ∧ Same H H') ⟨none, rfl, Same.refl _⟩ (fun i σ H' _ h => by obtain ⟨_, rfl, sm⟩ := h; exact .inl (.inl (sm _ _ hS))) (fun i x σ H1 H2 hi hP hy => ?_) (fun σ H1 hP => ?_)⟩
    · obtain ⟨y2, rfl, sm⟩ := hP
      obtain ⟨rfl, rfl⟩ := hy
      rw [nb_len] at hi
      dsimp only [gName]
      rw [nb_at l hi]
      have htk : l.take (i + 1) = l.take i ++ [l.getD i 0] := by
        rw [List.take_add_one, List.getElem?_eq_getElem hi, List.getD_eq_getElem?_getD, List.getElem?_eq_getElem hi]
        rfl
      have e : numB (l.take (i + 1)) = 2 * numB (l.take i) + l.getD i 0 := by
        rw [htk]
        unfold numB
        rw [List.foldl_append]
        rfl
      rw [e]
      refine ⟨_, rfl, 2, _, rfl, rfl, .inl (by decide), _, rfl, _, _, rfl, rfl, some (.int (l.getD i 0 : Nat)), ?_, sm⟩
      show [_, some (V.int (2 * ((numB (l.take i) : Nat) : Int) + (l.getD i 0 : Nat))), _] = _
      rw [show 2 * ((numB (l.take i) : Nat) : Int) + (l.getD i 0 : Nat) = ((2 * numB (l.take i) + l.getD i 0 : Nat) : Int) by omega]
    · obtain ⟨y2, rfl, sm⟩ := hP
      rw [nb_len, List.take_length]
      exact ⟨_, rfl, q _ sm⟩
end
end K09

namespace K09
open PySem PySem.Spec PyProof.Rows L2 LH
/-! ### the law's look at beginnings -/
def leftM (b : List Nat) : Nat := if b.length % 4 = 2 then 16 else if b.length % 4 = 3 then 4 else 1
def All64 (b : List Nat) : Prop := ∀ x ∈ b, in64 x = true
theorem in64_no {c : Nat} (h : in64 c = true) : c < 128 ∧ c ≠ 61 := s64_low c (of_decide_eq_true h)
theorem all64_last {b : List Nat} (h : All64 b) (hne : b ≠ []) : in64 (lastN b) = true := h _ (List.mem_of_getLast? (last_at hne).1)
theorem all64_no61 {b : List Nat} (h : All64 b) : b.getLast? ≠ some 61 := fun e => (in64_no (h _ (List.mem_of_getLast? e))).2 rfl
theorem all64_mem {b : List Nat} (h : All64 b) : 61 ∉ b := fun e => (in64_no (h _ e)).2 rfl
theorem cutS_one {z : Str} (hne : TL.tl z ≠ []) : cutS z (some (-1)) none = ⟨#[lastN (TL.tl z)]⟩ := by
  refine TL.ext_tl ?_
  rw [cutS_last]
  exact (drop_last_eq _ _).mpr (last_at hne).1
theorem or_false_iff' {a b : Bool} : (a || b) = false ↔ a = false ∧ b = false := by cases a <;> cases b <;> simp
theorem in_ways : ∀ m n : Nat, m < 4 → 1 ≤ n → n ≤ 3 → (([.tuple [.int 2, .int 1], .tuple [.int 2, .int 2], .tuple [.int 3, .int 1]] : List PyData).any fun z => PyData.eqv z (.tuple [.int ((m : Nat) : Int), .int ((n : Nat) : Int)])) = (decide (m = 2 ∧ n ≤ 2) || decide (m = 3 ∧ n = 1)) := fun m n hm h1 h3 => by
  have hm' : m = 0 ∨ m = 1 ∨ m = 2 ∨ m = 3 := by omega
  have : n = 1 ∨ n = 2 ∨ n = 3 := by omega
  rcases hm' with rfl | rfl | rfl | rfl <;> rcases this with rfl | rfl | rfl <;> decide +kernel
/-- signs that may all stand -/
def Val64 (b : List Nat) (k : Nat) : Prop := All64 b ∧ b.length + k ≤ 60 ∧ (k = 0 ∨ (b.length % 4 = 2 ∧ k ≤ 2 ∧ b64 (lastN b) % 16 = 0) ∨ (b.length % 4 = 3 ∧ k = 1 ∧ b64 (lastN b) % 4 = 0))
/-! ### the law's first wrong sign -/
theorem rep_last {b : List Nat} {k : Nat} (h : 0 < k) : (b ++ List.replicate k 61).getLast? = some 61 := by
  obtain ⟨j, rfl⟩ : ∃ j, k = j + 1 := ⟨k - 1, by omega⟩
  rw [List.replicate_succ', ← List.append_assoc, List.getLast?_concat]
theorem rep_len (b : List Nat) (k : Nat) : (b ++ List.replicate k 61).length = b.length + k := by simp
theorem b64_61 : b64 61 = 0 := by decide +kernel
/-- what may stand behind good signs makes good signs -/
theorem val_step {b : List Nat} {k c : Nat} (h : Val64 b k) (hs : standB c (b ++ List.replicate k 61) = true) : ∃ b' k', b ++ List.replicate k 61 ++ [c] = b' ++ List.replicate k' 61 ∧ Val64 b' k' := by
  obtain ⟨hA, hl, hk⟩ := h
  unfold standB at hs
  rw [rep_len] at hs
  by_cases h60 : b.length + k = 60
  · rw [if_pos h60] at hs; exact nomatch hs
  rw [if_neg h60] at hs
  by_cases h61 : c = 61
  · rw [if_pos h61] at hs
    refine ⟨b, k + 1, by rw [h61, List.append_assoc, List.replicate_succ'], hA, by omega, ?_⟩
    unfold fillB at hs
    rw [rep_len] at hs
    rcases hk with rfl | ⟨h1, h2, h3⟩ | ⟨h1, h2, h3⟩
    · rw [List.replicate_zero, List.append_nil, Nat.add_zero] at hs
      by_cases h2 : b.length % 4 = 2
      · rw [if_pos h2] at hs
        exact .inr (.inl ⟨h2, by decide, of_decide_eq_true hs⟩)
      · rw [if_neg h2] at hs
        by_cases h3 : b.length % 4 = 3
        · rw [if_pos h3] at hs
          exact .inr (.inr ⟨h3, rfl, of_decide_eq_true hs⟩)
        · rw [if_neg h3] at hs; exact nomatch hs
    · refine .inr (.inl ⟨h1, ?_, h3⟩)
      rcases (show k ≤ 1 ∨ k = 2 by omega) with h | h
      · omega
      · rw [h, if_neg (by omega), if_neg (by omega)] at hs; exact nomatch hs
    · rw [h2, if_neg (by omega), if_neg (by omega)] at hs; exact nomatch hs
  · rw [if_neg h61, Bool.and_eq_true] at hs
    have hk0 : k = 0 := by
      rcases Nat.eq_zero_or_pos k with h | h
      · exact h
      · have := hs.2
        rw [rep_last h] at this
        simp at this
    subst hk0
    refine ⟨b ++ [c], 0, by simp, fun x hx => ?_, by rw [List.length_append]; show b.length + 1 + 0 ≤ 60; omega, .inl rfl⟩
    rcases List.mem_append.mp hx with h | h
    · exact hA x h
    · rw [List.mem_singleton.mp h]; exact hs.1
/-- rows' ends, as the law says it -/
theorem end_flag {b : List Nat} {k : Nat} (h : Val64 b k) (l : Bool) : (decide (b ++ List.replicate k 61 = []) || (decide (0 < (b ++ List.replicate k 61).length % 4) || (!l && (decide ((b ++ List.replicate k 61).length < 60) || decide (61 ∈ b ++ List.replicate k 61))))) = !endB (b ++ List.replicate k 61) l := by
  obtain ⟨hA, hl, hk⟩ := h
  have hmem : decide (61 ∈ b ++ List.replicate k 61) = decide ((b ++ List.replicate k 61).getLast? = some 61) := by
    rcases Nat.eq_zero_or_pos k with h | h
    · subst h
      rw [List.replicate_zero, List.append_nil, decide_eq_false (all64_mem hA), decide_eq_false (all64_no61 hA)]
    · rw [rep_last h, decide_eq_true rfl]
      exact decide_eq_true (List.mem_append_right _ (List.mem_replicate.mpr ⟨by omega, rfl⟩))
  rw [hmem]
  have hnil : decide (b ++ List.replicate k 61 = []) = decide ((b ++ List.replicate k 61).length = 0) := decide_eq_decide.mpr List.length_eq_zero_iff.symm
  rw [hnil, rep_len]
  unfold endB
  rw [rep_len]
  generalize decide ((b ++ List.replicate k 61).getLast? = some 61) = e
  generalize hn : b.length + k = n at *
  have hn4 : (n = 0 ∨ 0 < n) := by omega
  cases l
  · by_cases h60 : n = 60
    · subst h60; cases e <;> rfl
    · have h1 : decide (n = 60) = false := decide_eq_false h60
      have h2 : decide (n < 60) = true := decide_eq_true (by omega)
      rw [h1, h2]
      cases e <;> simp
  · rcases hn4 with h | h
    · subst h; rfl
    · have h1 : decide (n = 0) = false := decide_eq_false (by omega)
      have h2 : decide (0 < n) = true := decide_eq_true h
      have h3 : decide (0 < n % 4) = !decide (n % 4 = 0) := by
        rw [Bool.eq_iff_iff]
        simp
        omega
      rw [h1, h2, h3]
      simp
/-! ### the law's reading: bits of the signs, eight by eight -/
def eights (l : List Nat) : List Nat := (List.range (l.length / 8)).map fun i => numB ((l.drop (8 * i)).take 8)
theorem eights_cons (x y : List Nat) (h : x.length = 8) : eights (x ++ y) = numB x :: eights y := by
  unfold eights
  rw [List.length_append, h, show (8 + y.length) / 8 = y.length / 8 + 1 by omega, List.range_succ_eq_map, List.map_cons, List.map_map]
  congr 1
  · rw [Nat.mul_zero, List.drop_zero, List.take_left' h]
  · refine List.map_congr_left fun i _ => ?_
    show numB (((x ++ y).drop (8 * (i + 1))).take 8) = _
    rw [show 8 * (i + 1) = x.length + 8 * i by omega, ← List.drop_drop, List.drop_left]
theorem eights_small {l : List Nat} (h : l.length < 8) : eights l = [] := by
  unfold eights
  rw [Nat.div_eq_of_lt h]
  rfl
def bits6 (b : List Nat) : List Nat := (b.map fun c => bitsN (b64 c) 6).flatten
theorem six (n : Nat) : bitsN n 6 = [n / 32 % 2, n / 16 % 2, n / 8 % 2, n / 4 % 2, n / 2 % 2, n / 1 % 2] := rfl
theorem bits6_len (b : List Nat) : (bits6 b).length = 6 * b.length := by
  unfold bits6
  induction b with
  | nil => rfl
  | cons c r ih => rw [List.map_cons, List.flatten_cons, List.length_append, ih, bitsN_len, List.length_cons]; omega
theorem eights_two (c0 c1 : Nat) : eights (bits6 [c0, c1]) = [val64 [c0, c1, 61, 61] / 65536] := by
  have h0 := b64_lt c0
  have h1 := b64_lt c1
  unfold bits6 val64
  simp only [List.map_cons, List.map_nil, List.flatten_cons, List.flatten_nil, six, List.foldl_cons, List.foldl_nil, b64_61, List.cons_append, List.nil_append]
  generalize b64 c0 = a at *
  generalize b64 c1 = b at *
  rw [show ([a / 32 % 2, a / 16 % 2, a / 8 % 2, a / 4 % 2, a / 2 % 2, a / 1 % 2, b / 32 % 2, b / 16 % 2, b / 8 % 2, b / 4 % 2, b / 2 % 2, b / 1 % 2] : List Nat) = [a / 32 % 2, a / 16 % 2, a / 8 % 2, a / 4 % 2, a / 2 % 2, a / 1 % 2, b / 32 % 2, b / 16 % 2] ++ [b / 8 % 2, b / 4 % 2, b / 2 % 2, b / 1 % 2] from rfl, eights_cons _ _ rfl, eights_small (by show 4 < 8; decide)]
  unfold numB
  simp only [List.foldl_cons, List.foldl_nil]
  congr 1
  omega
theorem eights_three (c0 c1 c2 : Nat) : eights (bits6 [c0, c1, c2]) = [val64 [c0, c1, c2, 61] / 65536, val64 [c0, c1, c2, 61] / 256 % 256] := by
  have h0 := b64_lt c0
  have h1 := b64_lt c1
  have h2 := b64_lt c2
  unfold bits6 val64
  simp only [List.map_cons, List.map_nil, List.flatten_cons, List.flatten_nil, six, List.foldl_cons, List.foldl_nil, b64_61, List.cons_append, List.nil_append]
  generalize b64 c0 = a at *
  generalize b64 c1 = b at *
  generalize b64 c2 = c at *
  rw [show ([a / 32 % 2, a / 16 % 2, a / 8 % 2, a / 4 % 2, a / 2 % 2, a / 1 % 2, b / 32 % 2, b / 16 % 2, b / 8 % 2, b / 4 % 2, b / 2 % 2, b / 1 % 2, c / 32 % 2, c / 16 % 2, c / 8 % 2, c / 4 % 2, c / 2 % 2, c / 1 % 2] : List Nat) = [a / 32 % 2, a / 16 % 2, a / 8 % 2, a / 4 % 2, a / 2 % 2, a / 1 % 2, b / 32 % 2, b / 16 % 2] ++ ([b / 8 % 2, b / 4 % 2, b / 2 % 2, b / 1 % 2, c / 32 % 2, c / 16 % 2, c / 8 % 2, c / 4 % 2] ++ [c / 2 % 2, c / 1 % 2]) from rfl, eights_cons _ _ rfl, eights_cons _ _ rfl, eights_small (by show 2 < 8; decide)]
  unfold numB
  simp only [List.foldl_cons, List.foldl_nil]
  congr 1
  · omega
  · congr 1
    omega
theorem eights_four (c0 c1 c2 c3 : Nat) (r : List Nat) : eights (bits6 (c0 :: c1 :: c2 :: c3 :: r)) = val64 [c0, c1, c2, c3] / 65536 :: val64 [c0, c1, c2, c3] / 256 % 256 :: val64 [c0, c1, c2, c3] % 256 :: eights (bits6 r) := by
  have h0 := b64_lt c0
  have h1 := b64_lt c1
  have h2 := b64_lt c2
  have h3 := b64_lt c3
  have e : bits6 (c0 :: c1 :: c2 :: c3 :: r) = bitsN (b64 c0) 6 ++ (bitsN (b64 c1) 6 ++ (bitsN (b64 c2) 6 ++ (bitsN (b64 c3) 6 ++ bits6 r))) := rfl
  rw [e]
  unfold val64
  simp only [six, List.foldl_cons, List.foldl_nil]
  generalize bits6 r = y
  generalize b64 c0 = a at *
  generalize b64 c1 = b at *
  generalize b64 c2 = c at *
  generalize b64 c3 = d at *
  rw [show ([a / 32 % 2, a / 16 % 2, a / 8 % 2, a / 4 % 2, a / 2 % 2, a / 1 % 2] ++ ([b / 32 % 2, b / 16 % 2, b / 8 % 2, b / 4 % 2, b / 2 % 2, b / 1 % 2] ++ ([c / 32 % 2, c / 16 % 2, c / 8 % 2, c / 4 % 2, c / 2 % 2, c / 1 % 2] ++ ([d / 32 % 2, d / 16 % 2, d / 8 % 2, d / 4 % 2, d / 2 % 2, d / 1 % 2] ++ y))) : List Nat) = [a / 32 % 2, a / 16 % 2, a / 8 % 2, a / 4 % 2, a / 2 % 2, a / 1 % 2, b / 32 % 2, b / 16 % 2] ++ ([b / 8 % 2, b / 4 % 2, b / 2 % 2, b / 1 % 2, c / 32 % 2, c / 16 % 2, c / 8 % 2, c / 4 % 2] ++ ([c / 2 % 2, c / 1 % 2, d / 32 % 2, d / 16 % 2, d / 8 % 2, d / 4 % 2, d / 2 % 2, d / 1 % 2] ++ y)) from rfl, eights_cons _ _ rfl, eights_cons _ _ rfl, eights_cons _ _ rfl]
  unfold numB
  simp only [List.foldl_cons, List.foldl_nil]
  congr 1
  · omega
  · congr 1
    · omega
    · congr 1
      omega
/-- the shape of whole rows: signs, then what fills them up -/
def Shape64 (b : List Nat) (k : Nat) : Prop := (k = 0 ∧ b.length % 4 = 0) ∨ (k = 1 ∧ b.length % 4 = 3) ∨ (k = 2 ∧ b.length % 4 = 2)
theorem fours : ∀ (b : List Nat) (k : Nat), All64 b → Shape64 b k → ((chunks 4 (b ++ List.replicate k 61)).map fourV).flatten = nb (eights (bits6 b))
  | [], k, hA, h => by
    have : k = 0 := by
      unfold Shape64 at h
      rw [List.length_nil] at h
      omega
    subst this
    rfl
  | [c], k, hA, h => by
    unfold Shape64 at h
    rw [show ([c] : List Nat).length = 1 from rfl] at h
    omega
  | [c0, c1], k, hA, h => by
    have : k = 2 := by
      unfold Shape64 at h
      rw [show ([c0, c1] : List Nat).length = 2 from rfl] at h
      omega
    subst this
    have hc : ([c0, c1, 61, 61] : List Nat).count 61 = 2 := by
      have h0 := (in64_no (hA c0 (by simp))).2
      have h1 := (in64_no (hA c1 (by simp))).2
      simp [List.count_cons, h0, h1]
    show ((chunks 4 [c0, c1, 61, 61]).map fourV).flatten = _
    rw [chunks_cons (by decide) (by simp), show ([c0, c1, 61, 61] : List Nat).drop 4 = [] from rfl, show ([c0, c1, 61, 61] : List Nat).take 4 = [c0, c1, 61, 61] from rfl, chunks_nil (by decide), eights_two]
    unfold fourV
    rw [List.map_cons, hc]
    rw [show (3 : Int) - ((2 : Nat) : Int) = ((1 : Nat) : Int) by decide, cutV_to]
    rfl
  | [c0, c1, c2], k, hA, h => by
    have : k = 1 := by
      unfold Shape64 at h
      rw [show ([c0, c1, c2] : List Nat).length = 3 from rfl] at h
      omega
    subst this
    have hc : ([c0, c1, c2, 61] : List Nat).count 61 = 1 := by
      have h0 := (in64_no (hA c0 (by simp))).2
      have h1 := (in64_no (hA c1 (by simp))).2
      have h2 := (in64_no (hA c2 (by simp))).2
      simp [List.count_cons, h0, h1, h2]
    show ((chunks 4 [c0, c1, c2, 61]).map fourV).flatten = _
    rw [chunks_cons (by decide) (by simp), show ([c0, c1, c2, 61] : List Nat).drop 4 = [] from rfl, show ([c0, c1, c2, 61] : List Nat).take 4 = [c0, c1, c2, 61] from rfl, chunks_nil (by decide), eights_three]
    unfold fourV
    rw [List.map_cons, hc]
    rw [show (3 : Int) - ((1 : Nat) : Int) = ((2 : Nat) : Int) by decide, cutV_to]
    rfl
  | c0 :: c1 :: c2 :: c3 :: r, k, hA, h => by
    have hr := fours r k (fun x hx => hA x (by simp [hx])) (by
      unfold Shape64 at *
      simp only [List.length_cons] at h
      omega)
    have hc : ([c0, c1, c2, c3] : List Nat).count 61 = 0 := by
      have h0 := (in64_no (hA c0 (by simp))).2
      have h1 := (in64_no (hA c1 (by simp))).2
      have h2 := (in64_no (hA c2 (by simp))).2
      have h3 := (in64_no (hA c3 (by simp))).2
      simp [List.count_cons, h0, h1, h2, h3]
    show ((chunks 4 (c0 :: c1 :: c2 :: c3 :: (r ++ List.replicate k 61))).map fourV).flatten = _
    rw [chunks_cons (by decide) (by simp), show (c0 :: c1 :: c2 :: c3 :: (r ++ List.replicate k 61)).drop 4 = r ++ List.replicate k 61 from rfl, show (c0 :: c1 :: c2 :: c3 :: (r ++ List.replicate k 61)).take 4 = [c0, c1, c2, c3] from rfl, List.map_cons, List.flatten_cons, hr, eights_four]
    unfold fourV
    rw [hc]
    rw [show (3 : Int) - ((0 : Nat) : Int) = ((3 : Nat) : Int) by decide, cutV_to]
    rfl
/-- good signs make such a row -/
theorem goodF_val : ∀ (r b : List Nat) (k : Nat), Val64 b k → goodF standB (b ++ List.replicate k 61) r = r.length → ∃ b' k', b ++ List.replicate k 61 ++ r = b' ++ List.replicate k' 61 ∧ Val64 b' k'
  | [], b, k, h, _ => ⟨b, k, by simp, h⟩
  | c :: r, b, k, h, hg => by
    rw [goodF] at hg
    have hs : standB c (b ++ List.replicate k 61) = true := by
      by_cases hh : standB c (b ++ List.replicate k 61) = true
      · exact hh
      · rw [if_neg hh, List.length_cons] at hg; omega
    rw [if_pos hs, List.length_cons] at hg
    obtain ⟨b1, k1, e1, h1⟩ := val_step h hs
    rw [e1] at hg
    obtain ⟨b2, k2, e2, h2⟩ := goodF_val r b1 k1 h1 (by omega)
    refine ⟨b2, k2, ?_, h2⟩
    rw [← e2, ← e1]
    simp
theorem rows_shape : ∀ (R : List Str) (n : Nat), wrongF standB endB n R = none → ∃ b k, textR R = b ++ List.replicate k 61 ∧ All64 b ∧ b.length + k ≤ 60 * R.length ∧ Shape64 b k
  | [], n, h => ⟨[], 0, rfl, (fun _ h => nomatch h), by simp, .inl ⟨rfl, rfl⟩⟩
  | r :: R, n, h => by
    rw [wrongF] at h
    split at h
    · exact nomatch h
    rename_i hg
    have hg1 := goodF_le standB (TL.tl r) []
    have hg2 : goodF standB [] (TL.tl r) = (TL.tl r).length := by
      rcases Nat.lt_or_ge (goodF standB [] (TL.tl r)) (TL.tl r).length with h | h
      · exact absurd (Or.inl h) hg
      · omega
    have he : endB (TL.tl r) (decide (R = [])) = true := by
      cases hh : endB (TL.tl r) (decide (R = []))
      · exact absurd (Or.inr hh) hg
      · rfl
    obtain ⟨b, k, e, hV⟩ := goodF_val (TL.tl r) [] 0 ⟨(fun _ h => nomatch h), by decide, .inl rfl⟩ hg2
    have e : TL.tl r = b ++ List.replicate k 61 := e
    have eT : textR (r :: R) = TL.tl r ++ textR R := rfl
    obtain ⟨hA, hl, hk⟩ := hV
    unfold endB at he
    rw [e, rep_len] at he
    cases R with
    | nil =>
      rw [decide_eq_true rfl, if_pos rfl, Bool.and_eq_true, decide_eq_true_eq, decide_eq_true_eq] at he
      refine ⟨b, k, by rw [eT, e]; exact List.append_nil _, hA, by simp; omega, ?_⟩
      unfold Shape64
      omega
    | cons r2 R2 =>
      rw [decide_eq_false (by simp), if_neg (by simp), Bool.and_eq_true, decide_eq_true_eq] at he
      have hk0 : k = 0 := by
        rcases Nat.eq_zero_or_pos k with h | h
        · exact h
        · have := he.2
          rw [rep_last h] at this
          simp at this
      subst hk0
      obtain ⟨b2, k2, e2, hA2, hl2, hs2⟩ := rows_shape (r2 :: R2) (n + 1) h
      refine ⟨b ++ b2, k2, by rw [eT, e, e2]; simp, fun x hx => (List.mem_append.mp hx).elim (hA x) (hA2 x), ?_, ?_⟩
      · rw [List.length_append, List.length_cons]
        omega
      · have := he.1
        unfold Shape64 at *
        rw [List.length_append]
        omega
theorem bytes_read {R : List Str} (h : wrongF standB endB 0 R = none) {b : List Nat} {k : Nat} (e : textR R = b ++ List.replicate k 61) (hA : All64 b) (hs : Shape64 b k) : bytes64 R = nb (eights (bits6 b)) := by
  unfold bytes64
  rw [e]
  exact fours b k hA hs
theorem rg8 (n : Nat) (h : n < 2 ^ 30) : RgC 0 ((n : Int) - 7) 8 (n / 8) := by
  rcases Nat.lt_or_ge n 7 with h7 | h7
  · have : n = 0 ∨ n = 1 ∨ n = 2 ∨ n = 3 ∨ n = 4 ∨ n = 5 ∨ n = 6 := by omega
    rcases this with rfl | rfl | rfl | rfl | rfl | rfl | rfl <;> exact ⟨by decide, by decide, by decide +kernel, by decide +kernel⟩
  · have := rgC (n - 7) 8 (by decide) (by decide) (by omega)
    rw [show ((n - 7 : Nat) : Int) = (n : Int) - 7 by omega, show (n - 7 + (8 - 1)) / 8 = n / 8 by omega] at this
    exact this
theorem nb_cut (l : List Nat) (i : Nat) : cutV (nb l) (some (0 + ((i : Nat) : Int) * 8)) (some (0 + ((i : Nat) : Int) * 8 + 8)) = nb ((l.drop (8 * i)).take 8) := by
  rw [show (0 : Int) + ((i : Nat) : Int) * 8 = ((8 * i : Nat) : Int) by omega, show ((8 * i : Nat) : Int) + 8 = ((8 * i + 8 : Nat) : Int) by omega, cutV_at, Nat.add_sub_cancel_left]
  unfold nb
  rw [List.map_take, List.map_drop]
end K09

namespace K09
open PySem PySem.Spec PyProof.Rows L2 LH
/-! ### the law's own sixty-four signs of bytes -/
theorem nb_app (a b : List Nat) : nb (a ++ b) = nb a ++ nb b := by unfold nb; rw [List.map_append]
theorem nb_zeros (n : Nat) : (List.replicate n [V.int 0]).flatten = nb (List.replicate n 0) := by
  induction n with
  | zero => rfl
  | succ n ih => rw [List.replicate_succ, List.replicate_succ, List.flatten_cons, ih]; rfl
theorem sum_len' (ys : List Str) : (ys.map (·.length)).sum = ((ys.map TL.tl).flatten).length := sum_len ys
def lbits (bs : List Nat) : List Nat := (bs.map fun b => bitsN b 8).flatten
def padded (bs : List Nat) : List Nat := lbits bs ++ List.replicate ((-((lbits bs).length : Int)) % 6).toNat 0
def sgnM (n : Nat) : Nat := (TL.tl S64).getD n 0
def lt0 (bs : List Nat) : List Nat := (chunks 6 (padded bs)).map fun c => sgnM (numB c)
def ltext (bs : List Nat) : List Nat := lt0 bs ++ List.replicate ((-((lt0 bs).length : Int)) % 4).toNat 61
theorem lbits_len : ∀ bs : List Nat, (lbits bs).length = 8 * bs.length := fun bs => by
  unfold lbits
  induction bs with
  | nil => rfl
  | cons c r ih => rw [List.map_cons, List.flatten_cons, List.length_append, ih, bitsN_len, List.length_cons]; omega
theorem padded_len (bs : List Nat) : (padded bs).length ≤ 8 * bs.length + 5 := by
  unfold padded
  rw [List.length_append, List.length_replicate, lbits_len]
  omega
theorem lt0_len (bs : List Nat) : (lt0 bs).length ≤ 8 * bs.length + 5 := by
  unfold lt0
  rw [List.length_map, chunks_len]
  have := padded_len bs
  omega
theorem ltext_len (bs : List Nat) : (ltext bs).length ≤ 8 * bs.length + 8 := by
  unfold ltext
  rw [List.length_append, List.length_replicate]
  have := lt0_len bs
  omega
def Bits01 (l : List Nat) : Prop := ∀ b ∈ l, b < 2
theorem bitsN_01 (n m : Nat) : Bits01 (bitsN n m) := fun b hb => by
  unfold bitsN at hb
  obtain ⟨k, _, rfl⟩ := List.mem_map.mp hb
  exact Nat.mod_lt _ (by decide)
theorem padded_01 (bs : List Nat) : Bits01 (padded bs) := fun b hb => by
  unfold padded lbits at hb
  rcases List.mem_append.mp hb with h | h
  · obtain ⟨l, hl, hb⟩ := List.mem_flatten.mp h
    obtain ⟨x, _, rfl⟩ := List.mem_map.mp hl
    exact bitsN_01 _ _ b hb
  · rw [(List.mem_replicate.mp h).2]; decide
theorem numB_snoc (l : List Nat) (b : Nat) : numB (l ++ [b]) = 2 * numB l + b := by
  unfold numB
  rw [List.foldl_append]
  rfl
theorem numB_gen : ∀ (l : List Nat) (n : Nat), Bits01 l → l.foldl (fun a b => 2 * a + b) n < (n + 1) * 2 ^ l.length
  | [], n, _ => by simp
  | c :: r, n, h => by
    have h1 := numB_gen r (2 * n + c) (fun x hx => h x (by simp [hx]))
    have h2 := h c (by simp)
    rw [List.foldl_cons, List.length_cons, Nat.pow_succ]
    refine Nat.lt_of_lt_of_le h1 ?_
    rw [show (n + 1) * (2 ^ r.length * 2) = ((n + 1) * 2) * 2 ^ r.length by rw [Nat.mul_comm (2 ^ r.length) 2, Nat.mul_assoc]]
    exact Nat.mul_le_mul_right _ (by omega)
theorem numB_lt64 (l : List Nat) (h : Bits01 l) (hl : l.length ≤ 6) : numB l < 64 := by
  have := numB_gen l 0 h
  rw [Nat.zero_add, Nat.one_mul] at this
  exact Nat.lt_of_lt_of_le this (Nat.le_trans (Nat.pow_le_pow_right (by decide) hl) (by decide))
theorem sgn_atM {n : Nat} (h : n < 64) : atI (TL.tl S64) (n : Int) = some (sgnM n) := by
  have h' : n < (TL.tl S64).length := by rw [s64_len]; exact h
  refine atI_nat ?_
  unfold sgnM
  rw [List.getD_eq_getElem?_getD, List.getElem?_eq_getElem h']
  rfl
theorem tl_rep_eqM (k : Int) : TL.tl (repS (Str.ofString "=") k) = List.replicate k.toNat 61 := by
  show (List.replicate k.toNat (TL.tl (Str.ofString "="))).flatten = _
  rw [show TL.tl (Str.ofString "=") = [61] by decide +kernel]
  generalize k.toNat = n
  induction n with
  | zero => rfl
  | succ n ih => rw [List.replicate_succ, List.flatten_cons, ih, List.replicate_succ]; rfl
def rowsSM (t : List Nat) : List Str := (chunks 60 t).map fun l => ⟨l.toArray⟩
def rowsVM (t : List Nat) : List V := (rowsSM t).map V.str
theorem rowsV_nil : rowsVM [] = [] := by
  unfold rowsVM rowsSM
  rw [chunks_nil (by decide)]
  rfl
theorem rowsV_cons {t : List Nat} (h : t ≠ []) : rowsVM t = .str ⟨(t.take 60).toArray⟩ :: rowsVM (t.drop 60) := by
  unfold rowsVM rowsSM
  rw [chunks_cons (by decide) h]
  rfl
theorem rowsV_len (t : List Nat) : (rowsVM t).length ≤ t.length := by
  unfold rowsVM rowsSM
  rw [List.length_map, List.length_map, chunks_len]
  omega
theorem lbits_snoc (l : List Nat) (b : Nat) : lbits (l ++ [b]) = lbits l ++ bitsN b 8 := by
  unfold lbits
  simp
/-- the length of the text in slot i -/
def lenAt (i : Nat) (σ : L2.St) : Nat := match σ[i]? with
  | some (some (.str z)) => z.length
  | _ => 0
/-! ### the law's own rows are good, and read back they are the bytes -/
theorem chunks_flatM {α : Type} {k : Nat} (hk : 0 < k) : ∀ (n : Nat) (t : List α), t.length ≤ n → (chunks k t).flatten = t
  | n, [], _ => by rw [chunks_nil hk]; rfl
  | 0, x :: t, h => by simp at h
  | n + 1, x :: t, h => by
    rw [chunks_cons hk (by simp), List.flatten_cons, chunks_flatM hk n _ (by rw [List.length_drop]; rw [List.length_cons] at h ⊢; omega), List.take_append_drop]
theorem textR_rowsM (t : List Nat) : textR (rowsSM t) = t := by
  unfold textR rowsSM
  rw [List.map_map]
  have : ((fun z => TL.tl z) ∘ fun l : List Nat => (⟨l.toArray⟩ : Str)) = id := rfl
  rw [show (TL.tl ∘ fun l : List Nat => (⟨l.toArray⟩ : Str)) = id from rfl, List.map_id, chunks_flatM (by decide) t.length t (Nat.le_refl _)]
theorem b64_sgn : ∀ n : Fin 64, b64 (sgnM n.val) = n.val ∧ in64 (sgnM n.val) = true := by decide +kernel
theorem lt0_64 (bs : List Nat) : All64 (lt0 bs) := fun x hx => by
  unfold lt0 at hx
  obtain ⟨c, hc, rfl⟩ := List.mem_map.mp hx
  unfold chunks at hc
  obtain ⟨i, _, rfl⟩ := List.mem_map.mp hc
  have hn := numB_lt64 (((padded bs).drop (i * 6)).take 6) (fun x hx => padded_01 bs x (List.mem_of_mem_drop (List.mem_of_mem_take hx))) (by rw [List.length_take]; omega)
  exact (b64_sgn ⟨_, hn⟩).2
theorem chunks6 {α : Type} (a b c d e f : α) (r : List α) : chunks 6 (a :: b :: c :: d :: e :: f :: r) = [a, b, c, d, e, f] :: chunks 6 r := chunks_cons (by decide) (by simp)
theorem six_back : ∀ t : List Nat, Bits01 t → t.length % 6 = 0 → bits6 ((chunks 6 t).map fun c => sgnM (numB c)) = t
  | [], _, _ => by rw [chunks_nil (by decide)]; rfl
  | [_], _, h => by simp at h
  | [_, _], _, h => by simp at h
  | [_, _, _], _, h => by simp at h
  | [_, _, _, _], _, h => by simp at h
  | [_, _, _, _, _], _, h => by simp at h
  | a :: b :: c :: d :: e :: f :: r, h01, h => by
    have hr := six_back r (fun x hx => h01 x (by simp [hx])) (by simp only [List.length_cons] at h; omega)
    have h6 : numB [a, b, c, d, e, f] < 64 := numB_lt64 _ (fun x hx => h01 x (by
      simp only [List.mem_cons, List.not_mem_nil, or_false] at hx ⊢
      rcases hx with h | h | h | h | h | h <;> simp [h])) (Nat.le_refl 6)
    rw [chunks6, List.map_cons]
    have e1 : bits6 (sgnM (numB [a, b, c, d, e, f]) :: (chunks 6 r).map fun c => sgnM (numB c)) = bitsN (b64 (sgnM (numB [a, b, c, d, e, f]))) 6 ++ bits6 ((chunks 6 r).map fun c => sgnM (numB c)) := rfl
    rw [e1, hr, (b64_sgn ⟨_, h6⟩).1]
    show bitsN (numB [a, b, c, d, e, f]) 6 ++ r = _
    have ha := h01 a (by simp)
    have hb := h01 b (by simp)
    have hc := h01 c (by simp)
    have hd := h01 d (by simp)
    have he := h01 e (by simp)
    have hf := h01 f (by simp)
    rw [six]
    have e2 : numB [a, b, c, d, e, f] = 32 * a + 16 * b + 8 * c + 4 * d + 2 * e + f := by
      unfold numB
      simp only [List.foldl_cons, List.foldl_nil]
      omega
    rw [e2]
    generalize hN : 32 * a + 16 * b + 8 * c + 4 * d + 2 * e + f = N
    have q1 : N / 32 % 2 = a := by omega
    have q2 : N / 16 % 2 = b := by omega
    have q3 : N / 8 % 2 = c := by omega
    have q4 : N / 4 % 2 = d := by omega
    have q5 : N / 2 % 2 = e := by omega
    have q6 : N / 1 % 2 = f := by omega
    rw [q1, q2, q3, q4, q5, q6]
    rfl
theorem padded_six (bs : List Nat) : (padded bs).length % 6 = 0 := by
  unfold padded
  rw [List.length_append, List.length_replicate]
  omega
theorem bits_back (bs : List Nat) : bits6 (lt0 bs) = padded bs := six_back _ (padded_01 bs) (padded_six bs)
theorem eight (n : Nat) : bitsN n 8 = [n / 128 % 2, n / 64 % 2, n / 32 % 2, n / 16 % 2, n / 8 % 2, n / 4 % 2, n / 2 % 2, n / 1 % 2] := rfl
theorem num_eight {b : Nat} (h : b < 256) : numB (bitsN b 8) = b := by
  rw [eight]
  unfold numB
  simp only [List.foldl_cons, List.foldl_nil]
  omega
theorem eights_back (bs : List Nat) (h : ∀ x ∈ bs, x < 256) : eights (bits6 (lt0 bs)) = bs := by
  rw [bits_back]
  unfold padded
  have hz : ((-((lbits bs).length : Int)) % 6).toNat < 8 := by omega
  generalize ((-((lbits bs).length : Int)) % 6).toNat = z at *
  induction bs with
  | nil => exact eights_small (by show ([] ++ List.replicate z 0).length < 8; simp; exact hz)
  | cons b r ih =>
    have e : lbits (b :: r) ++ List.replicate z 0 = bitsN b 8 ++ (lbits r ++ List.replicate z 0) := by
      unfold lbits
      rw [List.map_cons, List.flatten_cons, List.append_assoc]
    rw [e, eights_cons _ _ (bitsN_len _ _), num_eight (h b (by simp)), ih (fun x hx => h x (by simp [hx]))]
theorem lt0_len6 (bs : List Nat) : 6 * (lt0 bs).length = (padded bs).length := by rw [← bits6_len, bits_back]
/-- the shape of good text -/
structure Good64 (t b : List Nat) (k : Nat) : Prop where
  eq : t = b ++ List.replicate k 61
  all : All64 b
  shape : Shape64 b k
  two : b.length % 4 = 2 → b64 (lastN b) % 16 = 0
  three : b.length % 4 = 3 → b64 (lastN b) % 4 = 0
theorem snoc_of {α : Type} {b : List α} (h : b ≠ []) : ∃ c x, b = c ++ [x] := by
  rcases List.eq_nil_or_concat b with h0 | ⟨L, x, h0⟩
  · exact absurd h0 h
  · exact ⟨L, x, by rw [h0, List.concat_eq_append]⟩
theorem ltext_good (bs : List Nat) : ∃ k, Good64 (ltext bs) (lt0 bs) k := by
  have h1 := lt0_len6 bs
  have h2 : (padded bs).length = 8 * bs.length + ((-((8 * bs.length : Nat) : Int)) % 6).toNat := by
    unfold padded
    rw [List.length_append, List.length_replicate, lbits_len]
  have last : ∀ z : Nat, ((-((8 * bs.length : Nat) : Int)) % 6).toNat = z → lt0 bs ≠ [] → z ≤ 6 → ∃ A, bitsN (b64 (lastN (lt0 bs))) 6 = A ++ List.replicate z 0 := fun z hz hne hz6 => by
    obtain ⟨c, x, e⟩ := snoc_of hne
    have hb := bits_back bs
    have e6 : bits6 (c ++ [x]) = bits6 c ++ bitsN (b64 x) 6 := by
      unfold bits6
      rw [List.map_append, List.flatten_append]
      simp
    have hl : lastN (c ++ [x]) = x := by unfold lastN; rw [List.getLastD_concat]
    rw [e, e6] at hb
    rw [e, hl]
    unfold padded at hb
    rw [lbits_len, hz] at hb
    refine ⟨(bitsN (b64 x) 6).take (6 - z), ?_⟩
    have h3 : (bits6 c ++ (bitsN (b64 x) 6).take (6 - z)) ++ (bitsN (b64 x) 6).drop (6 - z) = lbits bs ++ List.replicate z 0 := by
      rw [List.append_assoc, List.take_append_drop, hb]
    have h4 := (List.append_inj' h3 (by rw [List.length_drop, bitsN_len, List.length_replicate]; omega)).2
    rw [← h4, List.take_append_drop]
  refine ⟨((-((lt0 bs).length : Int)) % 4).toNat, rfl, lt0_64 bs, ?_, fun h => ?_, fun h => ?_⟩
  · unfold Shape64
    generalize (lt0 bs).length = m at *
    generalize (padded bs).length = pl at *
    generalize bs.length = n at *
    obtain ⟨q, hq⟩ : ∃ q, n = 3 * q ∨ n = 3 * q + 1 ∨ n = 3 * q + 2 := ⟨n / 3, by omega⟩
    rcases hq with hq | hq | hq
    · have : m = 4 * q := by omega
      left; omega
    · have : m = 4 * q + 2 := by omega
      right; right; omega
    · have : m = 4 * q + 3 := by omega
      right; left; omega
  · obtain ⟨A, hA⟩ := last 4 (by omega) (fun h0 => by rw [h0] at h; simp at h) (by decide)
    have := b64_lt (lastN (lt0 bs))
    generalize b64 (lastN (lt0 bs)) = x at *
    rw [six] at hA
    have h3 : [x / 32 % 2, x / 16 % 2] ++ [x / 8 % 2, x / 4 % 2, x / 2 % 2, x / 1 % 2] = A ++ [0, 0, 0, 0] := hA
    have h4 := (List.append_inj' h3 rfl).2
    simp only [List.cons.injEq, and_true] at h4
    omega
  · obtain ⟨A, hA⟩ := last 2 (by omega) (fun h0 => by rw [h0] at h; simp at h) (by decide)
    have := b64_lt (lastN (lt0 bs))
    generalize b64 (lastN (lt0 bs)) = x at *
    rw [six] at hA
    have h3 : [x / 32 % 2, x / 16 % 2, x / 8 % 2, x / 4 % 2] ++ [x / 2 % 2, x / 1 % 2] = A ++ [0, 0] := hA
    have h4 := (List.append_inj' h3 rfl).2
    simp only [List.cons.injEq, and_true] at h4
    omega
theorem goodF_snoc (g : Nat → List Nat → Bool) : ∀ (r a : List Nat) (c : Nat), goodF g a r = r.length → g c (a ++ r) = true → goodF g a (r ++ [c]) = r.length + 1
  | [], a, c, _, h => by
    rw [List.append_nil] at h
    rw [List.nil_append, goodF, if_pos h]
    rfl
  | d :: r, a, c, h1, h => by
    rw [goodF] at h1
    rw [List.cons_append, goodF]
    by_cases hd : g d a = true
    · rw [if_pos hd, List.length_cons] at h1
      rw [if_pos hd, goodF_snoc g r (a ++ [d]) c (by omega) (by rw [List.append_assoc]; exact h), List.length_cons]
    · rw [if_neg hd, List.length_cons] at h1
      omega
theorem goodF_allM : ∀ (n : Nat) (b : List Nat), b.length ≤ n → All64 b → b.length ≤ 60 → goodF standB [] b = b.length
  | n, [], _, _, _ => rfl
  | 0, x :: b, h, _, _ => by simp at h
  | n + 1, x :: b, h, hA, hl => by
    obtain ⟨c, y, e⟩ := snoc_of (b := x :: b) (by simp)
    rw [e] at h hA hl ⊢
    rw [List.length_append] at h hl
    have h1 : ([y] : List Nat).length = 1 := rfl
    have hc : All64 c := fun z hz => hA z (by simp [hz])
    rw [goodF_snoc standB c [] y (goodF_allM n c (by omega) hc (by omega)) ?_, List.length_append]
    · rfl
    · have hy := hA y (by simp)
      unfold standB
      rw [List.nil_append, if_neg (by omega), if_neg (in64_no hy).2, hy, decide_eq_false (all64_no61 hc)]
      rfl
theorem val_good {b : List Nat} {k : Nat} (h : Val64 b k) : goodF standB [] (b ++ List.replicate k 61) = (b ++ List.replicate k 61).length := by
  obtain ⟨hA, hl, hk⟩ := h
  have h0 := goodF_allM b.length b (Nat.le_refl _) hA (by omega)
  have s1 : (b.length % 4 = 2 ∧ b64 (lastN b) % 16 = 0) ∨ (b.length % 4 = 3 ∧ b64 (lastN b) % 4 = 0) → b.length + 1 ≤ 60 → goodF standB [] (b ++ [61]) = b.length + 1 := fun h hl1 => by
    refine goodF_snoc standB b [] 61 h0 ?_
    unfold standB fillB
    rw [List.nil_append, if_neg (by omega), if_pos rfl]
    rcases h with ⟨h1, h2⟩ | ⟨h1, h2⟩
    · rw [if_pos h1, decide_eq_true h2]
    · rw [if_neg (by omega), if_pos h1, decide_eq_true h2]
  rcases hk with rfl | ⟨h1, h2, h3⟩ | ⟨h1, rfl, h3⟩
  · rw [List.replicate_zero, List.append_nil]; exact h0
  · rcases (show k = 0 ∨ k = 1 ∨ k = 2 by omega) with rfl | rfl | rfl
    · rw [List.replicate_zero, List.append_nil]; exact h0
    · rw [rep_len]; exact s1 (.inl ⟨h1, h3⟩) (by omega)
    · have e : b ++ List.replicate 2 61 = (b ++ [61]) ++ [61] := by rw [List.append_assoc]; rfl
      have := s1 (.inl ⟨h1, h3⟩) (by omega)
      rw [e, goodF_snoc standB (b ++ [61]) [] 61 (by rw [this, List.length_append]; rfl) ?_]
      · rw [List.length_append (as := b ++ [61])]; rfl
      · unfold standB fillB
        have hl1 : (b ++ [61]).length = b.length + 1 := by rw [List.length_append]; rfl
        have hl2 : lastN (b ++ [61]) = 61 := by unfold lastN; rw [List.getLastD_concat]
        rw [List.nil_append, hl1, hl2, if_neg (by omega), if_pos rfl, if_neg (by omega), if_pos (by omega), b64_61]
        rfl
  · rw [rep_len]; exact s1 (.inr ⟨h1, h3⟩) (by omega)
theorem rowsS_nil : rowsSM [] = [] := by
  unfold rowsSM
  rw [chunks_nil (by decide)]
  rfl
theorem rowsS_cons {t : List Nat} (h : t ≠ []) : rowsSM t = ⟨(t.take 60).toArray⟩ :: rowsSM (t.drop 60) := by
  unfold rowsSM
  rw [chunks_cons (by decide) h]
  rfl
theorem good_rows : ∀ (m n : Nat) (t b : List Nat) (k : Nat), t.length ≤ m → Good64 t b k → wrongF standB endB n (rowsSM t) = none
  | m, n, [], b, k, _, _ => by rw [rowsS_nil]; rfl
  | 0, n, x :: t, b, k, h, _ => by simp at h
  | m + 1, n, x :: t', b, k, h, hG => by
    generalize ht : x :: t' = t at *
    have hne : t ≠ [] := by rw [← ht]; simp
    have htl : t.length = b.length + k := by rw [hG.eq, rep_len]
    have hs := hG.shape
    unfold Shape64 at hs
    have hpos : 0 < t.length := List.length_pos_iff.mpr hne
    rw [rowsS_cons hne, wrongF]
    have etl : TL.tl (⟨(t.take 60).toArray⟩ : Str) = t.take 60 := rfl
    rw [etl]
    by_cases h60 : t.length ≤ 60
    · have e1 : t.take 60 = t := List.take_of_length_le h60
      have e2 : t.drop 60 = [] := List.drop_of_length_le h60
      have hV : Val64 b k := ⟨hG.all, by omega, by
        rcases hs with ⟨h1, h2⟩ | ⟨h1, h2⟩ | ⟨h1, h2⟩
        · exact .inl h1
        · exact .inr (.inr ⟨h2, h1, hG.three h2⟩)
        · exact .inr (.inl ⟨h2, by omega, hG.two h2⟩)⟩
      have hg := val_good hV
      rw [← hG.eq] at hg
      rw [e1, e2, rowsS_nil, hg, if_neg]
      · rfl
      · rintro (h | h)
        · omega
        · rw [decide_eq_true rfl] at h
          unfold endB at h
          rw [if_pos rfl, decide_eq_true hpos, decide_eq_true (by omega)] at h
          exact nomatch h
    · have hb : 60 < b.length := by omega
      have e1 : t.take 60 = b.take 60 := by rw [hG.eq, List.take_append_of_le_length (by omega)]
      have e2 : t.drop 60 = b.drop 60 ++ List.replicate k 61 := by rw [hG.eq, List.drop_append_of_le_length (by omega)]
      have hA : All64 (b.take 60) := fun z hz => hG.all z (List.mem_of_mem_take hz)
      have hl : (b.take 60).length = 60 := by rw [List.length_take]; omega
      have hg := goodF_allM 60 (b.take 60) (by omega) hA (by omega)
      have hdl : (b.drop 60).length = b.length - 60 := List.length_drop ..
      have hd : lastN (b.drop 60) = lastN b := by
        unfold lastN
        rw [List.getLastD_eq_getLast?, List.getLastD_eq_getLast?, List.getLast?_eq_getElem?, List.getLast?_eq_getElem?, hdl, List.getElem?_drop]
        congr 2
        omega
      have hG2 : Good64 (t.drop 60) (b.drop 60) k := ⟨e2, fun z hz => hG.all z (List.mem_of_mem_drop hz), by unfold Shape64; rw [hdl]; omega, fun h => by rw [hd]; exact hG.two (by omega), fun h => by rw [hd]; exact hG.three (by omega)⟩
      have hne2 : t.drop 60 ≠ [] := fun h0 => by
        have := congrArg List.length h0
        rw [List.length_drop] at this
        simp at this
        omega
      rw [e1, hg, if_neg]
      · exact good_rows m (n + 1) (t.drop 60) (b.drop 60) k (by rw [List.length_drop]; omega) hG2
      · rintro (h | h)
        · omega
        · rw [decide_eq_false (by rw [rowsS_cons hne2]; simp)] at h
          unfold endB at h
          rw [if_neg (by decide), decide_eq_true hl, decide_eq_false (all64_no61 hA)] at h
          exact nomatch h
end K09

namespace K09
open PySem PySem.Spec PyProof.Rows L2 LH
theorem lbits_cons (a : Nat) (r : List Nat) : lbits (a :: r) = bitsN a 8 ++ lbits r := rfl
theorem num6 (a b c d e f : Nat) : numB [a, b, c, d, e, f] = 32 * a + 16 * b + 8 * c + 4 * d + 2 * e + f := by
  show 2 * (2 * (2 * (2 * (2 * (2 * 0 + a) + b) + c) + d) + e) + f = _
  omega
theorem padded_three (a b c : Nat) (r : List Nat) : padded (a :: b :: c :: r) = bitsN a 8 ++ (bitsN b 8 ++ (bitsN c 8 ++ padded r)) := by
  unfold padded
  have h1 := lbits_len (a :: b :: c :: r)
  have h2 := lbits_len r
  rw [h1, h2, lbits_cons, lbits_cons, lbits_cons, show ((-((8 * (a :: b :: c :: r).length : Nat) : Int)) % 6).toNat = ((-((8 * r.length : Nat) : Int)) % 6).toNat by simp only [List.length_cons]; omega]
  simp only [List.append_assoc]
theorem sgM_eq (n : Nat) : sgnM n = sg n := rfl
theorem lt0_three (a b c : Nat) (r : List Nat) (ha : a < 256) (hb : b < 256) (hc : c < 256) : lt0 (a :: b :: c :: r) = [sg (a / 4), sg (a % 4 * 16 + b / 16), sg (b % 16 * 4 + c / 64), sg (c % 64)] ++ lt0 r := by
  unfold lt0
  rw [padded_three, eight, eight, eight]
  show (chunks 6 (_ :: _ :: _ :: _ :: _ :: _ :: (_ :: _ :: _ :: _ :: _ :: _ :: (_ :: _ :: _ :: _ :: _ :: _ :: (_ :: _ :: _ :: _ :: _ :: _ :: padded r))))).map _ = _
  rw [chunks6, chunks6, chunks6, chunks6]
  simp only [List.map_cons, num6, sgM_eq, List.cons_append, List.nil_append]
  congr 1
  · congr 1; omega
  · congr 1
    · congr 1; omega
    · congr 1
      · congr 1; omega
      · congr 1; congr 1; omega
theorem ltext_three (a b c : Nat) (r : List Nat) (ha : a < 256) (hb : b < 256) (hc : c < 256) : ltext (a :: b :: c :: r) = [sg (a / 4), sg (a % 4 * 16 + b / 16), sg (b % 16 * 4 + c / 64), sg (c % 64)] ++ ltext r := by
  unfold ltext
  rw [lt0_three a b c r ha hb hc, List.length_append, show ((-((([sg (a / 4), sg (a % 4 * 16 + b / 16), sg (b % 16 * 4 + c / 64), sg (c % 64)] : List Nat).length + (lt0 r).length : Nat) : Int)) % 4).toNat = ((-(((lt0 r).length : Nat) : Int)) % 4).toNat by simp only [List.length_cons, List.length_nil]; omega, List.append_assoc]
theorem ltext_nil : ltext [] = [] := by decide +kernel
theorem ltext_one (a : Nat) (ha : a < 256) : ltext [a] = [sg (a / 4), sg (a % 4 * 16), 61, 61] := by
  have h : lt0 [a] = [sg (a / 4), sg (a % 4 * 16)] := by
    unfold lt0 padded
    rw [lbits_len, lbits_cons, show lbits [] = [] from rfl, List.append_nil, eight]
    show (chunks 6 (_ :: _ :: _ :: _ :: _ :: _ :: (_ :: _ :: 0 :: 0 :: 0 :: 0 :: []))).map _ = _
    rw [chunks6, chunks6, chunks_nil (by decide)]
    simp only [List.map_cons, List.map_nil, num6, sgM_eq]
    congr 1
    · congr 1; omega
    · congr 1; congr 1; omega
  unfold ltext
  rw [h]
  rfl
theorem ltext_two (a b : Nat) (ha : a < 256) (hb : b < 256) : ltext [a, b] = [sg (a / 4), sg (a % 4 * 16 + b / 16), sg (b % 16 * 4), 61] := by
  have h : lt0 [a, b] = [sg (a / 4), sg (a % 4 * 16 + b / 16), sg (b % 16 * 4)] := by
    unfold lt0 padded
    rw [lbits_len, lbits_cons, lbits_cons, show lbits [] = [] from rfl, List.append_nil, eight, eight, show ((-((8 * [a, b].length : Nat) : Int)) % 6).toNat = 2 from by simp only [List.length_cons, List.length_nil]; decide]
    simp only [List.cons_append, List.nil_append]
    show (chunks 6 (_ :: _ :: _ :: _ :: _ :: _ :: (_ :: _ :: _ :: _ :: _ :: _ :: (_ :: _ :: _ :: _ :: 0 :: 0 :: [])))).map _ = _
    rw [chunks6, chunks6, chunks6, chunks_nil (by decide)]
    simp only [List.map_cons, List.map_nil, num6, sgM_eq]
    congr 1
    · congr 1; omega
    · congr 1
      · congr 1; omega
      · congr 1; congr 1; omega
  unfold ltext
  rw [h]
  rfl
theorem ltext_t64 : ∀ l : List Nat, BytesN l → ltext l = t64 l
  | [], _ => by rw [ltext_nil, t64_nil]
  | [a], hb => by
    have ha := hb a (by simp)
    rw [ltext_one a ha, t64_short (by simp) (by simp), four1 a ha]
  | [a, b], hb => by
    have ha := hb a (by simp)
    have hb' := hb b (by simp)
    rw [ltext_two a b ha hb', t64_short (by simp) (by simp), four2 a b ha hb']
  | a :: b :: c :: r, hb => by
    have ha := hb a (by simp)
    have hb' := hb b (by simp)
    have hc := hb c (by simp)
    rw [ltext_three a b c r ha hb' hc, t64_long, four3 a b c ha hb' hc, ltext_t64 r fun x hx => hb x (by simp [hx])]
theorem rowsM_eq (t : List Nat) : rowsVM t = rowsV t := by
  rw [← rowsS_V]
  rfl
end K09

namespace K09
open PySem PySem.Spec PyProof.Rows L2 LH
section
variable {P : Program} {w : World} {K : PySem.W.Frag} {mg : Str → Option Value} {base : Heap} {tk : Nat → Tok} {ca : Nat → Addr}
/-! ### _law_in_sixty -/
abbrev s__law_in_sixty : Stmt := topS 67
abbrev N__law_in_sixty : List Str := ["_law_row", "_law_bits_here", "_law_byte", "_law_text", "_law_rows", "_law_at"]
abbrev P__law_in_sixty : List Str := ["_law_row"]
theorem sc__law_in_sixty : FnScope N__law_in_sixty ["_law_row"] (defScope s__law_in_sixty) := ⟨rfl, rfl, rfl, by decide +kernel, rfl, by decide +kernel, by decide +kernel⟩
def sp_in_sixty : Sp := fun vs H Q _ => ∃ (a : Addr) (bs : List Nat), vs = [.ref a] ∧ H a = some (.lst (nb bs)) ∧ bs.length ≤ 1000 ∧ New H (rowsVM (ltext bs)) Q
theorem ok_in_sixty {f fB fN fS : Addr} {fd fdB fdN fdS : FuncData} (F : Fun K "_law_in_sixty" "_law_in_sixty" s__law_in_sixty f fd) (T : Tx mg tk) (D__law_bits : Def P w K mg base "_law_bits" 1 fB fdB P__law_bits sp_lbits) (D__law_number : Def P w K mg base "_law_number" 1 fN fdN P__law_number sp_lnumber) (D__law_sixty : Def P w K mg base "_law_sixty" 1 fS fdS P__law_sixty sp_lsixty) : FnOk P w K mg base CX0 2 f fd P__law_in_sixty sp_in_sixty := by
  refine F.ok sc__law_in_sixty (fun vs H Q E h => ?_) (fun cdv A outer s H vs Q E hr h => ?_)
  · obtain ⟨a, bs, rfl, _⟩ := h
    rfl
  · have nd := sc__law_in_sixty.nd
    obtain ⟨a, bs, rfl, hS, hlen, q⟩ := h
    refine ⟨_, (pss_cons (ps_set (i := 1) nd rfl (.inr rfl) (pe_lst pa_nil))
      (pss_cons (ps_for PassesOwn.never rfl (pi_list (pv 0)) (pg_name (i := 2) nd rfl (Or.inl rfl))
        (pss_one (ps_expr (pe_bm PySem.F.plainAttrs_list PySem.F.slot_list_extend PySem.F.type_list_extend mt_extend (pv 1) (pa_cons (pe_def D__law_bits (hr.mono (by decide)) (pa_cons (pv 2) (pa_cons pe_int pa_nil))) pa_nil)))))
      (pss_cons (ps_set (i := 1) nd rfl (.inr rfl) (pe_op op_cat (pv 1) (pe_op op_rep (pe_lst (pa_cons pe_int pa_nil)) (pe_op op_mod (pe_un un_neg (pe_callB (cLen K) (by rfl) T.n_len (by decide +kernel) (pa_cons (pv 1) pa_nil))) pe_int))))
      (pss_cons (ps_set (i := 3) nd rfl (.inl rfl) (pe_join pe_str (pe_lc (own := [("_law_at", 5)]) (g := gName 5) (by rfl) nd (pi_range3 (by rfl) T.n_range (pa_cons pe_int (pa_cons (pe_callB (cLen K) (by rfl) T.n_len (by decide +kernel) (pa_cons (pv 1) pa_nil)) (pa_cons pe_int pa_nil)))) (blkOk_by (N := N__law_in_sixty) (sc := defScope s__law_in_sixty) (by decide +kernel)) (fun _ _ _ _ _ => (pg_name (i := 5) nd rfl (Or.inl rfl))) (fun _ _ _ _ _ => pts_nil) (fun _ _ _ _ _ => (pe_ix ix_str (pe_def0 D__law_sixty (hr.mono (by decide))) (pe_def D__law_number (hr.mono (by decide)) (pa_cons (pe_slice (slL K) (pv 1) (po_some (pv 5)) (po_some (pe_op op_add (pv 5) pe_int))) pa_nil)) (fun _ _ => rfl))))))
      (pss_cons (ps_set (i := 3) nd rfl (.inl rfl) (pe_op op_add_str (pv 3) (pe_op op_mul_str pe_str (pe_op op_mod (pe_un un_neg (pe_callB call_len_str (by rfl) T.n_len (by decide +kernel) (pa_cons (pv 3) pa_nil))) pe_int))))
      (pss_cons (ps_set (i := 4) nd rfl (.inl rfl) (pe_lst pa_nil))
      (pss_cons (ps_while PassesOwn.never (pt_cmpR op_ne (pv 3) pe_str (nomark _))
        (pss_cons (ps_expr (pe_bm PySem.F.plainAttrs_list PySem.F.slot_list_append PySem.F.type_list_append mt_append (pv 4) (pa_cons (pe_slice sl_str (pv 3) po_none (po_some pe_int)) pa_nil)))
        (pss_one (ps_set (i := 3) nd rfl (.inl rfl) (pe_slice sl_str (pv 3) (po_some pe_int) po_none)))))
      (pss_one (ps_ret (pv 4)))))))))), ?_⟩
    refine ⟨Nat.zero_le _, fun o no => ?_⟩
    have s1 := same_upd (o := .lst []) no
    refine ⟨.ref a, rfl, a, rfl, ⟨_, .inl (.inl (s1 _ _ hS))⟩, for_it walk_list (fun i σ H' => ∃ y2, σ = [some (.ref a), some (.ref o), y2, none, none, none] ∧ Same H H' ∧ H' o = some (.lst (nb (lbits (bs.take i))))) ⟨none, rfl, s1, upd_same⟩
      (fun i σ H' _ h => by obtain ⟨y, rfl, sm, _⟩ := h; exact .inl (.inl (sm _ _ hS))) (fun i x σ H' H'' hi hP hy => ?_) (fun σ H' hP => ?_)⟩
    · obtain ⟨y2, rfl, sm, eo⟩ := hP
      obtain ⟨rfl, hx⟩ := hy
      rw [nb_len] at hi
      unfold nb at hx
      rw [List.getElem?_map, List.getElem?_eq_getElem hi] at hx
      obtain rfl := Option.some.inj hx
      refine ⟨.ref o, rfl, .inl ⟨rfl, _, .inl (.inl eo)⟩, .int (bs[i] : Nat), rfl, bs[i], 8, rfl, by decide, fun H2 p sm2 np ep => ?_⟩
      have npo : o ≠ p := ne_of_none eo np
      have hl := lbits_len (bs.take i)
      rw [List.length_take] at hl
      refine ⟨o, p, _, _, rfl, rfl, sm2 _ _ eo, ep, ?_, some (.int (bs[i] : Nat)), rfl, fun b z e => ?_, ?_⟩
      · rw [nb_len, nb_len, bitsN_len, hl, sizeLine_eq]
        omega
      · rw [upd_ne (ne_of_none e no)]
        exact sm2 _ _ (sm _ _ e)
      · rw [upd_same, List.take_add_one, List.getElem?_eq_getElem hi]
        show _ = some (HO.lst (nb (lbits (bs.take i ++ [bs[i]]))))
        rw [lbits_snoc, nb_app]
    · obtain ⟨y2, rfl, sm, eo⟩ := hP
      rw [nb_len, List.take_length] at eo
      have hlb := lbits_len bs
      have hlm : (nb (lbits bs)).length = (lbits bs).length := nb_len _
      have hm0 : 0 ≤ (-((lbits bs).length : Int)) % 6 ∧ (-((lbits bs).length : Int)) % 6 < 6 := ⟨Int.emod_nonneg _ (by decide), Int.emod_lt_of_pos _ (by decide)⟩
      refine ⟨.ref o, rfl, Nat.le_of_lt (small1000 (show 1 ≤ 1000 by decide)), fun p np => ?_⟩
      have s2 := same_upd (o := .lst [V.int 0]) np
      refine ⟨.ref o, rfl, o, _, rfl, .inl (.inl (.inl (s2 _ _ eo))), _, rfl, _, 6, rfl, rfl, (show (0 : Int) < 6 by decide), p, _, _, rfl, rfl, upd_same, ?_, ?_, ?_, fun p2 np2 => ?_⟩
      · rw [hlm]; omega
      · rw [hlm]; omega
      · rw [hlm, List.length_singleton, sizeLine_eq]; omega
      rw [hlm]
      have e2 : (List.replicate ((-((lbits bs).length : Int)) % 6).toNat [V.int 0]).flatten = nb (List.replicate ((-((lbits bs).length : Int)) % 6).toNat 0) := nb_zeros _
      rw [e2]
      have s3 := same_upd (o := .lst (nb (List.replicate ((-((lbits bs).length : Int)) % 6).toNat 0))) np2
      refine ⟨o, p2, _, _, rfl, rfl, s3 _ _ (s2 _ _ eo), upd_same, ?_, fun p3 np3 => ?_⟩
      · rw [hlm, nb_len, List.length_replicate, sizeLine_eq]; omega
      rw [← nb_app]
      have s4 := same_upd (o := .lst (nb (lbits bs ++ List.replicate ((-((lbits bs).length : Int)) % 6).toNat 0))) np3
      have hpad : lbits bs ++ List.replicate ((-((lbits bs).length : Int)) % 6).toNat 0 = padded bs := rfl
      rw [hpad] at s4 ⊢
      have hpl := padded_len bs
      have hplm : (nb (padded bs)).length = (padded bs).length := nb_len _
      generalize hH3 : upd _ p3 (.lst (nb (padded bs))) = H3 at *
      have e3 : H3 p3 = some (.lst (nb (padded bs))) := by rw [← hH3, upd_same]
      have s14 : Same H H3 := sm.trans (s2.trans (s3.trans s4))
      refine ⟨⟨_, rfl⟩, .ref p3, rfl, p3, _, rfl, .inl (.inl (.inl e3)), 0, _, 6, ((padded bs).length + 5) / 6, rfl, by rw [hplm]; exact rgC _ 6 (by decide) (by decide) (by omega), fun D hD => ?_⟩
      refine lc_pure (fun i => .int (0 + ((i : Nat) : Int) * 6)) (fun i => .str ⟨#[sgnM (numB (((padded bs).drop (i * 6)).take 6))]⟩) walk_rangeC (fun _ _ => trivial) hD (by rw [sizeLine_eq]; omega) (fun i H2 Q2 hi sm2 q2 => ?_) (fun H2 sm2 e => ?_)
      · refine ⟨rfl, .ref p3, rfl, .int (0 + ((i : Nat) : Int) * 6), rfl, _, rfl, .int (0 + ((i : Nat) : Int) * 6), rfl, _, 6, rfl, rfl, 0 + ((i : Nat) : Int) * 6 + 6, rfl, p3, _, rfl, .inl (.inl (sm2 _ _ e3)), fun p np => ?_⟩
        refine ⟨p, ((padded bs).drop (i * 6)).take 6, rfl, ?_, fun H4 sm4 => ?_⟩
        · rw [upd_same, show (0 : Int) + ((i : Nat) : Int) * 6 = ((i * 6 : Nat) : Int) by omega, show ((i * 6 : Nat) : Int) + 6 = ((i * 6 + 6 : Nat) : Int) by omega, cutV_at, Nat.add_sub_cancel_left]
          unfold nb
          rw [List.map_take, List.map_drop]
        · have hn := numB_lt64 (((padded bs).drop (i * 6)).take 6) (fun x hx => padded_01 bs x (List.mem_of_mem_drop (List.mem_of_mem_take hx))) (by rw [List.length_take]; omega)
          exact ⟨S64, _, _, rfl, rfl, Nat.le_of_lt (small1000 (by decide +kernel)), sgn_atM hn, q2 _ ((same_upd np).trans sm4)⟩
      · have ey : (List.range (((padded bs).length + 5) / 6)).map (fun i => V.str ⟨#[sgnM (numB (((padded bs).drop (i * 6)).take 6))]⟩) = ((chunks 6 (padded bs)).map fun c => (⟨#[sgnM (numB c)]⟩ : Str)).map V.str := by
          unfold chunks
          rw [List.map_map, List.map_map]
          rfl
        rw [ey] at e
        have e5 : (((chunks 6 (padded bs)).map fun c => (⟨#[sgnM (numB c)]⟩ : Str)).map TL.tl).flatten = lt0 bs := by
          unfold lt0
          rw [List.map_map]
          generalize chunks 6 (padded bs) = l
          induction l with
          | nil => rfl
          | cons x r ih => rw [List.map_cons, List.flatten_cons, ih]; rfl
        have hl0 := lt0_len bs
        refine ⟨Str.ofString "", D, _, rfl, rfl, .inl (.inl (.inl e)), ?_, ?_⟩
        · rw [sum_len' , e5]
          show (lt0 bs).length + _ * 0 ≤ 16777216
          omega
        have eJ := tl_join0 ((chunks 6 (padded bs)).map fun c => (⟨#[sgnM (numB c)]⟩ : Str))
        rw [e5] at eJ
        generalize Txt.join (Str.ofString "") ((chunks 6 (padded bs)).map fun c => (⟨#[sgnM (numB c)]⟩ : Str)) = J at eJ
        have hJ : J.length = (lt0 bs).length := by rw [TL.len_tl, eJ]
        have hm4 : 0 ≤ (-((J.length : Nat) : Int)) % 4 ∧ (-((J.length : Nat) : Int)) % 4 < 4 := ⟨Int.emod_nonneg _ (by decide), Int.emod_lt_of_pos _ (by decide)⟩
        have hrl : (repS (Str.ofString "=") ((-((J.length : Nat) : Int)) % 4)).length = ((-((J.length : Nat) : Int)) % 4).toNat := by rw [TL.len_tl, tl_rep_eqM, List.length_replicate]
        refine ⟨.str J, rfl, .str J, rfl, J, rfl, by rw [hJ, sizeLine_eq]; omega, _, rfl, _, 4, rfl, rfl, (show (0 : Int) < 4 by decide), Str.ofString "=", _, rfl, rfl, by omega, by omega, by decide +kernel, _, _, rfl, rfl, ?_, ?_⟩
        · rw [hrl, hJ, sizeLine_eq]; omega
        have eT : TL.tl (J ++ repS (Str.ofString "=") ((-((J.length : Nat) : Int)) % 4)) = ltext bs := by
          rw [TL.tl_append, tl_rep_eqM, eJ, hJ]
          rfl
        generalize J ++ repS (Str.ofString "=") ((-((J.length : Nat) : Int)) % 4) = Z at eT
        have hlt := ltext_len bs
        refine ⟨Nat.zero_le _, fun r nr => ?_⟩
        have s5 := same_upd (o := .lst []) nr
        have hfr : H r = none := (s14.trans sm2).free nr
        refine while_by (fun σ H' => ∃ (z : Str) (rs : List V) (y2 : Option V), σ = [some (.ref a), some (.ref p3), y2, some (.str z), some (.ref r), none] ∧ Same H H' ∧ H' r = some (.lst rs) ∧ rs ++ rowsVM (TL.tl z) = rowsVM (ltext bs) ∧ z.length ≤ 9000) (fun σ _ => lenAt 3 σ)
          ⟨Z, [], y2, rfl, s14.trans (sm2.trans s5), upd_same, by rw [eT, List.nil_append], by rw [TL.len_tl, eT]; omega⟩ (fun σ H' hP => ?_) (fun σ H' Q1 Q2 hQ h => ?_)
        · obtain ⟨z, rs, y2, rfl, sm5, er, hrs, hz⟩ := hP
          have hrl2 : rs.length ≤ 9000 := by
            have h1 := congrArg List.length hrs
            rw [List.length_append] at h1
            have h2 := rowsV_len (ltext bs)
            omega
          refine ⟨.str z, rfl, rfl, _, rfl, ite2 (fun e => ?_) (fun e => ?_)⟩
          · have hz0 : TL.tl z ≠ [] := fun h => by
              have : z = Str.ofString "" := TL.ext_tl (by rw [h, tl_empty])
              rw [this] at e
              exact absurd e (by decide)
            have hzl : 0 < z.length := by
              rw [TL.len_tl]
              exact List.length_pos_iff.mpr hz0
            refine ⟨.ref r, rfl, .inl ⟨rfl, _, .inl (.inl er)⟩, .str z, rfl, 60, rfl, z, rfl, by rw [sizeLine_eq]; omega, r, _, _, rfl, rfl, er, by rw [sizeLine_eq]; omega, ?_⟩
            refine ⟨.str z, rfl, 60, rfl, z, rfl, by rw [sizeLine_eq]; omega, ?_⟩
            have ez : TL.tl (cutS z (some 60) none) = (TL.tl z).drop 60 := by
              rw [show (60 : Int) = ((60 : Nat) : Int) from rfl, cutS_from]
            have ezl : (cutS z (some 60) none).length = z.length - 60 := by rw [TL.len_tl, ez, List.length_drop, ← TL.len_tl]
            refine ⟨⟨cutS z (some 60) none, rs ++ [.str (cutS z none (some 60))], y2, rfl, fun b x eb => ?_, upd_same, ?_, by omega⟩, ?_⟩
            · rw [upd_ne (ne_of_none eb hfr)]
              exact sm5 _ _ eb
            · rw [ez, List.append_assoc, ← hrs, rowsV_cons hz0, show (60 : Int) = ((60 : Nat) : Int) from rfl, cutS_to]
              rfl
            · show (cutS z (some 60) none).length < z.length
              omega
          · have hz0 : TL.tl z = [] := by
              have : z = Str.ofString "" := by
                have h1 : decide (V.str z = V.str (Str.ofString "")) = true := by
                  cases h : decide (V.str z = V.str (Str.ofString "")) with
                  | true => rfl
                  | false => exact absurd (by rw [h]; rfl) e
                exact V.str.inj (of_decide_eq_true h1)
              rw [this, tl_empty]
            rw [hz0, rowsV_nil, List.append_nil] at hrs
            exact ⟨.ref r, rfl, q H' r sm5 hfr (by rw [er, hrs])⟩
        · obtain ⟨v, e1, e2, k, e3, h⟩ := h
          exact ⟨v, e1, e2, k, e3, hQ _ _ h⟩
end
end K09

namespace K09
open PySem PySem.Spec PyProof.Rows L2 LH
theorem strip_split : ∀ (n : Nat) (s : List Nat), s.length = n → ∃ b k, s = b ++ List.replicate k 61 ∧ b.getLast? ≠ some 61
  | 0, s, h => ⟨[], 0, List.eq_nil_of_length_eq_zero h, by simp⟩
  | n + 1, s, h => by
    rcases List.eq_nil_or_concat s with rfl | ⟨a, x, rfl⟩
    · exact nomatch h
    · rw [List.concat_eq_append] at h ⊢
      by_cases hx : x = 61
      · obtain ⟨b, k, e, hb⟩ := strip_split n a (by rw [List.length_append] at h; simpa using h)
        refine ⟨b, k + 1, ?_, hb⟩
        rw [e, hx, List.replicate_succ', List.append_assoc]
      · exact ⟨a ++ [x], 0, by simp, by simp [hx]⟩
theorem rep_uniq : ∀ (k k' : Nat) (b b' : List Nat), b.getLast? ≠ some 61 → b'.getLast? ≠ some 61 → b ++ List.replicate k 61 = b' ++ List.replicate k' 61 → b = b' ∧ k = k'
  | 0, 0, b, b', _, _, e => ⟨by simpa using e, rfl⟩
  | 0, k' + 1, b, b', h, _, e => by
    rw [List.replicate_zero, List.append_nil] at e
    rw [e] at h
    exact absurd (rep_last (Nat.zero_lt_succ _)) h
  | k + 1, 0, b, b', _, h, e => by
    rw [List.replicate_zero, List.append_nil] at e
    rw [← e] at h
    exact absurd (rep_last (Nat.zero_lt_succ _)) h
  | k + 1, k' + 1, b, b', h, h', e => by
    rw [List.replicate_succ', List.replicate_succ', ← List.append_assoc, ← List.append_assoc] at e
    obtain ⟨h1, h2⟩ := rep_uniq k k' b b' h h' (List.append_cancel_right e)
    exact ⟨h1, by rw [h2]⟩
theorem one_wrong (s : List Nat) : wrongF standB endB 0 [⟨s.toArray⟩] = none ↔ goodF standB [] s = s.length ∧ endB s true = true := by
  have hle := goodF_le standB s []
  have e : wrongF standB endB 0 [⟨s.toArray⟩] = if goodF standB [] s < s.length ∨ endB s true = false then some (0 + 1, goodF standB [] s + 1) else none := rfl
  rw [e]
  constructor
  · intro h
    split at h
    · exact nomatch h
    · rename_i hn
      refine ⟨?_, ?_⟩
      · have : ¬ goodF standB [] s < s.length := fun x => hn (.inl x)
        omega
      · cases he : endB s true with
        | true => rfl
        | false => exact absurd (.inr he) hn
  · rintro ⟨h1, h2⟩
    rw [if_neg]
    rintro (h | h)
    · omega
    · rw [h2] at h
      exact nomatch h
theorem end_last (s : List Nat) : endB s true = true ↔ 0 < s.length ∧ s.length % 4 = 0 := by
  unfold endB
  simp
/-- what the law asks of a word's signs -/
def LawOk (b : List Nat) (k : Nat) : Prop := (b.length + k) % 4 = 0 ∧ b ≠ [] ∧ k ≤ 2 ∧ All64 b ∧ b.length % 4 ≠ 1 ∧ b64 (lastN b) % leftM b = 0
theorem word_good {b : List Nat} {k : Nat} (hl : b.length + k ≤ 32) (hb : b.getLast? ≠ some 61) : wrongF standB endB 0 [⟨(b ++ List.replicate k 61).toArray⟩] = none ↔ LawOk b k := by
  rw [one_wrong, end_last, rep_len]
  constructor
  · rintro ⟨h1, h2, h3⟩
    have h0 : Val64 [] 0 := ⟨(fun x hx => by cases hx), by decide, .inl rfl⟩
    obtain ⟨b', k', e, hv⟩ := goodF_val (b ++ List.replicate k 61) [] 0 h0 (by simpa using h1)
    obtain ⟨hA, h60, hc⟩ := hv
    have e' : b ++ List.replicate k 61 = b' ++ List.replicate k' 61 := by simpa using e
    obtain ⟨rfl, rfl⟩ := rep_uniq k k' b b' hb (all64_no61 hA) e'
    refine ⟨h3, ?_, ?_, hA, ?_, ?_⟩
    · rintro rfl
      simp only [List.length_nil] at *
      omega
    · omega
    · omega
    · unfold leftM
      rcases hc with rfl | ⟨hc1, hc2, hc3⟩ | ⟨hc1, hc2, hc3⟩
      · rw [if_neg (by omega), if_neg (by omega), Nat.mod_one]
      · rw [if_pos hc1]; exact hc3
      · rw [if_neg (by omega), if_pos hc1]; exact hc3
  · rintro ⟨h1, h2, h3, h4, h5, h6⟩
    have hv : Val64 b k := by
      refine ⟨h4, by omega, ?_⟩
      unfold leftM at h6
      by_cases c2 : b.length % 4 = 2
      · rw [if_pos c2] at h6
        exact .inr (.inl ⟨c2, h3, h6⟩)
      · by_cases c3 : b.length % 4 = 3
        · rw [if_neg c2, if_pos c3] at h6
          exact .inr (.inr ⟨c3, by omega, h6⟩)
        · exact .inl (by omega)
    have hp : 0 < b.length := List.length_pos_iff.mpr h2
    refine ⟨?_, by omega, h1⟩
    rw [val_good hv, rep_len]
theorem law_shape {b : List Nat} {k : Nat} (h : LawOk b k) : Shape64 b k := by
  obtain ⟨h1, _, h3, _, h5, _⟩ := h
  unfold Shape64
  omega
/-- a word's bytes, as the law reads them -/
theorem wordV_law {w b : List Nat} {k : Nat} (e : inner w = b ++ List.replicate k 61) (hb : b.getLast? ≠ some 61) (h2 : w = [61, 63] ++ inner w ++ [63, 61]) (hl : (inner w).length ≤ 32) (h : LawOk b k) : wordV w = some (nb (eights (bits6 b))) := by
  have hk : b.length + k ≤ 32 := by rw [e, rep_len] at hl; exact hl
  have hw := (word_good hk hb).mpr h
  have hi : innerS w = ⟨(b ++ List.replicate k 61).toArray⟩ := by unfold innerS; rw [e]
  have hp : 0 < b.length := List.length_pos_iff.mpr h.2.1
  have h4 : 4 ≤ b.length + k := by have := h.1; omega
  unfold wordV wordOk
  rw [if_pos, hi]
  · exact congrArg some (bytes_read hw (by unfold textR; simp) h.2.2.2.1 (law_shape h))
  · rw [hi, hw, decide_eq_true h2, e, rep_len, decide_eq_true (show 4 ≤ b.length + k ∧ b.length + k ≤ 32 from ⟨h4, hk⟩)]
    rfl
theorem wordV_not {w b : List Nat} {k : Nat} (e : inner w = b ++ List.replicate k 61) (hb : b.getLast? ≠ some 61) (h : ¬ (w = [61, 63] ++ inner w ++ [63, 61] ∧ (inner w).length ≤ 32 ∧ LawOk b k)) : wordV w = none := by
  unfold wordV wordOk
  rw [if_neg]
  intro hh
  simp only [Bool.and_eq_true, decide_eq_true_eq] at hh
  obtain ⟨⟨h1, h2, h3⟩, h4⟩ := hh
  have hi : innerS w = ⟨(b ++ List.replicate k 61).toArray⟩ := by unfold innerS; rw [e]
  rw [hi] at h4
  exact h ⟨h1, h3, (word_good (by rw [e, rep_len] at h3; exact h3) hb).mp h4⟩
end K09

namespace K09
open PySem PySem.Spec PyProof.Rows L2 LH
theorem word_cut {w : List Nat} (h8 : 4 ≤ w.length) (h1 : w.take 2 = [61, 63]) (h2 : w.drop (w.length - 2) = [63, 61]) : w = [61, 63] ++ inner w ++ [63, 61] := by
  unfold inner
  rw [← h1, ← h2, show min 2 w.length = 2 by omega]
  conv => lhs; rw [← List.take_append_drop 2 w, ← List.take_append_drop (w.length - 2 - 2) (w.drop 2)]
  rw [List.drop_drop, show 2 + (w.length - 2 - 2) = w.length - 2 by omega, List.append_assoc]
theorem cut_back {w : List Nat} (h : w = [61, 63] ++ inner w ++ [63, 61]) : w.length = (inner w).length + 4 ∧ w.take 2 = [61, 63] ∧ w.drop (w.length - 2) = [63, 61] := by
  generalize inner w = s at h
  subst h
  refine ⟨by simp, rfl, ?_⟩
  have : ([61, 63] ++ s ++ [63, 61]).length - 2 = ([61, 63] ++ s).length := by simp
  rw [this, List.drop_left]
theorem cutS_two (z : Str) : TL.tl (cutS z (some (-2)) none) = (TL.tl z).drop ((TL.tl z).length - 2) := by
  unfold cutS
  have hz : z.length = (TL.tl z).length := TL.len_tl z
  have e : HT.sIx z.length 0 (some (-2)) = z.length - 2 := by
    show (if (-2 : Int) < 0 then (-2 + ((z.length : Nat) : Int)).toNat else min (-2 : Int).toNat z.length) = _
    rw [if_pos (by decide)]
    omega
  rw [HT.sIx_none, e]
  show ((TL.tl z).drop (z.length - 2)).take (z.length - (z.length - 2)) = _
  rw [hz]
  exact List.take_of_length_le (by rw [List.length_drop]; omega)
theorem str_dec (x y : Str) : decide (V.str x = V.str y) = decide (TL.tl x = TL.tl y) := decide_eq_decide.mpr ⟨fun h => by rw [V.str.inj h], fun h => congrArg _ (TL.ext_tl h)⟩
section
variable {P : Program} {w : World} {K : PySem.W.Frag} {mg : Str → Option Value} {base : Heap} {tk : Nat → Tok} {ca : Nat → Addr}
/-! ### _law_word_bytes -/
abbrev s__law_word_bytes : Stmt := topS 68
abbrev N__law_word_bytes : List Str := ["_law_word", "_law_inner", "_law_body", "_law_left", "_law_bits_here", "_law_sign", "_law_at"]
abbrev P__law_word_bytes : List Str := ["_law_word"]
theorem sc__law_word_bytes : FnScope N__law_word_bytes ["_law_word"] (defScope s__law_word_bytes) := ⟨rfl, rfl, rfl, by decide +kernel, rfl, by decide +kernel, by decide +kernel⟩
def sp_lword : Sp := fun vs H Q _ => ∃ z : Str, vs = [.str z] ∧ z.length ≤ 100000 ∧ (∀ c ∈ TL.tl z, isSgn c = true) ∧ TellO H (wordV (TL.tl z)) Q
theorem ok_lword {f1 f2 f3 f : Addr} {fd1 fd2 fd3 fd : FuncData} (F : Fun K "_law_word_bytes" "_law_word_bytes" s__law_word_bytes f fd) (T : Tx mg tk) (D__law_sixty : Def P w K mg base "_law_sixty" 1 f1 fd1 P__law_sixty sp_lsixty) (D__law_bits : Def P w K mg base "_law_bits" 1 f2 fd2 P__law_bits sp_lbits) (D__law_number : Def P w K mg base "_law_number" 1 f3 fd3 P__law_number sp_lnumber) : FnOk P w K mg base CX0 2 f fd P__law_word_bytes sp_lword := by
  refine F.ok sc__law_word_bytes (fun vs H Q E h => ?_) (fun cdv A outer s H vs Q E hr h => ?_)
  · obtain ⟨z, rfl, _⟩ := h
    rfl
  · have nd := sc__law_word_bytes.nd
    obtain ⟨z, rfl, hz, hsg, h⟩ := h
    refine ⟨_, (pss_cons (ps_set (i := 1) nd rfl (.inl rfl) (pe_slice sl_str (pv 0) (po_some pe_int) (po_some (pe_un un_neg pe_int))))
      (pss_cons (ps_if (PW.pt (pw_or (pt_cmpR op_lt (pe_callB call_len_str (by rfl) T.n_len (by decide +kernel) (pa_cons (pv 0) pa_nil)) pe_int (nomark _)) (pw_or (pt_cmpR op_ne (pe_slice sl_str (pv 0) po_none (po_some pe_int)) pe_str (nomark _)) (pw_or (pt_cmpR op_ne (pe_slice sl_str (pv 0) (po_some (pe_un un_neg pe_int)) po_none) pe_str (nomark _)) (pw_or (pt_cmpR op_gt (pe_callB call_len_str (by rfl) T.n_len (by decide +kernel) (pa_cons (pv 1) pa_nil)) pe_int (nomark _)) (pw_or1 (pt_cmpR op_gt (pe_op op_mod (pe_callB call_len_str (by rfl) T.n_len (by decide +kernel) (pa_cons (pv 1) pa_nil)) pe_int) pe_int (nomark _))))))))
        (pss_one (ps_ret pe_non))
        pss_nil)
      (pss_cons (ps_set (i := 2) nd rfl (.inl rfl) (pe_m1 PySem.F.slot_str_rstrip PySem.F.type_str_rstrip mt_rstripChars (pv 1) pe_str))
      (pss_cons (ps_set (i := 3) nd rfl (.inl rfl) (pe_dget2 (LH.unit1 hr) (pe_disp (pps_cons pe_int pe_int (pps_cons pe_int pe_int pps_nil)) (by rfl) (by rfl) (fun z => by cases z) (by decide)) (pe_op op_mod (pe_callB call_len_str (by rfl) T.n_len (by decide +kernel) (pa_cons (pv 2) pa_nil)) pe_int) pe_int ⟨by rfl, by rfl, by rfl, by rfl⟩))
      (pss_cons (ps_if (PW.pt (pw_or (pt_cmpR op_eq (pv 2) pe_str (nomark _)) (pw_or (pt_cmpR op_gt (pe_op op_sub (pe_callB call_len_str (by rfl) T.n_len (by decide +kernel) (pa_cons (pv 1) pa_nil)) (pe_callB call_len_str (by rfl) T.n_len (by decide +kernel) (pa_cons (pv 2) pa_nil))) pe_int (nomark _)) (pw_or1 (pt_cmpR (oNeD K hr.units) (pe_lc (own := [("_law_sign", 5)]) (g := gName 5) (by rfl) nd (pi_str (pv 2)) (blkOk_by (N := N__law_word_bytes) (sc := defScope s__law_word_bytes) (by decide +kernel)) (fun _ _ _ _ _ => (pg_name (i := 5) nd rfl (Or.inl rfl))) (fun _ _ _ _ _ => (pts_one (pt_cmpR op_notIn_sign (pv 5) (pe_def0 D__law_sixty (hr.mono (by decide))) rfl))) (fun _ _ _ _ _ => (pv 5))) (pe_lst pa_nil) (nomark _))))))
        (pss_one (ps_ret pe_non))
        pss_nil)
      (pss_cons (ps_if (PW.pt (pw_or (pt_cmpR op_eq (pe_op op_mod (pe_callB call_len_str (by rfl) T.n_len (by decide +kernel) (pa_cons (pv 2) pa_nil)) pe_int) pe_int (nomark _)) (pw_or1 (pt_cmpR op_gt (pe_op op_mod (pe_m1 PySem.F.slot_str_index PySem.F.type_str_index mt_sindex (pe_def0 D__law_sixty (hr.mono (by decide))) (pe_ix ix_str (pv 2) (pe_un un_neg pe_int) (fun _ _ => rfl))) (pv 3)) pe_int (nomark _)))))
        (pss_one (ps_ret pe_non))
        pss_nil)
      (pss_cons (ps_set (i := 4) nd rfl (.inr rfl) (pe_lst pa_nil))
      (pss_cons (ps_for PassesOwn.never rfl (pi_str (pv 2)) (pg_name (i := 5) nd rfl (Or.inl rfl))
        (pss_one (ps_expr (pe_bm PySem.F.plainAttrs_list PySem.F.slot_list_extend PySem.F.type_list_extend mt_extend (pv 4) (pa_cons (pe_def D__law_bits (hr.mono (by decide)) (pa_cons (pe_m1 PySem.F.slot_str_index PySem.F.type_str_index mt_sindex (pe_def0 D__law_sixty (hr.mono (by decide))) (pv 5)) (pa_cons pe_int pa_nil))) pa_nil)))))
      (pss_one (ps_ret (pe_lc (own := [("_law_at", 6)]) (g := gName 6) (by rfl) nd (pi_range3 (by rfl) T.n_range (pa_cons pe_int (pa_cons (pe_op op_sub (pe_callB (cLen K) (by rfl) T.n_len (by decide +kernel) (pa_cons (pv 4) pa_nil)) pe_int) (pa_cons pe_int pa_nil)))) (blkOk_by (N := N__law_word_bytes) (sc := defScope s__law_word_bytes) (by decide +kernel)) (fun _ _ _ _ _ => (pg_name (i := 6) nd rfl (Or.inl rfl))) (fun _ _ _ _ _ => pts_nil) (fun _ _ _ _ _ => (pe_def D__law_number (hr.mono (by decide)) (pa_cons (pe_slice (slL K) (pv 4) (po_some (pv 6)) (po_some (pe_op op_add (pv 6) pe_int))) pa_nil)))))))))))))), ?_⟩
    dsimp only [tSeq, tAsg, gName]
    have hzs : z.length ≤ sizeLine := by rw [sizeLine_eq]; omega
    refine ⟨.str z, rfl, 2, rfl, 2, rfl, _, rfl, z, rfl, hzs, ?_⟩
    rw [show (-(2 : Int)) = -2 from rfl]
    have hm : TL.tl (cutS z (some 2) (some (-2))) = inner (TL.tl z) := cutS_mid z
    have ht2 : TL.tl (cutS z none (some 2)) = (TL.tl z).take 2 := by rw [show (2 : Int) = ((2 : Nat) : Int) from rfl, cutS_to]
    have hd2 := cutS_two z
    generalize cutS z (some 2) (some (-2)) = y at *
    have hzl : z.length = (TL.tl z).length := TL.len_tl z
    have hyl : y.length = (inner (TL.tl z)).length := by rw [TL.len_tl, hm]
    have hil : (inner (TL.tl z)).length ≤ (TL.tl z).length := by unfold inner; rw [List.length_take, List.length_drop]; omega
    have hys : y.length ≤ sizeLine := by rw [sizeLine_eq]; omega
    obtain ⟨b, k, eb, hb⟩ := strip_split _ (inner (TL.tl z)) rfl
    have hbk : (inner (TL.tl z)).length = b.length + k := by rw [eb, rep_len]
    have h61 : TL.tl (Str.ofString "=?") = [61, 63] := by decide +kernel
    have h63 : TL.tl (Str.ofString "?=") = [63, 61] := by decide +kernel
    refine ifT (decide (z.length < 8) || (!decide ((TL.tl z).take 2 = [61, 63]) || (!decide ((TL.tl z).drop ((TL.tl z).length - 2) = [63, 61]) || (decide (32 < y.length) || decide (0 < y.length % 4)))))
      (fun q0 q => orT _ _ (fun q1 p1 => ⟨.str z, rfl, z, rfl, hzs, _, 8, rfl, rfl, _, rfl, TellB.eq (decide_eq_decide.mpr (by omega)) p1 _ (Same.refl _)⟩) (fun _ Ha qa sa pa => orT _ _ (fun q1 p1 => ⟨.str z, rfl, 2, rfl, z, rfl, hzs, rfl, _, rfl, TellB.eq (by rw [str_dec, ht2, h61]) p1 _ (Same.refl _)⟩) (fun _ Hb qb sb pb => orT _ _ (fun q1 p1 => ⟨.str z, rfl, 2, rfl, _, rfl, z, rfl, hzs, rfl, _, rfl, TellB.eq (by rw [str_dec, show (-(2 : Int)) = -2 from rfl, hd2, h63]) p1 _ (Same.refl _)⟩) (fun _ Hc qc sc pc => orT _ _ (fun q1 p1 => ⟨.str y, rfl, y, rfl, hys, _, 32, rfl, rfl, _, rfl, TellB.eq (decide_eq_decide.mpr (by omega)) p1 _ (Same.refl _)⟩) (fun _ Hd qd sd pd => ⟨.str y, rfl, y, rfl, hys, _, 4, rfl, rfl, (show (0 : Int) < 4 by decide), _, 0, rfl, rfl, _, rfl, TellB.eq (decide_eq_decide.mpr (by omega)) pd _ (Same.refl _)⟩) pc) pb) pa) q)
      (fun hc H1 s1 => ?_) (fun hc H1 s1 => ?_)
    · refine h.1 (wordV_not eb hb ?_) _ s1
      rintro ⟨h1, h2, h3⟩
      obtain ⟨g1, g2, g3⟩ := cut_back h1
      have hp : 0 < b.length := List.length_pos_iff.mpr h3.2.1
      have h4 := h3.1
      rw [decide_eq_false (show ¬ z.length < 8 by omega), decide_eq_true g2, decide_eq_true g3, decide_eq_false (show ¬ 32 < y.length by omega), decide_eq_false (show ¬ 0 < y.length % 4 by omega)] at hc
      exact nomatch hc
    · simp only [Bool.or_eq_false_iff, Bool.not_eq_false', decide_eq_true_eq, decide_eq_false_iff_not] at hc
      obtain ⟨c1, c2, c3, c4, c5⟩ := hc
      have hw := word_cut (by omega) c2 c3
      dsimp only [tNext, tSeq, tAsg]
      refine ⟨.str y, rfl, ⟨_, rfl⟩, y, Str.ofString "=", rfl, rfl, hys, ?_⟩
      have hB : TL.tl (Txt.rstripChars y (Str.ofString "=")) = b := rstrip_app y _ 61 b k eqS_tl (by rw [hm, eb]) hb
      generalize Txt.rstripChars y (Str.ofString "=") = B at *
      have hBl : B.length = b.length := by rw [TL.len_tl, hB]
      have hBs : B.length ≤ sizeLine := by rw [sizeLine_eq]; omega
      dsimp only [gName]
      refine fun p np => ⟨upd_same, [(Sum.inl 2, .int 16), (Sum.inl 3, .int 4)], rfl, by decide, p, rfl, .inl ⟨_, .inl upd_same⟩, .str B, rfl, B, rfl, hBs, _, 4, rfl, rfl, (show (0 : Int) < 4 by decide), _, DGet.k (k := Sum.inl (((TL.tl B).length % 4 : Nat) : Int)) upd_same, ?_⟩
      have hv : ∀ m, m < 4 → (valV (mergeK [] [(Sum.inl 2, V.int 16), (Sum.inl 3, V.int 4)]) (Sum.inl ((m : Nat) : Int))).getD (V.int 1) = .int ((if m = 2 then 16 else if m = 3 then 4 else 1 : Nat) : Int) := fun m hm => by
        have : m = 0 ∨ m = 1 ∨ m = 2 ∨ m = 3 := by omega
        rcases this with rfl | rfl | rfl | rfl <;> rfl
      dsimp only [gName]
      rw [hv _ (Nat.mod_lt _ (by decide)), hB]
      have hm0 : 0 < leftM b := by unfold leftM; split <;> (try split) <;> decide
      have hlm : (if b.length % 4 = 2 then 16 else if b.length % 4 = 3 then 4 else 1 : Nat) = leftM b := rfl
      rw [hlm]
      generalize hG : upd (upd H1 p _) p _ = G1
      have s2 : Same H G1 := fun d x e => by
        have e1 := s1 _ _ e
        have hd : d ≠ p := ne_of_none e1 np
        rw [← hG, upd_ne hd, upd_ne hd]
        exact e1
      clear hG
      obtain ⟨L, hL⟩ : ∃ L : List Str, L = ((List.range b.length).filter fun i => !in64 (b.getD i 0)).map fun i => (⟨#[b.getD i 0]⟩ : Str) := ⟨_, rfl⟩
      have hok : ∀ x ∈ L, OkS x := fun x hx => by
        rw [hL] at hx
        obtain ⟨i, hi, rfl⟩ := List.mem_map.mp hx
        have hi := List.mem_range.mp (List.mem_filter.mp hi).1
        intro c hc
        have hc : c = b.getD i 0 := by
          have : c ∈ [b.getD i 0] := hc
          exact List.mem_singleton.mp this
        have hmem : c ∈ TL.tl z := by
          rw [hc]
          have h1 : b.getD i 0 ∈ inner (TL.tl z) := by rw [eb]; exact List.mem_append_left _ (getD_mem b 0 hi)
          unfold inner at h1
          exact List.mem_of_mem_drop (List.mem_of_mem_take h1)
        have := hsg c hmem
        unfold isSgn at this
        simp only [Bool.and_eq_true, decide_eq_true_eq] at this
        omega
      have hAll : L = [] → All64 b := fun h0 x hx => by
        obtain ⟨i, hi, rfl⟩ := List.getElem_of_mem hx
        cases hin : in64 b[i] with
        | true => rfl
        | false =>
          have : (⟨#[b.getD i 0]⟩ : Str) ∈ L := by
            rw [hL]
            refine List.mem_map.mpr ⟨i, List.mem_filter.mpr ⟨List.mem_range.mpr hi, ?_⟩, rfl⟩
            rw [List.getD_eq_getElem?_getD, List.getElem?_eq_getElem hi, Option.getD_some, hin]
            rfl
          rw [h0] at this
          exact nomatch this
      have hNot : All64 b → L = [] := fun hA => by
        rw [hL, List.map_eq_nil_iff, List.filter_eq_nil_iff]
        intro i hi
        rw [hA _ (getD_mem b 0 (List.mem_range.mp hi))]
        exact Bool.false_ne_true
      refine ifT (decide (b = []) || (decide (2 < k) || !decide (L = []))) (fun q0 q => orT _ _ (fun q1 p1 => ⟨.str B, rfl, rfl, _, rfl, TellB.eq (by rw [str_dec, hB, show TL.tl (Str.ofString "") = [] by decide +kernel]) p1 _ (Same.refl _)⟩) (fun _ Ha qa sa pa => orT _ _ (fun q1 p1 => ⟨.str y, rfl, y, rfl, hys, .str B, rfl, B, rfl, hBs, _, _, rfl, rfl, _, 2, rfl, rfl, _, rfl, TellB.eq (decide_eq_decide.mpr (by omega)) p1 _ (Same.refl _)⟩) (fun _ Hb qb sb pb => ⟨.str B, rfl, B, rfl, fun D hD => lc_filt (fun i => .str ⟨#[(TL.tl B).getD i 0]⟩) (fun i => .str ⟨#[(TL.tl B).getD i 0]⟩) (fun i => !in64 ((TL.tl B).getD i 0)) walk_strF (fun _ _ => trivial) hD (by rw [← TL.len_tl]; exact hBs) (fun i H2 Q2 hi s3 q2 => ⟨_, rfl, rfl, _, S64, rfl, rfl, _, rfl, q2 _ (Same.refl _)⟩) (fun i H2 Q2 hi s3 hf q2 => ⟨_, rfl, q2 _ (Same.refl _)⟩) (fun H2 s3 e => ?_)⟩) pa) q) (fun hc H2 s3 => ?_) (fun hc H2 s3 => ?_)
      · rw [hB] at e
        have e : H2 D = some (.lst (L.map V.str)) := by rw [e, hL, List.map_map]; rfl
        exact ⟨Nat.zero_le _, fun g ng => ⟨_, _, dp_strs (.inl (.inl (same_upd ng _ _ e))), dp_strs (bs := []) (.inl (.inl upd_same)), shaped_strs L hok, shaped_strs [] (fun _ h => by cases h), _, rfl, TellB.eq (congrArg (! ·) (eqv_strsL _ [])) pb _ (s3.trans (same_upd ng))⟩⟩
      · refine h.1 (wordV_not eb hb ?_) _ (s2.trans s3)
        rintro ⟨_, _, h3⟩
        rw [decide_eq_false h3.2.1, decide_eq_false (show ¬ 2 < k by have := h3.2.2.1; omega), decide_eq_true (hNot h3.2.2.2.1)] at hc
        exact nomatch hc
      · simp only [Bool.or_eq_false_iff, Bool.not_eq_false', decide_eq_true_eq, decide_eq_false_iff_not] at hc
        obtain ⟨d1, d2, d3⟩ := hc
        have hA := hAll d3
        have hin := all64_last hA d1
        obtain ⟨rest, hocc⟩ := (find64 hin).2
        have hbl : b64 (lastN b) = ix64 (lastN b) := if_pos hin
        rw [← hbl] at hocc
        dsimp only [tNext, tSeq, tAsg]
        have hat : atI B.cps.toList (-1) = some (lastN b) := by
          show atI (TL.tl B) (-1) = _
          rw [hB]
          exact (last_at d1).2
        refine ifT (decide (b.length % 4 = 1) || decide (0 < b64 (lastN b) % leftM b)) (fun q0 q => orT _ _ (fun q1 p1 => ⟨.str B, rfl, B, rfl, hBs, _, 4, rfl, rfl, (show (0 : Int) < 4 by decide), rfl, _, rfl, TellB.eq (decide_eq_decide.mpr ⟨fun e => by have := V.int.inj e; omega, fun e => congrArg V.int (by omega)⟩) p1 _ (Same.refl _)⟩) (fun _ Ha qa sa pa => ⟨rfl, ⟨S64, rfl⟩, .str B, rfl, 1, rfl, B, -1, lastN b, rfl, rfl, hBs, hat, S64, _, b64 (lastN b), rest, rfl, rfl, hocc, .int ((leftM b : Nat) : Int), rfl, _, _, rfl, rfl, (show (0 : Int) < ((leftM b : Nat) : Int) by omega), _, 0, rfl, rfl, _, rfl, TellB.eq (decide_eq_decide.mpr (by rw [← Int.natCast_emod]; omega)) pa _ (Same.refl _)⟩) q) (fun hc2 H3 s4 => ?_) (fun hc2 H3 s4 => ?_)
        · refine h.1 (wordV_not eb hb ?_) _ (s2.trans (s3.trans s4))
          rintro ⟨_, _, h3⟩
          rw [decide_eq_false h3.2.2.2.2.1, decide_eq_false (show ¬ 0 < b64 (lastN b) % leftM b by have := h3.2.2.2.2.2; omega)] at hc2
          exact nomatch hc2
        · simp only [Bool.or_eq_false_iff, decide_eq_false_iff_not] at hc2
          have hL2 : LawOk b k := ⟨by omega, d1, by omega, hA, hc2.1, by omega⟩
          have q := h.2 _ (wordV_law eb hb hw (by omega) hL2)
          have S4 := s2.trans (s3.trans s4)
          dsimp only [tNext, tSeq, tAsg]
          refine ⟨Nat.zero_le _, fun o no => ?_⟩
          dsimp only [gName]
          have s0 := S4.trans (same_upd (o := .lst []) no)
          have no' : H o = none := S4.free no
          have h6 := bits6_len b
          refine ⟨.str B, rfl, B, rfl, for_it walk_strF (fun i σ H' => ∃ y5 : Option V, σ = [some (.str z), some (.str y), some (.str B), some (.int ((leftM b : Nat) : Int)), some (.ref o), y5, none] ∧ Same H H' ∧ H' o = some (.lst (nb (bits6 (b.take i))))) ⟨none, rfl, s0, upd_same⟩ (fun _ _ _ _ _ => trivial) (fun i x σ H5 H6 hi hP hy => ?_) (fun σ H5 hP => ?_)⟩
          · obtain ⟨y5, rfl, sm, eo⟩ := hP
            obtain ⟨rfl, rfl⟩ := hy
            rw [hB] at hi ⊢
            dsimp only [gName]
            have hc : in64 b[i] = true := hA _ (List.getElem_mem hi)
            have htk : bits6 (b.take (i + 1)) = bits6 (b.take i) ++ bitsN (b64 b[i]) 6 := by
              unfold bits6
              rw [List.take_add_one, List.getElem?_eq_getElem hi, Option.toList_some, List.map_append, List.flatten_append]
              simp
            have hl6 := bits6_len (b.take i)
            rw [List.length_take] at hl6
            rw [List.getD_eq_getElem?_getD, List.getElem?_eq_getElem hi, Option.getD_some]
            generalize b[i] = c at *
            obtain ⟨rest2, hocc2⟩ := (find64 hc).2
            have hb2 : b64 c = ix64 c := if_pos hc
            rw [← hb2] at hocc2
            refine ⟨.ref o, rfl, .inl ⟨rfl, _, .inl (.inl eo)⟩, rfl, ⟨S64, rfl⟩, .str ⟨#[c]⟩, rfl, S64, ⟨#[c]⟩, b64 c, rest2, rfl, rfl, hocc2, b64 c, 6, rfl, by decide, fun H7 p7 s7 n7 e7 => ⟨o, p7, _, _, rfl, rfl, s7 _ _ eo, e7, ?_, ?_⟩⟩
            · unfold nb
              rw [List.length_map, List.length_map, hl6, bitsN_len, sizeLine_eq]
              omega
            · refine ⟨_, rfl, fun d x e => ?_, ?_⟩
              · rw [upd_ne (ne_of_none e no')]
                exact s7 _ _ (sm _ _ e)
              · rw [upd_same, htk]
                unfold nb
                rw [List.map_append]
          · obtain ⟨y5, rfl, sm, eo⟩ := hP
            rw [hB, List.take_length] at eo
            have hnb : (nb (bits6 b)).length = (bits6 b).length := by unfold nb; rw [List.length_map]
            refine ⟨.ref o, rfl, o, _, rfl, .inl (.inl (.inl eo)), _, 7, rfl, rfl, 0, _, 8, (bits6 b).length / 8, rfl, by rw [hnb]; exact rg8 _ (by omega), fun D hD => lc_pure (fun i => .int (0 + ((i : Nat) : Int) * 8)) (fun i => .int (numB (((bits6 b).drop (8 * i)).take 8) : Nat)) walk_rangeC (fun _ _ => trivial) hD (by rw [sizeLine_eq]; omega) (fun i H7 Q7 hi s7 q7 => ?_) (fun H7 s7 e => ?_)⟩
            · refine ⟨.ref o, rfl, .int (0 + ((i : Nat) : Int) * 8), rfl, _, rfl, .int (0 + ((i : Nat) : Int) * 8), rfl, _, 8, rfl, rfl, _, rfl, o, _, rfl, .inl (.inl (s7 _ _ eo)), fun g ng => ⟨g, _, rfl, by rw [upd_same, nb_cut], fun H8 s8 => q7 _ ((same_upd ng).trans s8)⟩⟩
            · refine q H7 D (sm.trans s7) (sm.free hD) ?_
              rw [e]
              unfold eights nb
              rw [List.map_map]
              rfl
end
end K09

namespace K09
open PySem PySem.Spec PyProof.Rows L2 LH
section
variable {P : Program} {w : World} {K : PySem.W.Frag} {mg : Str → Option Value} {base : Heap} {tk : Nat → Tok} {ca : Nat → Addr}
/-! ### the signs -/
def SG1 : Str := Str.ofString " !\"#$&'()*+,-./0123456789:;<=>?@ABCDEFGHIJKLMNOPQRSTUVWXYZ[\\]^_`"
def SG2 : Str := Str.ofString "abcdefghijklmnopqrstuvwxyz{|}~"
def SIGNS : Str := SG1 ++ SG2
theorem SIGNS_len : SIGNS.length = 94 := by
  unfold SIGNS
  rw [len_app]
  decide +kernel
theorem sg_at : ∀ b : Fin 127, isSgn b.val = true → (TL.tl SG1 ++ TL.tl SG2)[b.val - 32 - (if b.val > 37 then 1 else 0)]? = some b.val := by decide +kernel
/-! ### _law_signs -/
abbrev s__law_signs : Stmt := topS 62
abbrev N__law_signs : List Str := ["_law_some"]
abbrev P__law_signs : List Str := []
theorem sc__law_signs : FnScope N__law_signs [] (defScope s__law_signs) := ⟨rfl, rfl, rfl, by decide +kernel, rfl, by decide +kernel, by decide +kernel⟩
def sp_signs : Sp := fun vs H Q _ => vs = [] ∧ Q (.str SIGNS) H
theorem ok_signs {f : Addr} {fd : FuncData} {k : Nat} (F : Fun K "_law_signs" "_law_signs" s__law_signs f fd) : FnOk P w K mg base CX0 (k + 1) f fd P__law_signs sp_signs := by
  refine F.ok sc__law_signs (fun vs H Q E h => ?_) (fun cdv A outer s H vs Q E hr h => ?_)
  · obtain ⟨rfl, _⟩ := h
    rfl
  · have nd := sc__law_signs.nd
    obtain ⟨rfl, q⟩ := h
    refine ⟨_, (pss_cons (ps_set (i := 0) nd rfl (.inl rfl) pe_str)
      (pss_one (ps_ret (pe_op op_add_str (pv 0) pe_str)))), ?_⟩
    exact ⟨.str SG1, rfl, SG1, SG2, rfl, rfl, Nat.le_of_lt (small1000 (by decide +kernel)), q⟩
theorem SIGNS_tl : TL.tl SIGNS = TL.tl SG1 ++ TL.tl SG2 := by
  show (SG1.cps ++ SG2.cps).toList = _
  rw [Array.toList_append]
theorem signs_nodup : (TL.tl SIGNS).Nodup := by rw [SIGNS_tl]; decide +kernel
theorem sgn_find {c : Nat} (h : isSgn c = true) : ∃ i rest, Builtin.Str.occurrences SIGNS ⟨#[c]⟩ 0 SIGNS.length 1 = i :: rest ∧ (32 : Int) + (i : Nat) + (if decide ((36 : Int) < 32 + (i : Nat)) = true then 1 else 0) = (c : Nat) := by
  have hs := h
  unfold isSgn at hs
  simp only [Bool.and_eq_true, decide_eq_true_eq, Bool.not_eq_true', decide_eq_false_iff_not] at hs
  have hm := sg_at ⟨c, by omega⟩ h
  rw [← SIGNS_tl] at hm
  dsimp only at hm
  obtain ⟨hlt, he⟩ := List.getElem?_eq_some_iff.mp hm
  obtain ⟨_, rest, hocc⟩ := find_at SIGNS _ hlt signs_nodup
  rw [he] at hocc
  refine ⟨_, rest, hocc, ?_⟩
  by_cases h37 : c > 37
  · rw [if_pos h37, decide_eq_true (by omega), if_pos rfl]
    omega
  · rw [if_neg h37, decide_eq_false (by omega), if_neg Bool.false_ne_true]
    omega
/-- a sign's place among the signs, and 32 -/
def plc (c : Nat) : Int := if 37 < c then (c : Nat) - 1 else (c : Nat)
theorem plc_find {c : Nat} (h : isSgn c = true) : ∃ i rest, Builtin.Str.occurrences SIGNS ⟨#[c]⟩ 0 SIGNS.length 1 = i :: rest ∧ (32 : Int) + (i : Nat) = plc c := by
  obtain ⟨i, rest, h1, h2⟩ := sgn_find h
  refine ⟨i, rest, h1, ?_⟩
  have h37 : c ≠ 37 := fun e => by rw [e] at h; exact absurd h (by decide)
  unfold plc
  by_cases hi : (36 : Int) < 32 + (i : Nat)
  · rw [decide_eq_true hi, if_pos rfl] at h2
    rw [if_pos (by omega)]
    omega
  · rw [decide_eq_false hi, if_neg Bool.false_ne_true] at h2
    rw [if_neg (by omega)]
    omega
theorem plc_back {c : Nat} (h : isSgn c = true) : plc c + (if decide (36 < plc c) = true then 1 else 0) = (c : Nat) := by
  have h37 : c ≠ 37 := fun e => by rw [e] at h; exact absurd h (by decide)
  unfold plc
  by_cases hc : 37 < c
  · rw [if_pos hc, decide_eq_true (by omega), if_pos rfl]; omega
  · rw [if_neg hc, decide_eq_false (by omega), if_neg Bool.false_ne_true]; omega
/-! ### _law_sign_bytes -/
abbrev s__law_sign_bytes : Stmt := topS 69
abbrev N__law_sign_bytes : List Str := ["_law_text", "_law_found", "_law_sign", "_law_byte"]
abbrev P__law_sign_bytes : List Str := ["_law_text"]
theorem sc__law_sign_bytes : FnScope N__law_sign_bytes ["_law_text"] (defScope s__law_sign_bytes) := ⟨rfl, rfl, rfl, by decide +kernel, rfl, by decide +kernel, by decide +kernel⟩
def sp_lsignb : Sp := fun vs H Q _ => ∃ z : Str, vs = [.str z] ∧ z.length ≤ 100000 ∧ (∀ c ∈ TL.tl z, isSgn c = true) ∧ New H (nb (TL.tl z)) Q
theorem ok_lsignb {f1 f : Addr} {fd1 fd : FuncData} (F : Fun K "_law_sign_bytes" "_law_sign_bytes" s__law_sign_bytes f fd) (T : Tx mg tk) (D__law_signs : Def P w K mg base "_law_signs" 1 f1 fd1 P__law_signs sp_signs) : FnOk P w K mg base CX0 2 f fd P__law_sign_bytes sp_lsignb := by
  refine F.ok sc__law_sign_bytes (fun vs H Q E h => ?_) (fun cdv A outer s H vs Q E hr h => ?_)
  · obtain ⟨z, rfl, _⟩ := h
    rfl
  · have nd := sc__law_sign_bytes.nd
    obtain ⟨z, rfl, hz, hsg, q⟩ := h
    refine ⟨_, (pss_cons (ps_setLc (i := 1) (own := [("_law_sign", 2)]) (g := gName 2) (by rfl) nd rfl rfl (sw_true rfl rfl rfl (by decide +kernel)) (pi_str (pv 0)) (blkOk_by (N := N__law_sign_bytes) (sc := defScope s__law_sign_bytes) (by decide +kernel)) (fun _ _ _ _ _ => (pg_name (i := 2) nd rfl (Or.inl rfl))) (fun _ _ _ _ _ => pts_nil) (fun _ _ _ _ _ => (pe_op op_add pe_int (pe_m1 PySem.F.slot_str_index PySem.F.type_str_index mt_sindex (pe_def0 D__law_signs (hr.mono (by decide))) (pv 2)))))
      (pss_one (ps_ret (pe_lc (own := [("_law_byte", 3)]) (g := gName 3) (by rfl) nd (pi_list (pv 1)) (blkOk_by (N := N__law_sign_bytes) (sc := defScope s__law_sign_bytes) (by decide +kernel)) (fun _ _ _ _ _ => (pg_name (i := 3) nd rfl (Or.inl rfl))) (fun _ _ _ _ _ => pts_nil) (fun _ _ _ _ _ => (pe_op op_add (pv 3) (pe_callTy call_int1 (by rfl) T.n_int (by decide +kernel) (pa_cons (pe_cmpR op_gt (pv 3) pe_int (nomark _)) pa_nil)))))))), ?_⟩
    dsimp only [tSeq, tAsg]
    have hzl : z.length = (TL.tl z).length := TL.len_tl z
    have hnz : (TL.tl z).length ≤ sizeLine := by rw [sizeLine_eq]; omega
    refine ⟨.str z, rfl, z, rfl, fun D hD => lc_pure (fun i => .str ⟨#[(TL.tl z).getD i 0]⟩) (fun i => .int (plc ((TL.tl z).getD i 0))) walk_strF (fun _ _ => trivial) hD hnz (fun i H2 Q2 hi s2 q2 => ?_) (fun H2 s2 e => ?_)⟩
    · have hc := hsg _ (getD_mem (TL.tl z) 0 hi)
      generalize (TL.tl z).getD i 0 = c at *
      obtain ⟨ix, rest, hocc, hx⟩ := plc_find hc
      refine ⟨rfl, ⟨SIGNS, rfl⟩, .str ⟨#[c]⟩, rfl, SIGNS, ⟨#[c]⟩, ix, rest, rfl, rfl, hocc, 32, _, rfl, rfl, ?_⟩
      rw [← hx] at q2
      exact q2 _ (Same.refl _)
    · dsimp only [gName]
      have hlen : ((List.range (TL.tl z).length).map fun i => V.int (plc ((TL.tl z).getD i 0))).length = (TL.tl z).length := by rw [List.length_map, List.length_range]
      refine ⟨.ref D, rfl, D, rfl, ⟨_, .inl (.inl e)⟩, fun D2 hD2 => lc_pure (fun i => ((List.range (TL.tl z).length).map fun i => V.int (plc ((TL.tl z).getD i 0))).getD i .non) (fun i => .int ((TL.tl z).getD i 0 : Nat)) walk_listF (fun H4 s4 => s4.seq (.inl (.inl e))) hD2 (by rw [hlen]; exact hnz) (fun i H4 Q4 hi s4 q4 => ?_) (fun H4 s4 e4 => ?_)⟩
      · rw [hlen] at hi
        have hc := hsg _ (getD_mem (TL.tl z) 0 hi)
        have hat : ((List.range (TL.tl z).length).map fun i => V.int (plc ((TL.tl z).getD i 0))).getD i .non = .int (plc ((TL.tl z).getD i 0)) := by
          rw [List.getD_eq_getElem?_getD, List.getElem?_map, List.getElem?_range hi]
          rfl
        rw [hat]
        generalize (TL.tl z).getD i 0 = c at *
        refine ⟨.int (plc c), rfl, .int (plc c), rfl, _, 36, rfl, rfl, .inr ⟨_, rfl, _, _, rfl, rfl, ?_⟩⟩
        have hp := plc_back hc
        show Q4 (.int (plc c + if decide (36 < plc c) = true then 1 else 0)) H4
        rw [hp]
        exact q4 _ (Same.refl _)
      · rw [hlen] at e4
        refine q H4 D2 (s2.trans s4) (s2.free hD2) ?_
        rw [e4]
        have : (List.range (TL.tl z).length).map (fun i => V.int ((TL.tl z).getD i 0 : Nat)) = nb (TL.tl z) := by
          unfold nb
          exact List.ext_getElem (by simp) fun i h1 h2 => by
            rw [List.getElem_map, List.getElem_map, List.getElem_range, List.getD_eq_getElem?_getD, List.getElem?_eq_getElem (by simpa using h2)]
            rfl
        rw [this]
theorem via_cont {X : VK → Prop} {R0 : VK} (C : VK → Prop) (h : ∀ R, C R → X R) (h2 : C R0) : X R0 := h R0 h2
/-! ### _law_value_bytes -/
abbrev s__law_value_bytes : Stmt := topS 70
abbrev N__law_value_bytes : List Str := ["_law_value_here", "_law_parts", "_law_found", "_law_part", "_law_word"]
abbrev P__law_value_bytes : List Str := ["_law_value_here"]
theorem sc__law_value_bytes : FnScope N__law_value_bytes ["_law_value_here"] (defScope s__law_value_bytes) := ⟨rfl, rfl, rfl, by decide +kernel, rfl, by decide +kernel, by decide +kernel⟩
def sp_lvalb : Sp := fun vs H Q _ => ∃ z : Str, vs = [.str z] ∧ z.length ≤ 90000 ∧ isVal (TL.tl z) = true ∧ New H (valueV (TL.tl z)) Q
theorem ok_lvalb {f1 f2 f : Addr} {fd1 fd2 fd : FuncData} (F : Fun K "_law_value_bytes" "_law_value_bytes" s__law_value_bytes f fd) (T : Tx mg tk) (D__law_word_bytes : Def P w K mg base "_law_word_bytes" 2 f1 fd1 P__law_word_bytes sp_lword) (D__law_sign_bytes : Def P w K mg base "_law_sign_bytes" 2 f2 fd2 P__law_sign_bytes sp_lsignb) : FnOk P w K mg base CX0 3 f fd P__law_value_bytes sp_lvalb := by
  refine F.ok sc__law_value_bytes (fun vs H Q E h => ?_) (fun cdv A outer s H vs Q E hr h => ?_)
  · obtain ⟨z, rfl, _⟩ := h
    rfl
  · have nd := sc__law_value_bytes.nd
    obtain ⟨z, rfl, hz, hv, q⟩ := h
    refine ⟨_, (pss_cons (ps_setLc (i := 1) (own := [("_law_word", 4)]) (g := gName 4) (by rfl) nd rfl rfl (sw_true rfl rfl rfl (by decide +kernel)) (pi_list (pe_split (pv 0) pe_str)) (blkOk_by (N := N__law_value_bytes) (sc := defScope s__law_value_bytes) (by decide +kernel)) (fun _ _ _ _ _ => (pg_name (i := 4) nd rfl (Or.inl rfl))) (fun _ _ _ _ _ => (pts_one (pt_cmpR op_ne (pv 4) pe_str (nomark _)))) (fun _ _ _ _ _ => (pe_def D__law_word_bytes (hr.mono (by decide)) (pa_cons (pv 4) pa_nil))))
      (pss_cons (ps_if (pt_cmpR (inD K (LH.room65 hr)) pe_non (pv 1) (by rfl))
        (pss_one (ps_ret (pe_def D__law_sign_bytes (hr.mono (by decide)) (pa_cons (pv 0) pa_nil))))
        pss_nil)
      (pss_cons (ps_set (i := 2) nd rfl (.inl rfl) (pe_lst pa_nil))
      (pss_cons (ps_for PassesOwn.never rfl (pi_list (pv 1)) (pg_name (i := 3) nd rfl (Or.inl rfl))
        (pss_one (ps_expr (pe_bm PySem.F.plainAttrs_list PySem.F.slot_list_extend PySem.F.type_list_extend mt_extend (pv 2) (pa_cons (pv 3) pa_nil)))))
      (pss_one (ps_ret (pv 2))))))), ?_⟩
    dsimp only [tSeq, tAsg]
    have hzz : z.length = (TL.tl z).length := TL.len_tl z
    have hsg := (isVal_iff hv).1
    have hwl := @word_len (TL.tl z)
    have hwm := words_many (TL.tl z)
    have hsgw : ∀ u ∈ wordsL (TL.tl z), ∀ c ∈ u, isSgn c = true := fun u hu c hc => by
      unfold wordsL at hu
      split at hu
      · exact nomatch hu
      · exact hsg c (splitL_mem 32 _ u hu c hc)
    have one : TL.tl (Str.ofString " ") = [32] := by decide +kernel
    have hsp : Txt.split z (Str.ofString " ") = strL (splitL 32 (TL.tl z)) := TL.map_tl_inj (by rw [split_tl one (by decide), strL_tls])
    have e0 : TL.tl (Str.ofString "") = [] := by decide +kernel
    unfold valueV at q
    refine via_cont (fun R => ∀ (D : Addr) (H4 : Hp) (as : List V), Same H H4 → H D = none → as.length = (wordsL (TL.tl z)).length → (∀ i, i < (wordsL (TL.tl z)).length → OptAt D H4 (wordV ((wordsL (TL.tl z)).getD i [])) (as.getD i .non)) → H4 D = some (.lst as) → R (.ref D) H4) (fun R hR => ?_) (fun D H4 as s4 nD hal ha e4 => ?_)
    · refine ⟨.str z, rfl, ⟨_, rfl⟩, z, Str.ofString " ", rfl, rfl, by decide +kernel, by rw [sizeLine_eq]; omega, fun p np => ?_⟩
      rw [hsp]
      have s2 := same_upd (o := .lst ((strL (splitL 32 (TL.tl z))).map V.str)) np
      have hm : ((strL (splitL 32 (TL.tl z))).map V.str).length = (splitL 32 (TL.tl z)).length := by rw [List.length_map, strL_len]
      by_cases h0 : TL.tl z = []
      · refine ⟨p, rfl, ⟨_, .inl (.inl upd_same)⟩, fun D hD => lc_filt (fun i => ((strL (splitL 32 (TL.tl z))).map V.str).getD i .non) (fun i => .non) (fun _ => false) walk_listF (fun H4 s4 => s4.seq (.inl (.inl upd_same))) hD (by rw [hm, h0, sizeLine_eq]; decide) (fun i H4 Q4 hi s4 q4 => ?_) (fun i H4 Q4 hi s4 hf q4 => nomatch hf) (fun H4 s4 e => ?_)⟩
        · rw [hm] at hi
          rw [strL_at _ i hi]
          have hi1 : i = 0 := by
            rw [h0] at hi
            have : i < 1 := hi
            omega
          refine ⟨_, rfl, rfl, _, rfl, ?_⟩
          rw [str_dec, e0, hi1, h0, show TL.tl (⟨((splitL 32 []).getD 0 []).toArray⟩ : Str) = [] from rfl]
          exact q4 _ (Same.refl _)
        · rw [show (List.range ((strL (splitL 32 (TL.tl z))).map V.str).length).filter (fun _ => false) = [] by simp] at e
          have hw0 : wordsL (TL.tl z) = [] := by unfold wordsL; rw [if_pos h0]
          exact hR D H4 [] (s2.trans s4) (s2.free hD) (by rw [hw0]; rfl) (fun i hi => by rw [hw0] at hi; exact absurd hi (Nat.not_lt_zero i)) e
      · have hw : wordsL (TL.tl z) = splitL 32 (TL.tl z) := by unfold wordsL; rw [if_neg h0]
        have hne := (isVal_iff hv).2 h0
        rw [hw] at hR hwl hwm hsgw
        generalize splitL 32 (TL.tl z) = us at *
        refine ⟨p, rfl, ⟨_, .inl (.inl upd_same)⟩, fun D hD => lc_optsT (fun i => ((strL us).map V.str).getD i .non) (fun i => wordV (us.getD i [])) walk_listF (fun H4 s4 => s4.seq (.inl (.inl upd_same))) hD (by rw [hm, sizeLine_eq]; omega) (fun i H4 Q4 hi s4 q4 => ?_) (fun i H4 Q4 hi s4 q4 => ?_) (fun H4 as s4 hal ha e4 => ?_)⟩
        · rw [hm] at hi
          rw [strL_at _ i hi]
          refine ⟨_, rfl, rfl, _, rfl, ?_⟩
          rw [str_dec, e0, decide_eq_false (fun e => hne (by rw [← show us.getD i [] = [] from e]; exact getD_mem us [] hi))]
          exact q4 _ (Same.refl _)
        · rw [hm] at hi
          rw [strL_at _ i hi]
          have hmi := getD_mem us [] hi
          have hli := hwl _ hmi
          have hsi := hsgw _ hmi
          generalize us.getD i [] = u at *
          exact ⟨_, rfl, ⟨u.toArray⟩, rfl, by rw [mk_len]; omega, hsi, q4⟩
        · rw [hm] at hal ha
          exact hR D H4 as (s2.trans s4) (s2.free hD) hal ha e4
    · generalize wordsL (TL.tl z) = us at *
      have hau : ∀ i, i < us.length → us[i]? = some (us.getD i []) := fun i hi => by rw [List.getD_eq_getElem?_getD, List.getElem?_eq_getElem hi]; rfl
      dsimp only [gName, tSeq]
      refine ifT (us.any fun u => (wordV u).isNone) (fun k q1 => ⟨.ref D, rfl, .none, (us.map fun u => (wordV u).map intsOf).map dOpt, .non, .lst (.inl (.inl e4)) (dpAll_opts (D := D) as _ (by rw [List.length_map]; omega) fun i hi => ?_), by rfl, shaped_opts _, _, rfl, ?_⟩) (fun hc H5 s5 => ?_) (fun hc H5 s5 => ?_)
      · have h1 := ha i (by omega)
        have h2 : (us.map fun u => (wordV u).map intsOf).getD i none = (wordV (us.getD i [])).map intsOf := by
          rw [List.getD_eq_getElem?_getD, List.getElem?_map, hau i (by omega)]
          rfl
        rw [h2, Option.map_map]
        cases hw : wordV (us.getD i []) with
        | none => rw [hw] at h1; exact h1
        | some xs =>
          rw [hw] at h1
          show OptAt D H4 (some ((intsOf xs).map V.int)) _
          rw [ints_of (wordV_ints hw)]
          exact h1
      · rw [any_opts, List.any_map]
        rw [show us.any (Option.isNone ∘ fun u => (wordV u).map intsOf) = us.any (fun u => (wordV u).isNone) from congrArg us.any (funext fun u => by cases h : wordV u <;> simp [h])]
        exact q1 _ (Same.refl _)
      · rw [if_pos hc] at q
        exact ⟨.str z, rfl, z, rfl, by omega, hsg, fun H6 p6 s6 n6 e6 => q H6 p6 (s4.trans (s5.trans s6)) ((s4.trans s5).free n6) e6⟩
      · rw [if_neg (by rw [hc]; exact Bool.false_ne_true)] at q
        dsimp only [tNext, tSeq, tAsg]
        have hso : ∀ i, i < us.length → ∃ r xs, wordV (us.getD i []) = some xs ∧ as.getD i .non = .ref r ∧ r ≠ D ∧ H4 r = some (.lst xs) := fun i hi => by
          rcases ha i hi with ⟨h1, _⟩ | h1
          · exfalso
            have : (us.any fun u => (wordV u).isNone) = true := List.any_eq_true.mpr ⟨us.getD i [], getD_mem us [] hi, by rw [h1]; rfl⟩
            rw [hc] at this
            exact nomatch this
          · exact h1
        refine ⟨Nat.zero_le _, fun o no => ?_⟩
        dsimp only [gName]
        have S5 := s4.trans s5
        have s0 := S5.trans (same_upd (o := .lst []) no)
        have no' : H o = none := S5.free no
        have s50 := same_upd (o := .lst []) no
        have hlen : ∀ i, (((us.take i).map fun u => (wordV u).getD []).flatten).length ≤ i * 24 := fun i => by
          have h1 := flat_le ((us.take i).map fun u => (wordV u).getD []) 24 fun x hx => by
            obtain ⟨u, _, rfl⟩ := List.mem_map.mp hx
            cases hw : wordV u with
            | none => exact Nat.zero_le _
            | some xs => exact wordV_len hw
          rw [List.length_map, List.length_take] at h1
          exact Nat.le_trans h1 (Nat.mul_le_mul_right 24 (Nat.min_le_left _ _))
        refine ⟨.ref D, rfl, D, rfl, ⟨_, .inl (.inl (s50 _ _ (s5 _ _ e4)))⟩, for_it (walk_listF (xs := as)) (fun i σ H' => ∃ y3 : Option V, σ = [some (.str z), some (.ref D), some (.ref o), y3, none] ∧ Same H5 H' ∧ H' o = some (.lst (((us.take i).map fun u => (wordV u).getD []).flatten))) ⟨none, rfl, s50, upd_same⟩ (fun i σ H' _ h => by obtain ⟨_, rfl, sm, _⟩ := h; exact .inl (.inl (sm _ _ (s5 _ _ e4)))) (fun i x σ H6 H7 hi hP hy => ?_) (fun σ H6 hP => ?_)⟩
        · obtain ⟨y3, rfl, sm, eo⟩ := hP
          obtain ⟨rfl, rfl⟩ := hy
          obtain ⟨r, xs, hw, hr2, hrD, hH⟩ := hso i (by omega)
          have her := sm _ _ (s5 _ _ hH)
          dsimp only [gName]
          rw [hr2]
          have h24 := wordV_len hw
          have hli := hlen i
          refine ⟨.ref o, rfl, .inl ⟨rfl, _, .inl (.inl eo)⟩, .ref r, rfl, o, r, _, _, rfl, rfl, eo, her, by rw [sizeLine_eq]; omega, ?_⟩
          refine ⟨_, rfl, fun d x e => ?_, ?_⟩
          · rw [upd_ne (ne_of_none e no)]
            exact sm _ _ e
          · rw [upd_same, List.take_add_one, hau i (by omega), Option.toList_some, List.map_append, List.flatten_append, List.map_cons, List.map_nil, List.flatten_cons, List.flatten_nil, List.append_nil, hw]
            rfl
        · obtain ⟨y3, rfl, sm, eo⟩ := hP
          rw [hal, List.take_length] at eo
          exact ⟨_, rfl, q H6 o (S5.trans sm) no' eo⟩
end
end K09

namespace K09
open PySem PySem.Spec PyProof.Rows L2 LH
theorem valueV_ints (v : List Nat) : ∀ x ∈ valueV v, ∃ i, x = V.int i := fun x hx => by
  unfold valueV at hx
  split at hx
  · obtain ⟨b, _, rfl⟩ := List.mem_map.mp hx
    exact ⟨_, rfl⟩
  · obtain ⟨l, hl, hx⟩ := List.mem_flatten.mp hx
    obtain ⟨u, _, rfl⟩ := List.mem_map.mp hl
    cases hw : wordV u with
    | none => rw [hw] at hx; exact nomatch hx
    | some xs => rw [hw] at hx; exact wordV_ints hw x hx
theorem valueV_len (v : List Nat) : (valueV v).length ≤ 24 * (v.length + 1) := by
  unfold valueV
  split
  · rw [nb_len]; omega
  · have h1 := flat_le ((wordsL v).map fun u => (wordV u).getD []) 24 fun x hx => by
      obtain ⟨u, _, rfl⟩ := List.mem_map.mp hx
      cases hw : wordV u with
      | none => exact Nat.zero_le _
      | some xs => exact wordV_len hw
    have h2 := words_many v
    rw [List.length_map] at h1
    omega
section
variable {P : Program} {w : World} {K : PySem.W.Frag} {mg : Str → Option Value} {base : Heap} {tk : Nat → Tok} {ca : Nat → Addr}
/-! ### _law_whole -/
abbrev s__law_whole : Stmt := topS 63
abbrev N__law_whole : List Str := ["_law_found"]
abbrev P__law_whole : List Str := ["_law_found"]
theorem sc__law_whole : FnScope N__law_whole ["_law_found"] (defScope s__law_whole) := ⟨rfl, rfl, rfl, by decide +kernel, rfl, by decide +kernel, by decide +kernel⟩
def sp_whole : Sp := fun vs H Q _ => ∃ i : Int, vs = [.int i] ∧ Tell H (.bl true) Q
theorem ok_whole {f : Addr} {fd : FuncData} {k : Nat} (F : Fun K "_law_whole" "_law_whole" s__law_whole f fd) (T : Tx mg tk) : FnOk P w K mg base CX0 (k + 1) f fd P__law_whole sp_whole := by
  refine F.ok sc__law_whole (fun vs H Q E h => ?_) (fun cdv A outer s H vs Q E hr h => ?_)
  · obtain ⟨i, rfl, _⟩ := h
    rfl
  · have nd := sc__law_whole.nd
    obtain ⟨i, rfl, q⟩ := h
    refine ⟨_, (pss_one (ps_ret (pe_and (pe_callB (cIsi K) (by rfl) T.n_isinstance (by decide +kernel) (pa_cons (pv 0) (pa_cons (pe_bltn (v := .ty "int") (by rfl) T.n_int (by decide +kernel) rfl) pa_nil))) (pe_one (pe_not (pe_callB (cIsi K) (by rfl) T.n_isinstance (by decide +kernel) (pa_cons (pv 0) (pa_cons (pe_bltn (v := .ty "bool") (by rfl) T.n_bool (by decide +kernel) rfl) pa_nil)))))))), ?_⟩
    refine ⟨.int i, rfl, .int i, .ty "int", _, _, true, rfl, .ty _, .base (.int i), kit_ty (by decide +kernel), true, rfl, iteT ?_⟩
    exact ⟨.int i, rfl, .int i, .ty "bool", _, _, false, rfl, .ty _, .base (.int i), kit_ty (by decide +kernel), false, rfl, q _ (Same.refl _)⟩
/-! ### _law_read_right -/
abbrev s__law_read_right : Stmt := topS 77
abbrev N__law_read_right : List Str := ["_law_value_here", "_law_due", "_law_turn", "_law_found", "_law_one"]
abbrev P__law_read_right : List Str := ["_law_value_here"]
theorem sc__law_read_right : FnScope N__law_read_right ["_law_value_here"] (defScope s__law_read_right) := ⟨rfl, rfl, rfl, by decide +kernel, rfl, by decide +kernel, by decide +kernel⟩
def sp_rright : Sp := fun vs H Q _ => ∃ z : Str, vs = [.str z] ∧ z.length ≤ 90000 ∧ isVal (TL.tl z) = true ∧ Tell H (.bl true) Q
theorem ok_rright {f1 f2 f3 f : Addr} {fd1 fd2 fd3 fd : FuncData} (F : Fun K "_law_read_right" "_law_read_right" s__law_read_right f fd) (T : Tx mg tk) (D__law_value_bytes : Def P w K mg base "_law_value_bytes" 3 f1 fd1 P__law_value_bytes sp_lvalb) (D__law_told : Def P w K mg base "_law_told" 9 f2 fd2 P__law_told (sp_told K)) (D__law_whole : Def P w K mg base "_law_whole" 1 f3 fd3 P__law_whole sp_whole) : FnOk P w K mg base CX0 10 f fd P__law_read_right sp_rright := by
  refine F.ok sc__law_read_right (fun vs H Q E h => ?_) (fun cdv A outer s H vs Q E hr h => ?_)
  · obtain ⟨z, rfl, _⟩ := h
    rfl
  · have nd := sc__law_read_right.nd
    obtain ⟨z, rfl, hz, hv, q⟩ := h
    refine ⟨_, (pss_cons (ps_set (i := 1) nd rfl (.inl rfl) (pe_def D__law_value_bytes (hr.mono (by decide)) (pa_cons (pv 0) pa_nil)))
      (pss_cons (ps_for PassesOwn.never rfl (pi_range1 (by rfl) T.n_range (pa_cons pe_int pa_nil)) (pg_name (i := 2) nd rfl (Or.inl rfl))
        (pss_cons (ps_set (i := 3) nd rfl (.inl rfl) (pe_def D__law_told (hr.mono (by decide)) (pa_cons pe_int (pa_cons (pv 0) pa_nil))))
        (pss_cons (ps_if (PW.pt (pw_or (pt_not (pt_val (pe_callB (cIsi K) (by rfl) T.n_isinstance (by decide +kernel) (pa_cons (pv 3) (pa_cons (pe_bltn (v := .ty "list") (by rfl) T.n_list (by decide +kernel) rfl) pa_nil))))) (pw_or (pt_cmpR (oNeD K hr.units) (pv 3) (pv 1) (nomark _)) (pw_or1 (pt_not (pt_val (pe_callB (cAll K) (by rfl) T.n_all (by decide +kernel) (pa_cons (pe_lc (own := [("_law_one", 4)]) (g := gName 4) (by rfl) nd (pi_list (pv 3)) (blkOk_by (N := N__law_read_right) (sc := defScope s__law_read_right) (by decide +kernel)) (fun _ _ _ _ _ => (pg_name (i := 4) nd rfl (Or.inl rfl))) (fun _ _ _ _ _ => pts_nil) (fun _ _ _ _ _ => (pe_def D__law_whole (hr.mono (by decide)) (pa_cons (pv 4) pa_nil)))) pa_nil))))))))
          (pss_one (ps_ret pe_bl))
          pss_nil)
        (pss_one (ps_expr (pe_bm PySem.F.plainAttrs_list PySem.F.slot_list_append PySem.F.type_list_append mt_append (pv 3) (pa_cons pe_int pa_nil)))))))
      (pss_one (ps_ret pe_bl)))), ?_⟩
    dsimp only [tSeq, tAsg]
    have hzl : z.length = (TL.tl z).length := TL.len_tl z
    have hin := valueV_ints (TL.tl z)
    have hln := valueV_len (TL.tl z)
    refine ⟨.str z, rfl, z, rfl, hz, hv, fun H1 d s1 nd1 ed => ?_⟩
    generalize hxs : valueV (TL.tl z) = xs at *
    dsimp only [gName]
    have hxl : xs.length ≤ sizeLine - 1 := by rw [sizeLine_eq]; omega
    have hxi : ∀ H' r, H' r = some (HO.lst xs) → SqL K H' r ((intsOf xs).map V.int) := fun H' r e => .inl (.inl (by rw [e, ints_of hin]))
    refine ⟨2, rfl, by decide, by decide, for_it walk_range (fun i σ H' => ∃ y2 y3 : Option V, σ = [some (.str z), some (.ref d), y2, y3, none] ∧ Same H1 H') ⟨none, none, rfl, Same.refl _⟩ (fun _ _ _ _ _ => trivial) (fun i x σ H2 H3 hi hP hy => ?_) (fun σ H2 hP => ?_)⟩
    · obtain ⟨y2, y3, rfl, sm⟩ := hP
      obtain ⟨rfl, rfl⟩ := hy
      dsimp only [gName, tSeq, tAsg]
      refine ⟨.str z, rfl, 1, .str z, rfl, .inr (.inr (.inr ⟨rfl, z, rfl, by omega, hv, fun H4 r s4 nr er => ?_⟩))⟩
      rw [hxs] at er
      have ed4 := s4 _ _ (sm _ _ ed)
      refine ifT false (fun k q1 => orT false false (fun k q2 => notT true (fun k q3 => ⟨.ref r, rfl, .ref r, .ty "list", _, _, true, rfl, .ty _, .base (.lst er), kit_ty (by decide +kernel), true, rfl, q3 _ (Same.refl _)⟩) q2) (fun _ Ha k sa q2 => orT false false (fun k q3 => ⟨.ref r, rfl, .ref d, rfl, _, _, dp_ints (hxi _ _ (sa _ _ er)), dp_ints (hxi _ _ (sa _ _ ed4)), shaped_intsL _, shaped_intsL _, _, rfl, TellB.eq (by rw [eqv_intsL, decide_eq_true rfl]; rfl) q3 _ (Same.refl _)⟩) (fun _ Hb k sb q3 => notT true (fun k q4 => ⟨.ref r, rfl, r, rfl, ⟨_, .inl (.inl (sb _ _ (sa _ _ er)))⟩, fun D hD => lc_pure (fun i => xs.getD i .non) (fun _ => .bl true) walk_listF (fun H6 s6 => s6.seq (.inl (.inl (sb _ _ (sa _ _ er))))) hD (by omega) (fun i H6 Q6 hi s6 q6 => ?_) (fun H6 s6 e => ?_)⟩) q3) q2) q1) (fun h => nomatch h) (fun _ H5 s5 => ?_)
      · obtain ⟨j, hj⟩ := hin _ (getD_mem xs .non hi)
        exact ⟨_, rfl, j, congrArg (fun x => [x]) hj, q6⟩
      · refine ⟨D, (List.range xs.length).map fun _ => true, rfl, .inl (.inl (by rw [e, List.map_map]; rfl)), _, rfl, ?_⟩
        rw [map_true]
        exact q4 _ s6
      · have er5 := s5 _ _ er
        refine ⟨.ref r, rfl, .inl ⟨rfl, _, .inl (.inl er5)⟩, r, xs, .int 7, rfl, rfl, er5, by rw [sizeLine_eq] at *; omega, _, _, rfl, fun c o' e => ?_⟩
        have hc : c ≠ r := ne_of_none (sm _ _ e) nr
        rw [upd_ne hc]
        exact s5 _ _ (s4 _ _ (sm _ _ e))
    · obtain ⟨y2, y3, rfl, sm⟩ := hP
      exact q _ (s1.trans sm)
end
end K09

namespace K09
open PySem PySem.Spec PyProof.Rows L2 LH
theorem t64_sgn {c : List Nat} (hc : BytesN c) : ∀ x ∈ t64 c, isSgn x = true ∧ x ≠ 32 := fun x hx => by
  obtain ⟨p, hp, rfl⟩ := List.getElem_of_mem hx
  obtain ⟨h1, h2, h3⟩ := (t64_good c hc).2 p _ (List.getElem?_eq_getElem hp)
  refine ⟨h3, fun e => ?_⟩
  have := (h2 (by rw [e]; decide)).1
  rw [e] at this
  exact absurd this (by decide +kernel)
theorem wordL_sgn {c : List Nat} (hc : BytesN c) : ∀ x ∈ wordL c, isSgn x = true ∧ x ≠ 32 := fun x hx => by
  unfold wordL at hx
  simp only [List.mem_append, List.mem_cons, List.not_mem_nil, or_false] at hx
  rcases hx with ((rfl | rfl) | h) | (rfl | rfl)
  · exact ⟨by decide +kernel, by decide⟩
  · exact ⟨by decide +kernel, by decide⟩
  · exact t64_sgn hc x h
  · exact ⟨by decide +kernel, by decide⟩
  · exact ⟨by decide +kernel, by decide⟩
theorem chunk_facts {l : List Nat} (hb : BytesN l) : ∀ c ∈ chunks 24 l, BytesN c ∧ c.length ≤ 24 ∧ 1 ≤ c.length := fun c hc => by
  obtain ⟨i, hi, rfl⟩ := List.getElem_of_mem hc
  have hn := chunks_len 24 l
  rw [chunk_at hi]
  exact ⟨fun x hx => hb x (List.mem_of_mem_drop (List.mem_of_mem_take hx)), by rw [List.length_take]; omega, by rw [List.length_take, List.length_drop]; omega⟩
theorem value_words {l : List Nat} (hb : BytesN l) (h : ¬ (allSgn l = true ∧ plainL l = true)) : l ≠ [] ∧ isVal (valueL l) = true ∧ wordsL (valueL l) = (chunks 24 l).map wordL := by
  have hl : l ≠ [] := fun e => h (by rw [e]; exact ⟨by decide +kernel, by decide +kernel⟩)
  have hcn : (chunks 24 l).map wordL ≠ [] := fun e => by
    have := congrArg List.length e
    rw [List.length_map, chunks_len] at this
    have := List.length_pos_iff.mpr hl
    simp only [List.length_nil] at *
    omega
  have hs : splitL 32 (TL.joinL [32] ((chunks 24 l).map wordL)) = (chunks 24 l).map wordL := splitL_join 32 _ hcn fun p hp h32 => by
    obtain ⟨c, hc, rfl⟩ := List.mem_map.mp hp
    exact (wordL_sgn (chunk_facts hb c hc).1 32 h32).2 rfl
  have hne : [] ∉ (chunks 24 l).map wordL := fun hm => by
    obtain ⟨c, hc, e⟩ := List.mem_map.mp hm
    exact nomatch e
  have hv : valueL l = TL.joinL [32] ((chunks 24 l).map wordL) := if_neg h
  have hv0 : valueL l ≠ [] := fun e => by
    rw [hv] at e
    rw [e] at hs
    exact hne (by rw [← hs]; simp [splitL])
  refine ⟨hl, ?_, ?_⟩
  · unfold isVal
    rw [Bool.and_eq_true]
    refine ⟨List.all_eq_true.mpr fun x hx => ?_, ?_⟩
    · rw [hv] at hx
      rcases joinL_mem [32] _ x hx with h32 | ⟨u, hu, hx⟩
      · rw [List.mem_singleton.mp h32]; decide +kernel
      · obtain ⟨c, hc, rfl⟩ := List.mem_map.mp hu
        exact (wordL_sgn (chunk_facts hb c hc).1 x hx).1
    · rw [decide_eq_false hv0, hv, hs, Bool.false_or, decide_eq_false hne]
      rfl
  · unfold wordsL
    rw [if_neg hv0, hv, hs]
theorem value_len {l : List Nat} (hb : BytesN l) (hl : l.length ≤ 4000) : (valueL l).length ≤ 90000 := by
  unfold valueL
  split
  · omega
  · have h1 := joinL_len [32] ((chunks 24 l).map wordL)
    have h2 : ∀ cs : List (List Nat), (∀ c ∈ cs, (wordL c).length ≤ 36) → ((cs.map wordL).map List.length).sum ≤ 36 * cs.length := by
      intro cs
      induction cs with
      | nil => intro _; exact Nat.le_refl _
      | cons c r ih =>
        intro h
        have h1 := h c (by simp)
        have h2 := ih fun x hx => h x (by simp [hx])
        rw [List.map_cons, List.map_cons, List.sum_cons, List.length_cons]
        omega
    have h3 := h2 (chunks 24 l) fun c hc => by
      have := t64_len c (chunk_facts hb c hc).1
      have := (chunk_facts hb c hc).2.1
      unfold wordL
      simp only [List.length_append, List.length_cons, List.length_nil]
      omega
    have hn := chunks_len 24 l
    rw [List.length_map] at h1
    simp only [List.length_cons, List.length_nil] at h1
    omega
def toI (c : List Nat) : List Int := c.map fun b => ((b : Nat) : Int)
theorem toI_nb (c : List Nat) : (toI c).map V.int = nb c := by unfold toI nb; rw [List.map_map]; rfl
/-- either some word is plain, and all are; or all are words of bytes -/
theorem words_back {l : List Nat} (hb : BytesN l) : isVal (valueL l) = true ∧ ((l ≠ [] ∧ valueL l = l ∧ wordsL (valueL l) ≠ [] ∧ ∀ u ∈ wordsL (valueL l), u.take 2 ≠ headL) ∨ wordsL (valueL l) = (chunks 24 l).map wordL) := by
  by_cases h : allSgn l = true ∧ plainL l = true
  · have hv : valueL l = l := if_pos h
    have hp := h.2
    unfold plainL at hp
    obtain ⟨h1, h2⟩ := Bool.and_eq_true_iff.mp hp
    rw [hv]
    refine ⟨h1, ?_⟩
    by_cases hl : l = []
    · right
      rw [hl]
      rfl
    · refine .inl ⟨hl, rfl, ?_, fun u hu => ?_⟩
      · unfold wordsL
        rw [if_neg hl]
        exact splitL_ne 32 l
      · have := List.all_eq_true.mp h2 u hu
        unfold plainW at this
        have := (Bool.and_eq_true_iff.mp this).2
        rw [Bool.not_eq_true', decide_eq_false_iff_not] at this
        exact this
  · obtain ⟨_, h1, h2⟩ := value_words hb h
    exact ⟨h1, .inr h2⟩
theorem mid_word {z : Str} {c : List Nat} (h : TL.tl z = wordL c) : TL.tl (cutS z (some 2) (some (-2))) = t64 c := by
  rw [cutS_mid, h]
  have hl : (wordL c).length = (t64 c).length + 4 := by
    unfold wordL
    simp only [List.length_append, List.length_cons, List.length_nil]
    omega
  rw [hl, show min 2 ((t64 c).length + 4) = 2 by omega, show (t64 c).length + 4 - 2 - 2 = (t64 c).length by omega]
  show ((t64 c) ++ [63, 61]).take (t64 c).length = t64 c
  rw [List.take_left]
end K09

namespace K09
open PySem PySem.Spec PyProof.Rows L2 LH
theorem plc_at {c : Nat} (h : isSgn c = true) : atI SIGNS.cps.toList (((c : Nat) : Int) - 32 - (if decide ((37 : Int) < ((c : Nat) : Int)) = true then 1 else 0)) = some c := by
  have hs := h
  unfold isSgn at hs
  simp only [Bool.and_eq_true, decide_eq_true_eq, Bool.not_eq_true', decide_eq_false_iff_not] at hs
  have hat := sg_at ⟨c, by omega⟩ h
  show atI (TL.tl SIGNS) _ = _
  unfold SIGNS
  rw [TL.tl_append]
  by_cases h1 : 37 < c
  · rw [decide_eq_true (show (37 : Int) < ((c : Nat) : Int) by omega), if_pos rfl]
    rw [if_pos (show c > 37 from h1)] at hat
    rw [show ((c : Nat) : Int) - 32 - 1 = ((c - 32 - 1 : Nat) : Int) by omega]
    exact atI_nat hat
  · rw [decide_eq_false (show ¬ (37 : Int) < ((c : Nat) : Int) by omega), if_neg Bool.false_ne_true]
    rw [if_neg (show ¬ c > 37 from h1)] at hat
    rw [show ((c : Nat) : Int) - 32 - 0 = ((c - 32 - 0 : Nat) : Int) by omega]
    exact atI_nat hat
theorem signs_row (l : List Nat) : ((List.range (nb l).length).map fun i => V.str ⟨#[l.getD i 0]⟩) = (l.map fun b => (⟨#[b]⟩ : Str)).map V.str := by
  rw [nb_len, List.map_map]
  refine List.ext_getElem? fun i => ?_
  rw [List.getElem?_map, List.getElem?_map]
  by_cases h : i < l.length
  · rw [List.getElem?_range h, List.getElem?_eq_getElem h]
    show some (V.str ⟨#[l.getD i 0]⟩) = _
    rw [List.getD_eq_getElem?_getD, List.getElem?_eq_getElem h]
    rfl
  · rw [List.getElem?_eq_none (by rw [List.length_range]; omega), List.getElem?_eq_none (by omega)]
    rfl
theorem signs_join (l : List Nat) : TL.tl (Txt.join (Str.ofString "") (l.map fun b => (⟨#[b]⟩ : Str))) = l := by
  rw [tl_join0, List.map_map]
  induction l with
  | nil => rfl
  | cons x r ih => rw [List.map_cons, List.flatten_cons, ih]; rfl
theorem signs_sum (l : List Nat) : ((l.map fun b => (⟨#[b]⟩ : Str)).map (·.length)).sum = l.length := by
  induction l with
  | nil => rfl
  | cons x r ih => rw [List.map_cons, List.map_cons, List.sum_cons, ih, List.length_cons]; show 1 + _ = _; omega
/-- the words of the first i bits of some bytes -/
def wordsTo (l : List Nat) (i : Nat) : List (List Nat) := ((chunks 24 l).take i).map wordL
section
variable {P : Program} {w : World} {K : PySem.W.Frag} {mg : Str → Option Value} {base : Heap} {tk : Nat → Tok} {ca : Nat → Addr}
/-! ### _law_value -/
abbrev s__law_value : Stmt := topS 72
abbrev N__law_value : List Str := ["_law_row", "_law_words", "_law_at", "_law_byte"]
abbrev P__law_value : List Str := ["_law_row"]
theorem sc__law_value : FnScope N__law_value ["_law_row"] (defScope s__law_value) := ⟨rfl, rfl, rfl, by decide +kernel, rfl, by decide +kernel, by decide +kernel⟩
def sp_lvalue : Sp := fun vs H Q _ => ∃ (a : Addr) (l : List Nat), vs = [.ref a] ∧ H a = some (.lst (nb l)) ∧ BytesN l ∧ l.length ≤ 4000 ∧ ∀ z : Str, TL.tl z = valueL l → Tell H (.str z) Q
def sp_lplain : Sp := fun vs H Q _ => ∃ (a : Addr) (l : List Nat), vs = [.ref a] ∧ H a = some (.lst (nb l)) ∧ BytesN l ∧ l.length ≤ 4000 ∧ Tell H (.bl (allSgn l && plainL l)) Q
theorem ok_lvalue {f1 f2 f3 f : Addr} {fd1 fd2 fd3 fd : FuncData} (F : Fun K "_law_value" "_law_value" s__law_value f fd) (T : Tx mg tk) (D__law_is_plain : Def P w K mg base "_law_is_plain" 1 f1 fd1 ["_law_row"] sp_lplain) (D__law_signs : Def P w K mg base "_law_signs" 1 f2 fd2 P__law_signs sp_signs) (D__law_in_sixty : Def P w K mg base "_law_in_sixty" 2 f3 fd3 P__law_in_sixty sp_in_sixty) : FnOk P w K mg base CX0 3 f fd P__law_value sp_lvalue := by
  refine F.ok sc__law_value (fun vs H Q E h => ?_) (fun cdv A outer s H vs Q E hr h => ?_)
  · obtain ⟨a, l, rfl, _⟩ := h
    rfl
  · have nd := sc__law_value.nd
    obtain ⟨a, l, rfl, ea, hb, hl, q⟩ := h
    refine ⟨_, (pss_cons (ps_if (pt_val (pe_def D__law_is_plain (hr.mono (by decide)) (pa_cons (pv 0) pa_nil)))
        (pss_one (ps_ret (pe_join pe_str (pe_lc (own := [("_law_byte", 3)]) (g := gName 3) (by rfl) nd (pi_list (pv 0)) (blkOk_by (N := N__law_value) (sc := defScope s__law_value) (by decide +kernel)) (fun _ _ _ _ _ => (pg_name (i := 3) nd rfl (Or.inl rfl))) (fun _ _ _ _ _ => pts_nil) (fun _ _ _ _ _ => (pe_ix ix_str (pe_def0 D__law_signs (hr.mono (by decide))) (pe_op op_sub (pe_op op_sub (pv 3) pe_int) (pe_callTy call_int1 (by rfl) T.n_int (by decide +kernel) (pa_cons (pe_cmpR op_gt (pv 3) pe_int (nomark _)) pa_nil))) (fun _ _ => rfl)))))))
        pss_nil)
      (pss_cons (ps_set (i := 1) nd rfl (.inl rfl) (pe_lst pa_nil))
      (pss_cons (ps_for PassesOwn.never rfl (pi_range3 (by rfl) T.n_range (pa_cons pe_int (pa_cons (pe_callB (cLen K) (by rfl) T.n_len (by decide +kernel) (pa_cons (pv 0) pa_nil)) (pa_cons pe_int pa_nil)))) (pg_name (i := 2) nd rfl (Or.inl rfl))
        (pss_one (ps_expr (pe_bm PySem.F.plainAttrs_list PySem.F.slot_list_append PySem.F.type_list_append mt_append (pv 1) (pa_cons (pe_op op_add_str (pe_op op_add_str pe_str (pe_join pe_str (pe_def D__law_in_sixty (hr.mono (by decide)) (pa_cons (pe_slice (slL K) (pv 0) (po_some (pv 2)) (po_some (pe_op op_add (pv 2) pe_int))) pa_nil)))) pe_str) pa_nil)))))
      (pss_one (ps_ret (pe_join pe_str (pv 1))))))), ?_⟩
    dsimp only [tSeq, tAsg]
    have h0 : (Str.ofString "").length = 0 := by decide +kernel
    refine ifT (allSgn l && plainL l) (fun k q1 => ⟨.ref a, rfl, a, l, rfl, ea, hb, hl, fun H2 s2 => ⟨_, rfl, q1 _ s2⟩⟩) (fun hc H1 s1 => ?_) (fun hc H1 s1 => ?_)
    · rw [Bool.and_eq_true] at hc
      have e1 := s1 _ _ ea
      refine ⟨⟨_, rfl⟩, .ref a, rfl, a, rfl, ⟨_, .inl (.inl e1)⟩, fun D hD => lc_pure (fun i => (nb l).getD i .non) (fun i => .str ⟨#[l.getD i 0]⟩) walk_listF (fun H2 s2 => s2.seq (.inl (.inl e1))) hD (by rw [nb_len, sizeLine_eq]; omega) (fun i H2 Q2 hi s2 q2 => ?_) (fun H2 s2 e => ?_)⟩
      · rw [nb_len] at hi
        have hs : isSgn (l.getD i 0) = true := List.all_eq_true.mp hc.1 _ (getD_mem l 0 hi)
        rw [nb_at l hi]
        generalize l.getD i 0 = c at *
        exact ⟨rfl, .int (c : Nat), rfl, _, 32, rfl, rfl, .int (c : Nat), rfl, _, 37, rfl, rfl, .inr ⟨_, rfl, _, _, rfl, rfl, SIGNS, _, c, rfl, rfl, by rw [SIGNS_len, sizeLine_eq]; decide, plc_at hs, q2 _ (Same.refl _)⟩⟩
      · rw [signs_row] at e
        refine ⟨Str.ofString "", D, _, rfl, rfl, .inl (.inl (.inl e)), by rw [signs_sum, h0]; omega, ?_⟩
        refine q _ ?_ _ (s1.trans s2)
        rw [signs_join]
        unfold valueL
        rw [if_pos hc]
    · have HN : ¬ (allSgn l = true ∧ plainL l = true) := fun h => by rw [h.1, h.2] at hc; exact nomatch hc
      dsimp only [tNext, tSeq, tAsg]
      refine ⟨Nat.zero_le _, fun o no => ?_⟩
      dsimp only [gName]
      have s50 := same_upd (o := .lst []) no
      have S0 := s1.trans s50
      have no' : H o = none := s1.free no
      have e2 := s50 _ _ (s1 _ _ ea)
      have hcl := chunks_len 24 l
      have h2 : (Str.ofString "=?").length = 2 := by decide +kernel
      have h3 : (Str.ofString "?=").length = 2 := by decide +kernel
      have hw36 : ∀ c : List Nat, BytesN c → c.length ≤ 24 → (wordL c).length ≤ 36 := fun c hc h => by
        have := t64_len c hc
        unfold wordL
        simp only [List.length_append, List.length_cons, List.length_nil]
        omega
      refine ⟨.ref a, rfl, a, _, rfl, .inl (.inl (.inl e2)), 0, _, 24, (l.length + 23) / 24, rfl, by rw [nb_len]; exact rgC l.length 24 (by decide) (by decide) (by omega), for_it walk_rangeC (fun i σ H' => ∃ y2 : Option V, σ = [some (.ref a), some (.ref o), y2, none] ∧ Same H1 H' ∧ H' o = some (.lst ((strL (wordsTo l i)).map V.str))) ⟨none, rfl, s50, upd_same⟩ (fun _ _ _ _ _ => trivial) (fun i x σ H2 H3 hi hP hy => ?_) (fun σ H2 hP => ?_)⟩
      · obtain ⟨y2, rfl, sm, eo⟩ := hP
        obtain ⟨rfl, rfl⟩ := hy
        have ex := sm _ _ (s1 _ _ ea)
        have hic : i < (chunks 24 l).length := by rw [hcl]; omega
        have hca := chunk_at hic
        obtain ⟨hbc, hc24, hc1⟩ := chunk_facts hb _ (List.getElem_mem hic)
        have htk : wordsTo l (i + 1) = wordsTo l i ++ [wordL (chunks 24 l)[i]] := by
          unfold wordsTo
          rw [List.take_add_one, List.getElem?_eq_getElem hic, Option.toList_some, List.map_append]
          rfl
        have hwl : (wordsTo l i).length ≤ 4001 := by
          unfold wordsTo
          rw [List.length_map, List.length_take]
          omega
        dsimp only [gName]
        have hcut : cutV (nb l) (some (0 + ((i : Nat) : Int) * 24)) (some (0 + ((i : Nat) : Int) * 24 + 24)) = nb (chunks 24 l)[i] := by
          rw [show (0 : Int) + ((i : Nat) : Int) * 24 = ((i * 24 : Nat) : Int) by omega, show ((i * 24 : Nat) : Int) + 24 = ((i * 24 + 24 : Nat) : Int) by omega, cutV_at, Nat.add_sub_cancel_left, hca]
          unfold nb
          rw [List.map_take, List.map_drop]
        generalize (chunks 24 l)[i] = c at *
        have htl := t64_len c hbc
        refine ⟨.ref o, rfl, .inl ⟨rfl, _, .inl (.inl eo)⟩, ⟨_, rfl⟩, .ref a, rfl, .int (0 + ((i : Nat) : Int) * 24), rfl, _, rfl, .int (0 + ((i : Nat) : Int) * 24), rfl, _, 24, rfl, rfl, _, rfl, a, _, rfl, .inl (.inl ex), fun p np => ⟨p, c, rfl, by rw [upd_same, hcut], by omega, fun H5 r s5 nr er => ?_⟩⟩
        have hrow : rowsVM (ltext c) = [(⟨(t64 c).toArray⟩ : Str)].map V.str := by
          rw [rowsM_eq, ltext_t64 c hbc]
          show (chunks 60 (t64 c)).map _ = _
          rw [one_row (fun e => by rw [e] at htl; simp only [List.length_nil] at htl; omega) (by omega)]
          rfl
        rw [hrow] at er
        have hsl : (⟨(t64 c).toArray⟩ : Str).length = (t64 c).length := mk_len _
        refine ⟨Str.ofString "", r, _, rfl, rfl, .inl (.inl (.inl er)), by rw [h0]; simp only [List.map_cons, List.map_nil, List.sum_cons, List.sum_nil, List.length_cons, List.length_nil, hsl]; omega, ?_⟩
        have ej : TL.tl (Txt.join (Str.ofString "") [(⟨(t64 c).toArray⟩ : Str)]) = t64 c := by rw [tl_join0]; simp
        generalize Txt.join (Str.ofString "") [(⟨(t64 c).toArray⟩ : Str)] = J at *
        have hJl : J.length = (t64 c).length := by rw [TL.len_tl, ej]
        have e : Str.ofString "=?" ++ J ++ Str.ofString "?=" = (⟨(wordL c).toArray⟩ : Str) := TL.ext_tl (by
          rw [TL.tl_append, TL.tl_append, show TL.tl (Str.ofString "=?") = [61, 63] by decide +kernel, show TL.tl (Str.ofString "?=") = [63, 61] by decide +kernel, ej]
          rfl)
        have sN := (same_upd (o := .lst (cutV (nb l) (some (0 + ((i : Nat) : Int) * 24)) (some (0 + ((i : Nat) : Int) * 24 + 24)))) np).trans s5
        have eo5 := sN _ _ eo
        refine ⟨_, _, rfl, rfl, by rw [h2, hJl, sizeLine_eq]; omega, _, _, rfl, rfl, by rw [len_app, h2, h3, hJl, sizeLine_eq]; omega, o, _, _, rfl, rfl, eo5, by rw [List.length_map, strL_len, sizeLine_eq]; omega, _, rfl, fun d x hx => ?_, ?_⟩
        · rw [upd_ne (ne_of_none hx no)]
          exact sN _ _ (sm _ _ hx)
        · rw [upd_same, htk, e]
          unfold strL
          rw [List.map_append, List.map_append]
          rfl
      · obtain ⟨y2, rfl, sm, eo⟩ := hP
        have hn : wordsTo l ((l.length + 23) / 24) = (chunks 24 l).map wordL := by
          unfold wordsTo
          rw [List.take_of_length_le (by rw [hcl]; omega)]
        rw [hn] at eo
        refine ⟨⟨_, rfl⟩, .ref o, rfl, Str.ofString " ", o, _, rfl, rfl, .inl (.inl (.inl eo)), ?_, ?_⟩
        · have := join_len_le (sep := Str.ofString " ") (ws := strL ((chunks 24 l).map wordL)) (k := 36) (n := 4001) (fun x hx => by
            obtain ⟨u, hu, rfl⟩ := List.mem_map.mp hx
            obtain ⟨c, hc, rfl⟩ := List.mem_map.mp hu
            rw [mk_len]
            exact hw36 c (chunk_facts hb c hc).1 (chunk_facts hb c hc).2.1) (by rw [strL_len, List.length_map, hcl]; omega)
          rw [show (Str.ofString " ").length = 1 by decide +kernel] at *
          omega
        · refine q _ ?_ _ (s1.trans sm)
          rw [TL.join_eq, TL.tl_join, strL_tls, show TL.tl (Str.ofString " ") = [32] by decide +kernel]
          unfold valueL
          rw [if_neg HN]
end
end K09

namespace K09
open PySem PySem.Spec PyProof.Rows L2 LH
theorem inner_word (c : List Nat) : inner (wordL c) = t64 c := by
  have h := mid_word (z := ⟨(wordL c).toArray⟩) (c := c) rfl
  rw [cutS_mid] at h
  exact h
theorem wordV_word {c : List Nat} (hb : BytesN c) (h1 : 1 ≤ c.length) (h24 : c.length ≤ 24) : wordV (wordL c) = some (nb c) := by
  have htl := t64_len c hb
  have hr : rowsS (t64 c) = [innerS (wordL c)] := by
    unfold rowsS
    rw [one_row (fun e => by rw [e] at htl; simp only [List.length_nil] at htl; omega) (by omega)]
    unfold innerS
    rw [inner_word]
    rfl
  have hw : wrongF standB endB 0 [innerS (wordL c)] = none := by rw [← hr]; exact rows64_good (t64_good c hb)
  unfold wordV wordOk
  rw [if_pos]
  · rw [← hr, bytes64_rows hb]
  · rw [hw, inner_word, decide_eq_true (show wordL c = [61, 63] ++ t64 c ++ [63, 61] from rfl), decide_eq_true (show 4 ≤ (t64 c).length ∧ (t64 c).length ≤ 32 by omega)]
    rfl
theorem wordV_plain {u : List Nat} (h : u.take 2 ≠ headL) : wordV u = none := by
  unfold wordV wordOk
  rw [if_neg]
  intro hh
  simp only [Bool.and_eq_true, decide_eq_true_eq] at hh
  refine h ?_
  rw [hh.1.1]
  rfl
/-- a told value's bytes come back -/
theorem valueV_back {l : List Nat} (hb : BytesN l) : valueV (valueL l) = nb l := by
  obtain ⟨_, ⟨h0, h1, h2, h3⟩ | h⟩ := words_back hb
  · unfold valueV
    rw [if_pos]
    · rw [h1]
    · obtain ⟨u, r, e⟩ := List.exists_cons_of_ne_nil h2
      rw [e, List.any_cons, wordV_plain (h3 u (by rw [e]; exact List.mem_cons_self))]
      rfl
  · have hw : ∀ c ∈ chunks 24 l, wordV (wordL c) = some (nb c) := fun c hc => by
      obtain ⟨g1, g2, g3⟩ := chunk_facts hb c hc
      exact wordV_word g1 g3 g2
    unfold valueV
    rw [h, if_neg]
    · rw [List.map_map]
      have e : (chunks 24 l).map ((fun u => (wordV u).getD []) ∘ wordL) = (chunks 24 l).map nb := List.map_congr_left fun c hc => by
        show (wordV (wordL c)).getD [] = nb c
        rw [hw c hc]
        rfl
      rw [e]
      conv => rhs; rw [← chunks_flat (k := 24) (by decide) _ l (Nat.le_refl _)]
      show ((chunks 24 l).map (List.map _)).flatten = List.map _ (chunks 24 l).flatten
      rw [List.map_flatten]
    · rw [List.any_map, Bool.not_eq_true, List.any_eq_false]
      intro c hc
      show ¬ (wordV (wordL c)).isNone = true
      rw [hw c hc]
      exact Bool.false_ne_true
end K09

namespace K09
open PySem PySem.Spec PyProof.Rows L2 LH
/-! ### what the law calls plain -/
/-- some =? stands behind a blank (p: what stands before) -/
def hasStart : Nat → List Nat → Bool
  | _, [] => false
  | p, c :: r => (decide (p = 32) && (decide (c = 61) && decide (r.head? = some 63))) || hasStart c r
def startsQ (u : List Nat) : Bool := decide (u.take 2 = headL)
theorem splitL_cons (c : Nat) (r : List Nat) : splitL 32 (c :: r) = if c = 32 then [] :: splitL 32 r else (c :: (splitL 32 r).headD []) :: (splitL 32 r).tail := rfl
theorem start_split : ∀ (l : List Nat) (p : Nat), hasStart p l = ((decide (p = 32) && startsQ ((splitL 32 l).headD [])) || (splitL 32 l).tail.any startsQ)
  | [], p => by
    show false = _
    rw [show splitL 32 [] = [[]] from rfl]
    simp [startsQ, headL]
  | c :: r, p => by
    have ih := start_split r c
    have hn := splitL_ne 32 r
    obtain ⟨h', t', e⟩ := List.exists_cons_of_ne_nil hn
    rw [e] at ih
    show ((decide (p = 32) && (decide (c = 61) && decide (r.head? = some 63))) || hasStart c r) = _
    rw [ih]
    by_cases hc : c = 32
    · have es : splitL 32 (c :: r) = [] :: h' :: t' := by rw [splitL_cons, if_pos hc, e]
      rw [es]
      subst hc
      show ((decide (p = 32) && (false && decide (r.head? = some 63))) || ((true && startsQ h') || t'.any startsQ)) = ((decide (p = 32) && false) || (startsQ h' || t'.any startsQ))
      rw [Bool.false_and, Bool.and_false, Bool.true_and]
    · have es : splitL 32 (c :: r) = (c :: h') :: t' := by rw [splitL_cons, if_neg hc, e]; rfl
      have hh : (decide (c = 61) && decide (r.head? = some 63)) = startsQ (c :: h') := by
        unfold startsQ headL
        rw [Bool.eq_iff_iff, Bool.and_eq_true, decide_eq_true_eq, decide_eq_true_eq, decide_eq_true_eq]
        cases r with
        | nil =>
          rw [show splitL 32 [] = [[]] from rfl] at e
          obtain ⟨rfl, _⟩ := List.cons.inj e
          simp
        | cons d r' =>
          by_cases hd : d = 32
          · have : splitL 32 (d :: r') = [] :: splitL 32 r' := by rw [splitL_cons, if_pos hd]
            rw [this] at e
            obtain ⟨rfl, _⟩ := List.cons.inj e
            simp [hd]
          · obtain ⟨x, y, e2⟩ := List.exists_cons_of_ne_nil (splitL_ne 32 r')
            have : splitL 32 (d :: r') = (d :: x) :: y := by rw [splitL_cons, if_neg hd, e2]; rfl
            rw [this] at e
            obtain ⟨rfl, _⟩ := List.cons.inj e
            simp
      rw [es, hh]
      simp [hc]
theorem start_any (l : List Nat) : hasStart 32 l = (splitL 32 l).any startsQ := by
  rw [start_split, splitL_eta 32 l, List.any_cons]
  rfl
/-- a row whose signs are all x but the blanks -/
def maskL (l : List Nat) : List Nat := l.map fun b => if b = 32 then 32 else 120
theorem mask_lens : ∀ l : List Nat, (splitL 32 (maskL l)).map List.length = (splitL 32 l).map List.length
  | [] => rfl
  | c :: r => by
    have ih := mask_lens r
    rw [splitL_eta 32 (maskL r), splitL_eta 32 r, List.map_cons, List.map_cons] at ih
    obtain ⟨i1, i2⟩ := List.cons.inj ih
    show (splitL 32 ((if c = 32 then 32 else 120) :: maskL r)).map _ = _
    rw [splitL_cons, splitL_cons]
    by_cases hc : c = 32
    · rw [if_pos hc, if_pos rfl, if_pos hc, List.map_cons, List.map_cons, mask_lens r]
    · rw [if_neg hc, if_neg (by decide), if_neg hc, List.map_cons, List.map_cons, i2, List.length_cons, List.length_cons, i1]
theorem all_len (us vs : List (List Nat)) (h : us.map List.length = vs.map List.length) : us.all (fun u => decide (u.length ≤ 59)) = vs.all (fun u => decide (u.length ≤ 59)) := by
  have e : ∀ ws : List (List Nat), ws.all (fun u => decide (u.length ≤ 59)) = (ws.map List.length).all fun n => decide (n ≤ 59) := fun ws => by rw [List.all_map]; rfl
  rw [e, e, h]
theorem all_plainW (us : List (List Nat)) : us.all plainW = (us.all (fun u => decide (u.length ≤ 59)) && !us.any startsQ) := by
  induction us with
  | nil => rfl
  | cons u r ih =>
    rw [List.all_cons, List.all_cons, List.any_cons, ih]
    have : plainW u = (decide (u.length ≤ 59) && !startsQ u) := by
      unfold plainW startsQ
      rw [show decide (u.length < 60) = decide (u.length ≤ 59) from decide_eq_decide.mpr (by omega)]
    rw [this]
    generalize decide (u.length ≤ 59) = b1
    generalize startsQ u = b2
    generalize r.all (fun u => decide (u.length ≤ 59)) = b3
    generalize r.any startsQ = b4
    revert b1 b2 b3 b4
    decide
theorem bool_plain : ∀ a b1 b2 c d e : Bool, (a && ((a && (false || !(b1 || (b2 || e)))) && (c && !d))) = (a && (!b1 && (!b2 && (c && (!d && !e))))) := by decide
/-- what the law calls plain is what the program calls plain -/
theorem plain_law (l : List Nat) : (allSgn l && plainL l) = (l.all isSgn && (!decide (l.take 1 = [32]) && (!decide (l.drop (l.length - 1) = [32]) && ((splitL 32 (maskL l)).all (fun u => decide (u.length ≤ 59)) && (!hasStart 32 l && !dbl 32 l))))) := by
  by_cases hl : l = []
  · rw [hl]
    decide +kernel
  · rw [start_any, all_len _ _ (mask_lens l)]
    unfold allSgn plainL isVal wordsL
    rw [if_neg hl, all_plainW, decide_eq_false hl, ← blanks_iff 32 l hl]
    exact bool_plain _ _ _ _ _ _
end K09

namespace K09
open PySem PySem.Spec PyProof.Rows L2 LH
theorem chainT {σ : L2.St} {H : Hp} {k : Bool → Hp → Prop} {tb : TE} {lo hi c : Int} (hb : ∀ Q : VK, Q (.int c) H → tb σ H Q) (q : TellB H (decide (lo < c) && decide (c < hi)) k) :
    tTest (tChain (rI0 fun i j => V.bl (decide (i < j))) (rI0 fun i j => V.bl (decide (i < j))) (tC (.int lo)) tb (tC (.int hi))) σ H k := by
  refine hb _ ⟨lo, c, rfl, rfl, decide (lo < c), rfl, ?_⟩
  by_cases h : lo < c
  · rw [if_pos (decide_eq_true h)]
    exact ⟨c, hi, rfl, rfl, _, rfl, TellB.eq (by rw [decide_eq_true h, Bool.true_and]) q _ (Same.refl _)⟩
  · rw [if_neg (by rw [decide_eq_false h]; exact Bool.false_ne_true)]
    exact ⟨false, rfl, TellB.eq (by rw [decide_eq_false h, Bool.false_and]) q _ (Same.refl _)⟩
theorem filt_nil {α : Type} (n : Nat) (b : Nat → Bool) (f : Nat → α) : ((List.range n).filter b).map f = [] ↔ ((List.range n).all fun i => !b i) = true := by
  rw [List.map_eq_nil_iff, List.filter_eq_nil_iff, List.all_eq_true]
  exact ⟨fun h x hx => by simpa using h x hx, fun h x hx => by simpa using h x hx⟩
theorem filt_dec {α : Type} [DecidableEq α] (n : Nat) (b : Nat → Bool) (f : Nat → α) : decide (((List.range n).filter b).map f = []) = (List.range n).all fun i => !b i := by
  rw [Bool.eq_iff_iff, decide_eq_true_eq]
  exact filt_nil n b f
theorem all_range (p : Nat → Bool) : ∀ l : List Nat, ((List.range l.length).all fun i => p (l.getD i 0)) = l.all p
  | [] => rfl
  | x :: r => by
    rw [List.length_cons, List.range_succ_eq_map, List.all_cons, List.all_map]
    show (p x && (List.range r.length).all fun i => p (r.getD i 0)) = (p x && r.all p)
    rw [all_range p r]
theorem all_rangeL {α : Type} (d : α) (p : α → Bool) : ∀ l : List α, ((List.range l.length).all fun i => p (l.getD i d)) = l.all p
  | [] => rfl
  | x :: r => by
    rw [List.length_cons, List.range_succ_eq_map, List.all_cons, List.all_map]
    show (p x && (List.range r.length).all fun i => p (r.getD i d)) = (p x && r.all p)
    rw [all_rangeL d p r]
def badSg (c : Nat) : Bool := !(decide ((31 : Int) < (c : Nat)) && decide (((c : Nat) : Int) < 127)) || decide (((c : Nat) : Int) = 37)
theorem badSg_not (c : Nat) : (!badSg c) = isSgn c := by
  unfold badSg isSgn
  rw [Bool.eq_iff_iff]
  simp only [Bool.not_or, Bool.not_not, Bool.and_eq_true, decide_eq_true_eq, Bool.not_eq_true', decide_eq_false_iff_not]
  omega
theorem start_range : ∀ (l : List Nat) (p : Nat), hasStart p l = (List.range l.length).any fun i => decide ((p :: l).getD i 0 = 32) && (decide (l.getD i 0 = 61) && decide (l.getD (i + 1) 0 = 63))
  | [], p => rfl
  | c :: r, p => by
    rw [List.length_cons, List.range_succ_eq_map, List.any_cons, List.any_map]
    show ((decide (p = 32) && (decide (c = 61) && decide (r.head? = some 63))) || hasStart c r) = ((decide (p = 32) && (decide (c = 61) && decide (r.getD 0 0 = 63))) || (List.range r.length).any fun i => decide ((c :: r).getD i 0 = 32) && (decide (r.getD i 0 = 61) && decide (r.getD (i + 1) 0 = 63)))
    rw [start_range r c, show decide (r.head? = some 63) = decide (r.getD 0 0 = 63) from ?_]
    cases r with
    | nil => rfl
    | cons x r => simp
theorem dbl_range (l : List Nat) : dbl 32 l = (List.range l.length).any fun i => decide (l.getD i 0 = 32) && decide (l.getD (i + 1) 0 = 32) := by
  unfold dbl
  have e : ∀ j, decide (l[j]? = some 32) = decide (l.getD j 0 = 32) := fun j => by
    rw [List.getD_eq_getElem?_getD]
    cases l[j]? with
    | none => rfl
    | some x => simp
  simp only [e]
/-! ### a list of tuples of three as data -/
def dTup (t : Int × Int × Int) : PyData := .tuple [.int t.1, .int t.2.1, .int t.2.2]
theorem dpAll_tups {K : PySem.W.Frag} {H : Hp} (g : Nat → Addr) (t : Nat → Int × Int × Int) : ∀ is : List Nat, (∀ i ∈ is, H (g i) = some (.tup [.int (t i).1, .int (t i).2.1, .int (t i).2.2])) → DpAll K H (is.map fun i => V.ref (g i)) (is.map fun i => dTup (t i))
  | [], _ => .nil
  | i :: is, h => .cons (.tup (.inl (.inl (h i (List.mem_cons_self ..)))) (.cons (.int _) (.cons (.int _) (.cons (.int _) .nil)))) (dpAll_tups g t is fun j hj => h j (List.mem_cons_of_mem _ hj))
theorem lay_tups (ts : List (Int × Int × Int)) : PyData.canLayAll0 (ts.map dTup) = true := by
  induction ts with
  | nil => simp [PyData.canLayAll0]
  | cons x r ih =>
    show PyData.canLayAll0 (.tuple [.int x.1, .int x.2.1, .int x.2.2] :: r.map dTup) = true
    simp [PyData.canLayAll0, PyData.canLay0, ih]
theorem depth_tups (ts : List (Int × Int × Int)) : PyData.depthAll (ts.map dTup) ≤ 1 := by
  induction ts with
  | nil => simp [PyData.depthAll]
  | cons x r ih =>
    show PyData.depthAll (.tuple [.int x.1, .int x.2.1, .int x.2.2] :: r.map dTup) ≤ 1
    simp [PyData.depthAll, PyData.depth]
    omega
theorem shaped_tups (ts : List (Int × Int × Int)) : SeqAt.shaped (.list (ts.map dTup)) = true := by
  have := depth_tups ts
  simp [SeqAt.shaped, PyData.canLay0, PyData.depth, lay_tups]
  omega
theorem eqv_nil (ds : List PyData) : PyData.eqv (.list ds) (.list []) = decide (ds = []) := by
  cases ds with
  | nil => rfl
  | cons x r => simp [PyData.eqv, PyData.eqvAll]
theorem eqv_two (a b c d : Int) : PyData.eqv (.tuple [.int a, .int b]) (.tuple [.int c, .int d]) = (decide (a = c) && decide (b = d)) := by
  simp only [PyData.eqv, PyData.eqvAll, Bool.and_true]
  rfl
theorem shaped_two (a b : Int) : SeqAt.shaped (.tuple [.int a, .int b]) = true := by
  simp [SeqAt.shaped, PyData.canLay0, PyData.depth, PyData.canLayAll0, PyData.depthAll]
section
variable {P : Program} {w : World} {K : PySem.W.Frag} {mg : Str → Option Value} {base : Heap} {tk : Nat → Tok} {ca : Nat → Addr}
theorem nbI (l : List Nat) : nb l = (l.map fun b => ((b : Nat) : Int)).map V.int := by
  unfold nb
  rw [List.map_map]
  rfl
theorem cast_dec (l m : List Nat) : decide ((l.map fun b => ((b : Nat) : Int)) = m.map fun b => ((b : Nat) : Int)) = decide (l = m) :=
  decide_eq_decide.mpr ⟨fun h => (List.map_inj_right fun _ _ h => Int.ofNat.inj h).mp h, fun h => by rw [h]⟩
/-- the second and third of a new tuple of three against two ints -/
theorem two_of {H : Hp} {t : Addr} {x y z : Int} {tv : TE} {σ : L2.St} {u v : Int} {k : Bool → Hp → Prop} (hv : ∀ Q : VK, Q (.ref t) H → tv σ H Q) (e : H t = some (.tup [.int x, .int y, .int z])) (q : TellB H (decide (y = u) && decide (z = v)) k) :
    tTest (tOp (rEqD K) (tSl (rSlA K) tv (tPart (tC (V.int 1))) tNoPart) (tTup (tCons (tC (V.int u)) (tCons (tC (V.int v)) tNil)))) σ H k := by
  refine hv _ ⟨1, rfl, t, _, rfl, .inl (.inl e), fun h => absurd (show HT.sIx 3 0 (some 1) = 0 from h.1) (by decide), fun _ p np => ⟨Nat.le_of_lt (small1000 (show 2 ≤ 1000 by decide)), fun p2 np2 => ?_⟩⟩
  have s1 := same_upd (o := .tup (cutV [V.int x, .int y, .int z] (some 1) none)) np
  have e1 : upd H p (.tup (cutV [V.int x, .int y, .int z] (some 1) none)) p = some (.tup [.int y, .int z]) := upd_same
  have s2 := same_upd (o := .tup [V.int u, .int v]) np2
  exact ⟨.tuple [.int y, .int z], .tuple [.int u, .int v], .tup (.inl (.inl (s2 _ _ e1))) (.cons (.int _) (.cons (.int _) .nil)), .tup (xs := [V.int u, .int v]) (.inl (.inl upd_same)) (.cons (.int _) (.cons (.int _) .nil)), shaped_two _ _, shaped_two _ _, _, rfl, TellB.eq (eqv_two _ _ _ _) q _ (s1.trans s2)⟩
/-! ### _law_is_plain -/
abbrev s__law_is_plain : Stmt := topS 71
abbrev N__law_is_plain : List Str := ["_law_row", "_law_words", "_law_pairs", "_law_word", "_law_pair", "_law_byte"]
abbrev P__law_is_plain : List Str := ["_law_row"]
theorem sc__law_is_plain : FnScope N__law_is_plain ["_law_row"] (defScope s__law_is_plain) := ⟨rfl, rfl, rfl, by decide +kernel, rfl, by decide +kernel, by decide +kernel⟩
theorem ok_lplain {f : Addr} {fd : FuncData} (F : Fun K "_law_is_plain" "_law_is_plain" s__law_is_plain f fd) (T : Tx mg tk) : FnOk P w K mg base CX0 1 f fd P__law_is_plain sp_lplain := by
  refine F.ok sc__law_is_plain (fun vs H Q E h => ?_) (fun cdv A outer s H vs Q E hr h => ?_)
  · obtain ⟨a, l, rfl, _⟩ := h
    rfl
  · have nd := sc__law_is_plain.nd
    obtain ⟨a, l, rfl, ea, hb, hl, q⟩ := h
    rw [plain_law] at q
    refine ⟨_, (pss_cons (ps_if (PW.pt (pw_or (pt_cmpR (oNeD K hr.units) (pe_lc (own := [("_law_byte", 5)]) (g := gName 5) (by rfl) nd (pi_list (pv 0)) (blkOk_by (N := N__law_is_plain) (sc := defScope s__law_is_plain) (by decide +kernel)) (fun _ _ _ _ _ => (pg_name (i := 5) nd rfl (Or.inl rfl))) (fun _ _ _ _ _ => (pts_one (PW.pt (pw_or (pt_not (pt_chain op_lt op_lt pe_int (pv 5) pe_int)) (pw_or1 (pt_cmpR op_eq (pv 5) pe_int (nomark _))))))) (fun _ _ _ _ _ => (pv 5))) (pe_lst pa_nil) (nomark _)) (pw_or (pt_cmpR (oEqD K hr.units) (pe_slice (slL K) (pv 0) po_none (po_some pe_int)) (pe_lst (pa_cons pe_int pa_nil)) (nomark _)) (pw_or1 (pt_cmpR (oEqD K hr.units) (pe_slice (slL K) (pv 0) (po_some (pe_un un_neg pe_int)) po_none) (pe_lst (pa_cons pe_int pa_nil)) (nomark _))))))
        (pss_one (ps_ret pe_bl))
        pss_nil)
      (pss_cons (ps_set (i := 1) nd rfl (.inl rfl) (pe_split (pe_join pe_str (pe_lc (own := [("_law_byte", 5)]) (g := gName 5) (by rfl) nd (pi_list (pv 0)) (blkOk_by (N := N__law_is_plain) (sc := defScope s__law_is_plain) (by decide +kernel)) (fun _ _ _ _ _ => (pg_name (i := 5) nd rfl (Or.inl rfl))) (fun _ _ _ _ _ => pts_nil) (fun _ _ _ _ _ => (pe_ix (ixL K) (pe_lst (pa_cons pe_str (pa_cons pe_str pa_nil))) (pe_callTy call_int1 (by rfl) T.n_int (by decide +kernel) (pa_cons (pe_cmpR op_eq (pv 5) pe_int (nomark _)) pa_nil)) (fun _ _ => rfl))))) pe_str))
      (pss_cons (ps_if (pt_cmpR (oNeD K hr.units) (pe_lc (own := [("_law_word", 3)]) (g := gName 3) (by rfl) nd (pi_list (pv 1)) (blkOk_by (N := N__law_is_plain) (sc := defScope s__law_is_plain) (by decide +kernel)) (fun _ _ _ _ _ => (pg_name (i := 3) nd rfl (Or.inl rfl))) (fun _ _ _ _ _ => (pts_one (pt_cmpR op_gt (pe_callB call_len_str (by rfl) T.n_len (by decide +kernel) (pa_cons (pv 3) pa_nil)) pe_int (nomark _)))) (fun _ _ _ _ _ => (pv 3))) (pe_lst pa_nil) (nomark _))
        (pss_one (ps_ret pe_bl))
        pss_nil)
      (pss_cons (ps_set (i := 2) nd rfl (.inl rfl) (pe_listZip3 rfl (by rfl) T.n_list (by rfl) T.n_zip (pa_cons (pe_op op_cat (pe_lst (pa_cons pe_int pa_nil)) (pv 0)) (pa_cons (pv 0) (pa_cons (pe_op op_cat (pe_slice (slL K) (pv 0) (po_some pe_int) po_none) (pe_lst (pa_cons pe_int pa_nil))) pa_nil)))))
      (pss_cons (ps_if (pt_cmpR (oNeD K hr.units) (pe_lc (own := [("_law_pair", 4)]) (g := gName 4) (by rfl) nd (pi_list (pv 2)) (blkOk_by (N := N__law_is_plain) (sc := defScope s__law_is_plain) (by decide +kernel)) (fun _ _ _ _ _ => (pg_name (i := 4) nd rfl (Or.inl rfl))) (fun _ _ _ _ _ => (pts_one (PW.pt (pw_and (pt_cmpR op_eq (pe_ix (ixT K) (pv 4) pe_int (fun _ _ => rfl)) pe_int (nomark _)) (pw_and1 (pt_cmpR (oEqD K hr.units) (pe_slice (slA K) (pv 4) (po_some pe_int) po_none) (pe_tup (pa_cons pe_int (pa_cons pe_int pa_nil))) (nomark _))))))) (fun _ _ _ _ _ => (pv 4))) (pe_lst pa_nil) (nomark _))
        (pss_one (ps_ret pe_bl))
        pss_nil)
      (pss_one (ps_ret (pe_cmpR (oEqD K hr.units) (pe_lc (own := [("_law_pair", 4)]) (g := gName 4) (by rfl) nd (pi_list (pv 2)) (blkOk_by (N := N__law_is_plain) (sc := defScope s__law_is_plain) (by decide +kernel)) (fun _ _ _ _ _ => (pg_name (i := 4) nd rfl (Or.inl rfl))) (fun _ _ _ _ _ => (pts_one (pt_cmpR (oEqD K hr.units) (pe_slice (slA K) (pv 4) (po_some pe_int) po_none) (pe_tup (pa_cons pe_int (pa_cons pe_int pa_nil))) (nomark _)))) (fun _ _ _ _ _ => (pv 4))) (pe_lst pa_nil) (nomark _))))))))), ?_⟩
    dsimp only [tSeq, tAsg, gName]
    have hln : (nb l).length ≤ sizeLine := by rw [nb_len, sizeLine_eq]; omega
    obtain ⟨L1, hL1⟩ : ∃ L : List Int, L = ((List.range l.length).filter fun i => badSg (l.getD i 0)).map fun i => ((l.getD i 0 : Nat) : Int) := ⟨_, rfl⟩
    have c1 : (!decide (L1 = [])) = !l.all isSgn := by
      rw [hL1, filt_dec, ← all_range isSgn l]
      simp only [badSg_not]
    refine ifT (!l.all isSgn || (decide (l.take 1 = [32]) || decide (l.drop (l.length - 1) = [32]))) (fun q0 q => orT _ _ (fun q1 p1 => ⟨.ref a, rfl, a, rfl, ⟨_, .inl (.inl ea)⟩, fun D hD => lc_filt (fun i => (nb l).getD i .non) (fun i => (nb l).getD i .non) (fun i => badSg (l.getD i 0)) walk_listF (fun H2 s2 => s2.seq (.inl (.inl ea))) hD hln (fun i H2 Q2 hi s3 q2 => ?_) (fun i H2 Q2 hi s3 hf q2 => ⟨_, rfl, q2 _ (Same.refl _)⟩) (fun H2 s2 e => ?_)⟩)
      (fun _ Ha qa sa pa => orT _ _ (fun q1 p1 => ⟨.ref a, rfl, 1, rfl, a, _, rfl, .inl (.inl (sa _ _ ea)), fun p np => ?_⟩) (fun _ Hb qb sb pb => ⟨.ref a, rfl, 1, rfl, -1, rfl, a, _, rfl, .inl (.inl (sb _ _ (sa _ _ ea))), fun p np => ?_⟩) pa) q) (fun hc H1 s1 => ?_) (fun hc H1 s1 => ?_)
    · rw [nb_len] at hi
      rw [nb_at l hi]
      generalize l.getD i 0 = c at *
      exact orT _ _ (fun q3 p3 => notT _ (fun q4 p4 => chainT (fun R r => ⟨_, rfl, r⟩) p4) p3) (fun _ H3 q3 s3 p3 => ⟨_, rfl, rfl, _, rfl, TellB.eq (vint_dec _ _) p3 _ (Same.refl _)⟩) q2
    · rw [nb_len] at e
      have e : H2 D = some (.lst (L1.map V.int)) := by
        rw [e, hL1, List.map_map]
        exact congrArg (fun x => some (HO.lst x)) (List.map_congr_left fun i hi => nb_at l (List.mem_range.mp (List.mem_filter.mp hi).1))
      exact ⟨Nat.zero_le _, fun g ng => ⟨_, _, dp_ints (.inl (.inl (same_upd ng _ _ e))), dp_ints (bs := []) (.inl (.inl upd_same)), shaped_intsL _, shaped_intsL [], _, rfl, TellB.eq ((congrArg (! ·) (eqv_intsL L1 [])).trans c1) p1 _ (s2.trans (same_upd ng))⟩⟩
    · refine ⟨Nat.le_of_lt (small1000 (show 1 ≤ 1000 by decide)), fun g ng => ?_⟩
      have u1 := same_upd (o := .lst (cutV (nb l) none (some 1))) np
      have f1 : upd Ha p (.lst (cutV (nb l) none (some 1))) p = some (.lst (((l.take 1).map fun b => ((b : Nat) : Int)).map V.int)) := by
        rw [upd_same, show (1 : Int) = ((1 : Nat) : Int) from rfl, cutV_to, ← nbI]
        unfold nb
        rw [List.map_take]
      exact ⟨_, _, dp_ints (.inl (.inl (same_upd ng _ _ f1))), dp_ints (bs := [32]) (.inl (.inl upd_same)), shaped_intsL _, shaped_intsL [32], _, rfl, TellB.eq ((eqv_intsL _ [32]).trans (cast_dec (l.take 1) [32])) p1 _ (u1.trans (same_upd ng))⟩
    · refine ⟨Nat.le_of_lt (small1000 (show 1 ≤ 1000 by decide)), fun g ng => ?_⟩
      have u1 := same_upd (o := .lst (cutV (nb l) (some (-1)) none)) np
      have f1 : upd Hb p (.lst (cutV (nb l) (some (-1)) none)) p = some (.lst (((l.drop (l.length - 1)).map fun b => ((b : Nat) : Int)).map V.int)) := by
        rw [upd_same, cutV_last, ← nbI, nb_len]
        unfold nb
        rw [List.map_drop]
      exact ⟨_, _, dp_ints (.inl (.inl (same_upd ng _ _ f1))), dp_ints (bs := [32]) (.inl (.inl upd_same)), shaped_intsL _, shaped_intsL [32], _, rfl, TellB.eq ((eqv_intsL _ [32]).trans (cast_dec (l.drop (l.length - 1)) [32])) pb _ (u1.trans (same_upd ng))⟩
    · have hv : (l.all isSgn && (!decide (l.take 1 = [32]) && (!decide (l.drop (l.length - 1) = [32]) && ((splitL 32 (maskL l)).all (fun u => decide (u.length ≤ 59)) && (!hasStart 32 l && !dbl 32 l))))) = false := by
        revert hc
        generalize l.all isSgn = b1
        generalize decide (l.take 1 = [32]) = b2
        generalize decide (l.drop (l.length - 1) = [32]) = b3
        cases b1 <;> cases b2 <;> cases b3 <;> simp
      rw [hv] at q
      exact q _ s1
    · simp only [Bool.or_eq_false_iff, Bool.not_eq_false'] at hc
      obtain ⟨h1, h2, h3⟩ := hc
      rw [h1, h2, h3] at q
      replace q : Tell H (V.bl ((splitL 32 (maskL l)).all (fun u => decide (u.length ≤ 59)) && (!hasStart 32 l && !dbl 32 l))) Q := q
      have e1 := s1 _ _ ea
      dsimp only [tNext, tSeq, tAsg]
      refine ⟨⟨_, rfl⟩, .ref a, rfl, a, rfl, ⟨_, .inl (.inl e1)⟩, fun D hD => lc_pure (fun i => (nb l).getD i .non) (fun i => .str ⟨#[(maskL l).getD i 0]⟩) walk_listF (fun H2 s2 => s2.seq (.inl (.inl e1))) hD hln (fun i H2 Q2 hi s2 q2 => ?_) (fun H2 s2 e => ?_)⟩
      · rw [nb_len] at hi
        have hm : (maskL l).getD i 0 = if l.getD i 0 = 32 then 32 else 120 := by
          unfold maskL
          rw [List.getD_eq_getElem?_getD, List.getElem?_map, List.getElem?_eq_getElem hi, List.getD_eq_getElem?_getD, List.getElem?_eq_getElem hi]
          rfl
        rw [nb_at l hi]
        rw [hm] at q2
        generalize l.getD i 0 = c at *
        refine ⟨Nat.le_of_lt (small1000 (show 2 ≤ 1000 by decide)), fun p np => ⟨_, rfl, rfl, .inr ⟨_, rfl, p, _, _, _, rfl, rfl, .inl (.inl upd_same), ?_, q2 _ (same_upd np)⟩⟩⟩
        rw [vint_dec]
        by_cases h : c = 32
        · rw [decide_eq_true (show ((c : Nat) : Int) = 32 by omega), if_pos rfl, if_pos h]
          decide +kernel
        · rw [decide_eq_false (show ¬ ((c : Nat) : Int) = 32 by omega), if_neg Bool.false_ne_true, if_neg h]
          decide +kernel
      · have hml : (maskL l).length = l.length := List.length_map ..
        have e : H2 D = some (.lst (((maskL l).map fun b => (⟨#[b]⟩ : Str)).map V.str)) := by
          rw [e, nb_len, ← hml, ← nb_len (maskL l), signs_row]
        have h0 : (Str.ofString "").length = 0 := by decide +kernel
        refine ⟨Str.ofString "", D, _, rfl, rfl, .inl (.inl (.inl e)), by rw [signs_sum, h0]; omega, ⟨_, rfl⟩, ?_⟩
        have hJ := signs_join (maskL l)
        generalize Txt.join (Str.ofString "") ((maskL l).map fun b => (⟨#[b]⟩ : Str)) = J at *
        have hJl : J.length = l.length := by rw [TL.len_tl, hJ, hml]
        have one : TL.tl (Str.ofString " ") = [32] := by decide +kernel
        have hsp : Txt.split J (Str.ofString " ") = strL (splitL 32 (maskL l)) := TL.map_tl_inj (by rw [split_tl one (by decide), strL_tls, hJ])
        refine ⟨J, Str.ofString " ", rfl, rfl, by decide +kernel, by rw [sizeLine_eq]; omega, fun p np => ?_⟩
        rw [hsp]
        have hmem : ∀ u ∈ splitL 32 (maskL l), ∀ c ∈ u, c = 32 ∨ c = 120 := fun u hu c hc => by
          have := splitL_mem 32 _ u hu c hc
          unfold maskL at this
          obtain ⟨x, _, rfl⟩ := List.mem_map.mp this
          split
          · exact .inl rfl
          · exact .inr rfl
        have hwn : (splitL 32 (maskL l)).length ≤ l.length + 1 := by
          have := splitL_len 32 (maskL l)
          omega
        have hul : ∀ u ∈ splitL 32 (maskL l), u.length ≤ l.length := fun u hu => by
          have := splitL_le 32 (maskL l) u hu
          omega
        generalize splitL 32 (maskL l) = us at *
        have s3 := s1.trans (s2.trans (same_upd (o := .lst ((strL us).map V.str)) np))
        have ew : upd H2 p (.lst ((strL us).map V.str)) p = _ := upd_same
        generalize upd H2 p (.lst ((strL us).map V.str)) = G at *
        dsimp only [gName]
        dsimp only [tSeq, tAsg]
        obtain ⟨L2s, hL2⟩ : ∃ L : List Str, L = ((List.range us.length).filter fun i => decide (59 < (us.getD i []).length)).map fun i => (⟨(us.getD i []).toArray⟩ : Str) := ⟨_, rfl⟩
        have hok : ∀ x ∈ L2s, OkS x := fun x hx => by
          rw [hL2] at hx
          obtain ⟨i, hi, rfl⟩ := List.mem_map.mp hx
          have hi := List.mem_range.mp (List.mem_filter.mp hi).1
          intro c hc
          have := hmem _ (getD_mem us [] hi) c hc
          omega
        have c2 : (!decide (L2s = [])) = !us.all fun u => decide (u.length ≤ 59) := by
          rw [hL2, filt_dec, ← all_rangeL []]
          congr 2
          funext i
          rw [← decide_not]
          exact decide_eq_decide.mpr (by omega)
        have hsm : ((strL us).map V.str).length = us.length := by rw [List.length_map, strL_len]
        refine ifT (!us.all fun u => decide (u.length ≤ 59)) (fun q1 p1 => ⟨.ref p, rfl, p, rfl, ⟨_, .inl (.inl ew)⟩, fun D hD => lc_filt (fun i => ((strL us).map V.str).getD i .non) (fun i => ((strL us).map V.str).getD i .non) (fun i => decide (59 < (us.getD i []).length)) walk_listF (fun H2 s2 => s2.seq (.inl (.inl ew))) hD (by rw [hsm, sizeLine_eq]; omega) (fun i H2 Q2 hi s4 q2 => ?_) (fun i H2 Q2 hi s4 hf q2 => ⟨_, rfl, q2 _ (Same.refl _)⟩) (fun H2 s4 e => ?_)⟩) (fun hc2 H3 s4 => ?_) (fun hc2 H3 s4 => ?_)
        · rw [hsm] at hi
          rw [strL_at us i hi]
          have := hul _ (getD_mem us [] hi)
          refine ⟨_, rfl, _, rfl, by rw [mk_len, sizeLine_eq]; omega, _, _, rfl, rfl, _, rfl, ?_⟩
          rw [mk_len, show decide ((59 : Int) < ((us.getD i []).length : Nat)) = decide (59 < (us.getD i []).length) from decide_eq_decide.mpr (by omega)]
          exact q2 _ (Same.refl _)
        · rw [hsm] at e
          have e : H2 D = some (.lst (L2s.map V.str)) := by
            rw [e, hL2, List.map_map]
            exact congrArg (fun x => some (HO.lst x)) (List.map_congr_left fun i hi => strL_at us i (List.mem_range.mp (List.mem_filter.mp hi).1))
          exact ⟨Nat.zero_le _, fun g ng => ⟨_, _, dp_strs (.inl (.inl (same_upd ng _ _ e))), dp_strs (bs := []) (.inl (.inl upd_same)), shaped_strs L2s hok, shaped_strs [] (fun _ h => by cases h), _, rfl, TellB.eq ((congrArg (! ·) (eqv_strsL L2s [])).trans c2) p1 _ (s4.trans (same_upd ng))⟩⟩
        · rw [show us.all (fun u => decide (u.length ≤ 59)) = false by simpa using hc2] at q
          exact q _ (s3.trans s4)
        · rw [show us.all (fun u => decide (u.length ≤ 59)) = true by simpa using hc2] at q
          replace q : Tell H (V.bl (!hasStart 32 l && !dbl 32 l)) Q := q
          have s5 := s3.trans s4
          have e5 := s5 _ _ ea
          dsimp only [tNext, tSeq, tAsg]
          refine ⟨Nat.le_of_lt (small1000 (show 1 ≤ 1000 by decide)), fun b1 m1 => ?_⟩
          have w1 := same_upd (o := .lst [V.int 32]) m1
          have g1 : upd H3 b1 (.lst [V.int 32]) b1 = _ := upd_same
          generalize upd H3 b1 (.lst [V.int 32]) = G1 at *
          refine ⟨.ref a, rfl, b1, a, _, _, rfl, rfl, g1, w1 _ _ e5, by rw [nb_len, sizeLine_eq]; simp only [List.length_cons, List.length_nil]; omega, fun b2 m2 => ?_⟩
          have w2 := same_upd (o := .lst ([V.int 32] ++ nb l)) m2
          have g2 : upd G1 b2 (.lst ([V.int 32] ++ nb l)) b2 = some (.lst (nb (32 :: l))) := upd_same
          generalize upd G1 b2 (.lst ([V.int 32] ++ nb l)) = G2 at *
          have e6 := w2 _ _ (w1 _ _ e5)
          refine ⟨.ref a, rfl, .ref a, rfl, 1, rfl, a, _, rfl, .inl (.inl e6), fun b3 m3 => ?_⟩
          have w3 := same_upd (o := .lst (cutV (nb l) (some 1) none)) m3
          have g3 : upd G2 b3 (.lst (cutV (nb l) (some 1) none)) b3 = some (.lst (nb (l.drop 1))) := by
            rw [upd_same, show (1 : Int) = ((1 : Nat) : Int) from rfl, cutV_from]
            unfold nb
            rw [List.map_drop]
          generalize upd G2 b3 (.lst (cutV (nb l) (some 1) none)) = G3 at *
          refine ⟨Nat.le_of_lt (small1000 (show 1 ≤ 1000 by decide)), fun b4 m4 => ?_⟩
          have w4 := same_upd (o := .lst [V.int 0]) m4
          have g4 : upd G3 b4 (.lst [V.int 0]) b4 = _ := upd_same
          generalize upd G3 b4 (.lst [V.int 0]) = G4 at *
          refine ⟨b3, b4, _, _, rfl, rfl, w4 _ _ g3, g4, by rw [nb_len, List.length_drop, sizeLine_eq]; simp only [List.length_cons, List.length_nil]; omega, fun b5 m5 => ?_⟩
          have w5 := same_upd (o := .lst (nb (l.drop 1) ++ [V.int 0])) m5
          have g5 : upd G4 b5 (.lst (nb (l.drop 1) ++ [V.int 0])) b5 = some (.lst (nb (l.drop 1 ++ [0]))) := by
            rw [upd_same]
            unfold nb
            rw [List.map_append]
            rfl
          generalize upd G4 b5 (.lst (nb (l.drop 1) ++ [V.int 0])) = G5 at *
          have S5 := w3.trans (w4.trans w5)
          have hd1 : (l.drop 1 ++ [0]).length = l.length - 1 + 1 := by rw [List.length_append, List.length_drop]; rfl
          refine ⟨b2, a, b5, _, _, _, rfl, .inl (.inl (S5 _ _ g2)), .inl (.inl (S5 _ _ e6)), .inl (.inl g5), l.length, by rw [nb_len, List.length_cons]; omega, by rw [nb_len]; omega, by rw [nb_len, hd1]; omega, by rw [nb_len, nb_len, nb_len]; exact .inr (.inl rfl), fun G6 D us sz nD hul2 hu eD => ?_⟩
          have s6 := s5.trans (w1.trans (w2.trans (S5.trans sz)))
          obtain ⟨T3, hT3⟩ : ∃ t : Nat → Int × Int × Int, t = fun i => ((((32 :: l).getD i 0 : Nat) : Int), ((l.getD i 0 : Nat) : Int), ((l.getD (i + 1) 0 : Nat) : Int)) := ⟨_, rfl⟩
          have hu : ∀ i, i < l.length → G6 (us.getD i 0) = some (.tup [.int (T3 i).1, .int (T3 i).2.1, .int (T3 i).2.2]) := fun i hi => by
            rw [hu i hi, nb_at (32 :: l) (by rw [List.length_cons]; omega), nb_at l hi, nb_at (l.drop 1 ++ [0]) (by rw [hd1]; omega), hT3]
            have : (l.drop 1 ++ [0]).getD i 0 = l.getD (i + 1) 0 := by
              rw [List.getD_eq_getElem?_getD, List.getD_eq_getElem?_getD]
              by_cases h : i < l.length - 1
              · rw [List.getElem?_append_left (by rw [List.length_drop]; exact h), List.getElem?_drop, Nat.add_comm]
              · have hi2 : i = l.length - 1 := by omega
                rw [List.getElem?_append_right (by rw [List.length_drop]; omega), List.length_drop, hi2, Nat.sub_self, List.getElem?_eq_none (show l.length ≤ l.length - 1 + 1 by omega)]
                rfl
            rw [this]
          have hrl : (us.map V.ref).length = l.length := by rw [List.length_map, hul2]
          have hra : ∀ i, i < l.length → (us.map V.ref).getD i .non = .ref (us.getD i 0) := fun i hi => by
            rw [List.getD_eq_getElem?_getD, List.getElem?_map, List.getElem?_eq_getElem (by omega), List.getD_eq_getElem?_getD, List.getElem?_eq_getElem (by omega)]
            rfl
          have hrs : (us.map V.ref).length ≤ sizeLine := by rw [hrl, sizeLine_eq]; omega
          have cmp : ∀ (b : Nat → Bool) (H2 : Hp) (D2 : Addr) (k : Bool → Hp → Prop), Same G6 H2 → H2 D2 = some (.lst (((List.range (us.map V.ref).length).filter b).map fun i => (us.map V.ref).getD i .non)) → ∀ g, H2 g = none → ∃ d e, Dp K (upd H2 g (.lst [])) (.ref D2) d ∧ Dp K (upd H2 g (.lst [])) (.ref g) e ∧ SeqAt.shaped d = true ∧ SeqAt.shaped e = true ∧ PyData.eqv d e = (List.range l.length).all fun i => !b i := fun b H2 D2 k s2 e g ng => by
            rw [hrl, List.map_congr_left (g := fun i => V.ref (us.getD i 0)) (fun i hi => hra i (List.mem_range.mp (List.mem_filter.mp hi).1))] at e
            have sg := same_upd (o := .lst []) ng
            refine ⟨.list ((((List.range l.length).filter b).map T3).map dTup), .list [], .lst (.inl (.inl (sg _ _ e))) ?_, .lst (.inl (.inl upd_same)) .nil, shaped_tups _, shaped_tups [], ?_⟩
            · rw [List.map_map]
              exact dpAll_tups (fun i => us.getD i 0) T3 _ fun i hi => sg _ _ (s2 _ _ (hu i (List.mem_range.mp (List.mem_filter.mp hi).1)))
            · rw [eqv_nil, List.map_map, Bool.eq_iff_iff, decide_eq_true_eq]
              exact filt_nil _ _ _
          dsimp only [gName]
          refine ifT (hasStart 32 l) (fun q1 p1 => ⟨.ref D, rfl, D, rfl, ⟨_, .inl (.inl eD)⟩, fun D2 hD2 => lc_filt (fun i => (us.map V.ref).getD i .non) (fun i => (us.map V.ref).getD i .non) (fun i => decide ((T3 i).1 = 32) && (decide ((T3 i).2.1 = 61) && decide ((T3 i).2.2 = 63))) walk_listF (fun H2 s2 => s2.seq (.inl (.inl eD))) hD2 hrs (fun i H2 Q2 hi s2 q2 => ?_) (fun i H2 Q2 hi s4 hf q2 => ⟨_, rfl, q2 _ (Same.refl _)⟩) (fun H2 s2 e => ?_)⟩) (fun hc3 H4 s7 => ?_) (fun hc3 H4 s7 => ?_)
          · rw [hrl] at hi
            rw [hra i hi]
            have e7 := s2 _ _ (hu i hi)
            exact andT _ _ (fun q3 p3 => ⟨.ref (us.getD i 0), rfl, _, _, 0, _, rfl, rfl, .inl (.inl e7), rfl, rfl, _, rfl, TellB.eq (vint_dec _ _) p3 _ (Same.refl _)⟩) (fun _ H5 q3 s3 p3 => two_of (fun R r => ⟨_, rfl, r⟩) (s3 _ _ e7) p3) q2
          · refine ⟨Nat.zero_le _, fun g ng => ?_⟩
            obtain ⟨d1, d2, x1, x2, x3, x4, x5⟩ := cmp _ H2 _ q1 s2 e g ng
            refine ⟨d1, d2, x1, x2, x3, x4, _, rfl, TellB.eq ?_ p1 _ (s2.trans (same_upd ng))⟩
            rw [x5, start_range, hT3, ← List.not_any_eq_all_not, Bool.not_not]
            have hd : ∀ x n : Nat, decide (((x : Nat) : Int) = ((n : Nat) : Int)) = decide (x = n) := fun x n => decide_eq_decide.mpr (by omega)
            exact congrArg (fun g => (List.range l.length).any g) (funext fun i => by
              show (decide ((((32 :: l).getD i 0 : Nat) : Int) = ((32 : Nat) : Int)) && (decide (((l.getD i 0 : Nat) : Int) = ((61 : Nat) : Int)) && decide (((l.getD (i + 1) 0 : Nat) : Int) = ((63 : Nat) : Int)))) = _
              rw [hd, hd, hd])
          · rw [hc3] at q
            exact q _ (s6.trans s7)
          · rw [hc3] at q
            replace q : Tell H (V.bl (!dbl 32 l)) Q := q
            dsimp only [tNext]
            refine ⟨.ref D, rfl, D, rfl, ⟨_, .inl (.inl (s7 _ _ eD))⟩, fun D2 hD2 => lc_filt (fun i => (us.map V.ref).getD i .non) (fun i => (us.map V.ref).getD i .non) (fun i => decide ((T3 i).2.1 = 32) && decide ((T3 i).2.2 = 32)) walk_listF (fun H2 s2 => s2.seq (.inl (.inl (s7 _ _ eD)))) hD2 hrs (fun i H2 Q2 hi s2 q2 => ?_) (fun i H2 Q2 hi s4 hf q2 => ⟨_, rfl, q2 _ (Same.refl _)⟩) (fun H2 s2 e => ?_)⟩
            · rw [hrl] at hi
              rw [hra i hi]
              exact two_of (fun R r => ⟨_, rfl, r⟩) (s2 _ _ (s7 _ _ (hu i hi))) q2
            · refine ⟨Nat.zero_le _, fun g ng => ?_⟩
              obtain ⟨d1, d2, x1, x2, x3, x4, x5⟩ := cmp _ H2 _ (fun _ _ => True) (s7.trans s2) e g ng
              refine ⟨d1, d2, x1, x2, x3, x4, ?_⟩
              rw [x5, hT3]
              have : ((List.range l.length).all fun i => !(decide ((((l.getD i 0 : Nat) : Int)) = 32) && decide ((((l.getD (i + 1) 0 : Nat) : Int)) = 32))) = !dbl 32 l := by
                rw [dbl_range, ← List.not_any_eq_all_not]
                have hd : ∀ x n : Nat, decide (((x : Nat) : Int) = ((n : Nat) : Int)) = decide (x = n) := fun x n => decide_eq_decide.mpr (by omega)
                exact congrArg (fun g => !(List.range l.length).any g) (funext fun i => by
                  show (decide (((l.getD i 0 : Nat) : Int) = ((32 : Nat) : Int)) && decide (((l.getD (i + 1) 0 : Nat) : Int) = ((32 : Nat) : Int))) = _
                  rw [hd, hd])
              rw [this]
              exact q _ (s6.trans (s7.trans (s2.trans (same_upd ng))))
end
end K09

namespace K09
open PySem PySem.Spec PyProof.Rows L2 LH
theorem nb_rep (b n : Nat) : (List.replicate n [V.int (b : Nat)]).flatten = nb (List.replicate n b) := by
  induction n with
  | zero => rfl
  | succ k ih => rw [List.replicate_succ, List.flatten_cons, ih, List.replicate_succ]; rfl
section
variable {P : Program} {w : World} {K : PySem.W.Frag} {mg : Str → Option Value} {base : Heap} {tk : Nat → Tok} {ca : Nat → Addr}
/-! ### _law_bytes -/
abbrev s__law_bytes : Stmt := topS 73
abbrev N__law_bytes : List Str := ["_law_script", "_law_found", "_law_plain", "_law_k", "_law_cell_here", "_law_number_here", "_law_more", "_law_some", "_law_at", "_law_byte"]
abbrev P__law_bytes : List Str := ["_law_script"]
theorem sc__law_bytes : FnScope N__law_bytes ["_law_script"] (defScope s__law_bytes) := ⟨rfl, rfl, rfl, by decide +kernel, rfl, by decide +kernel, by decide +kernel⟩
def sp_lbytes (K : PySem.W.Frag) : Sp := fun vs H Q _ => ∃ (a : Addr) (ns : List Int), vs = [.ref a] ∧ SqL K H a (ns.map V.int) ∧ ns.length ≤ 63 ∧ ∀ l : List Nat, BytesN l → l.length ≤ 4000 → New H (nb l) Q
theorem ok_lbytes {f1 f2 f : Addr} {fd1 fd2 fd : FuncData} (F : Fun K "_law_bytes" "_law_bytes" s__law_bytes f fd) (T : Tx mg tk) (D__law_mixed : Def P w K mg base "_law_mixed" 1 f1 fd1 P__law_mixed sp_mixed) (D__law_cell : Def P w K mg base "_law_cell" 1 f2 fd2 P__law_cell (sp_cell K)) : FnOk P w K mg base CX0 2 f fd P__law_bytes (sp_lbytes K) := by
  refine F.ok sc__law_bytes (fun vs H Q E h => ?_) (fun cdv A outer s H vs Q E hr h => ?_)
  · obtain ⟨a, l, rfl, _⟩ := h
    rfl
  · have nd := sc__law_bytes.nd
    obtain ⟨a, ns, rfl, hS, hlen, q⟩ := h
    refine ⟨_, (pss_cons (ps_set (i := 1) nd rfl (.inr rfl) (pe_lst pa_nil))
      (pss_cons (ps_set (i := 2) nd rfl (.inl rfl) (pe_cmpR op_eq (pe_op op_mod (pe_def D__law_mixed (hr.mono (by decide)) (pa_cons (pe_def D__law_cell (hr.mono (by decide)) (pa_cons (pv 0) (pa_cons pe_int pa_nil))) (pa_cons pe_int pa_nil))) pe_int) pe_int (nomark _)))
      (pss_cons (ps_for PassesOwn.never rfl (pi_enum (by rfl) T.n_enumerate (pa_cons (pe_slice (slL K) (pv 0) po_none (po_some pe_int)) pa_nil)) (pg_tup rfl (pgs_cons (pg_name (i := 3) nd rfl (Or.inl rfl)) (pgs_cons (pg_name (i := 4) nd rfl (Or.inl rfl)) pgs_nil)))
        (pss_cons (ps_set (i := 5) nd rfl (.inl rfl) (pe_def D__law_mixed (hr.mono (by decide)) (pa_cons (pv 4) (pa_cons (pv 3) pa_nil))))
        (pss_cons (ps_set (i := 6) nd rfl (.inl rfl) (pe_op op_fdiv (pv 5) pe_int))
        (pss_cons (ps_set (i := 7) nd rfl (.inl rfl) (pe_lst (pa_cons (pe_op op_add pe_int (pe_op op_mod (pv 6) pe_int)) (pa_cons (pe_op op_add pe_int (pe_op op_mod (pe_op op_fdiv (pv 6) pe_int) pe_int)) pa_nil))))
        (pss_cons (ps_if (pt_cmpR op_lt (pe_op op_mod (pv 5) pe_int) pe_int (nomark _))
          (pss_one (ps_set (i := 7) nd rfl (.inl rfl) (pe_ix (ixL K) (pe_lst (pa_cons (pe_lst (pa_cons pe_int pa_nil)) (pa_cons (pe_lst (pa_cons pe_int (pa_cons pe_int (pa_cons pe_int pa_nil)))) (pa_cons (pe_lst (pa_cons pe_int (pa_cons pe_int (pa_cons (pe_op op_add pe_int (pe_op op_mod (pv 6) pe_int)) pa_nil)))) (pa_cons (pe_lst (pa_cons (pe_op op_add pe_int (pe_op op_mod (pv 6) pe_int)) (pa_cons pe_int pa_nil))) pa_nil))))) (pe_op op_mod (pv 5) pe_int) (fun _ _ => rfl))))
          (pss_one (ps_if (pt_cmpR op_eq (pe_op op_mod (pv 5) pe_int) pe_int (nomark _))
            (pss_one (ps_set (i := 7) nd rfl (.inl rfl) (pe_op op_cat (pe_op op_cat (pe_lst (pa_cons pe_int pa_nil)) (pe_op op_rep (pe_lst (pa_cons (pe_op op_add pe_int (pe_op op_mod (pv 6) pe_int)) pa_nil)) (pe_ix (ixL K) (pe_lst (pa_cons pe_int (pa_cons pe_int (pa_cons pe_int (pa_cons pe_int pa_nil))))) (pe_op op_mod (pe_op op_fdiv (pv 6) pe_int) pe_int) (fun _ _ => rfl)))) (pe_lst (pa_cons pe_int pa_nil)))))
            (pss_one (ps_if (PW.pt (pw_and (pt_cmpR op_eq (pe_op op_mod (pv 5) pe_int) pe_int (nomark _)) (pw_and1 (pt_not (pt_val (pv 2))))))
              (pss_one (ps_set (i := 7) nd rfl (.inl rfl) (pe_ix (ixL K) (pe_lst (pa_cons (pe_lst (pa_cons pe_int pa_nil)) (pa_cons (pe_lst (pa_cons (pe_op op_mod (pe_op op_fdiv (pv 6) pe_int) pe_int) pa_nil)) (pa_cons (pe_lst (pa_cons pe_int (pa_cons pe_int pa_nil))) (pa_cons (pe_lst (pa_cons pe_int pa_nil)) (pa_cons (pe_lst (pa_cons pe_int (pa_cons pe_int (pa_cons pe_int pa_nil)))) (pa_cons (pe_lst (pa_cons pe_int (pa_cons pe_int pa_nil))) pa_nil))))))) (pe_op op_mod (pv 6) pe_int) (fun _ _ => rfl))))
              pss_nil)))))
        (pss_one (ps_set (i := 1) nd rfl (.inr rfl) (pe_op op_cat (pv 1) (pv 7)))))))))
      (pss_cons (ps_if (pt_val (pv 2))
        (pss_cons (ps_set (i := 1) nd rfl (.inr rfl) (pe_lc (own := [("_law_at", 8), ("_law_byte", 9)]) (g := gTup K 2 (gCons (gName 8) (gCons (gName 9) gNil))) (by rfl) nd (pi_enum (by rfl) T.n_enumerate (pa_cons (pv 1) pa_nil)) (blkOk_by (N := N__law_bytes) (sc := defScope s__law_bytes) (by decide +kernel)) (fun _ _ _ _ _ => by exact (pg_tup rfl (pgs_cons (pg_name (i := 8) nd rfl (Or.inl rfl)) (pgs_cons (pg_name (i := 9) nd rfl (Or.inl rfl)) pgs_nil)))) (fun _ _ _ _ _ => (pts_one (PW.pt (pw_or (pt_cmpR op_ne (pv 9) pe_int (nomark _)) (pw_or1 (pt_cmpR (notInTD K (LH.room65 hr)) (pe_slice (slL K) (pe_slice (slL K) (pv 1) po_none (po_some (pv 8))) (po_some (pe_un un_neg pe_int)) po_none) (pe_tup (pa_cons (pe_lst pa_nil) (pa_cons (pe_lst (pa_cons pe_int pa_nil)) pa_nil))) (by rfl))))))) (fun _ _ _ _ _ => (pv 9))))
        (pss_one (ps_set (i := 1) nd rfl (.inr rfl) (pe_lc (own := [("_law_byte", 9)]) (g := gName 9) (by rfl) nd (pi_list (pv 1)) (blkOk_by (N := N__law_bytes) (sc := defScope s__law_bytes) (by decide +kernel)) (fun _ _ _ _ _ => (pg_name (i := 9) nd rfl (Or.inl rfl))) (fun _ _ _ _ _ => pts_nil) (fun _ _ _ _ _ => (pe_ix (ixL K) (pe_lst (pa_cons (pv 9) (pa_cons pe_int pa_nil))) (pe_callTy call_int1 (by rfl) T.n_int (by decide +kernel) (pa_cons (pe_cmpR op_eq (pv 9) pe_int (nomark _)) pa_nil)) (fun _ _ => rfl)))))))
        pss_nil)
      (pss_one (ps_ret (pv 1))))))), ?_⟩
    dsimp only [tSeq, tAsg]
    refine ⟨Nat.zero_le _, fun o no => ?_⟩
    have s1 := same_upd (o := .lst []) no
    have eo := upd_same (H := H) (a := o) (o := .lst [])
    generalize upd H o (.lst []) = H1 at *
    dsimp only [gName]
    refine ⟨.ref a, rfl, a, ns, 0, rfl, s1.seq hS, fun Hx sx => ⟨_, 60, rfl, by decide, by decide, fun Hy sy => ⟨_, 3, rfl, rfl, (show (0 : Int) < 3 by decide), rfl, ?_⟩⟩⟩
    dsimp only [gName]
    generalize decide (V.int (mixed (ns.getD 0 0) 60 % 3) = V.int 1) = pl
    have eo := sy _ _ (sx _ _ eo)
    have s1 := s1.trans (sx.trans sy)
    refine ⟨.ref a, rfl, 63, rfl, a, _, rfl, s1.seq hS, fun c nc => ?_⟩
    have ecut : cutV (ns.map V.int) none (some 63) = ns.map V.int := by
      rw [show (63 : Int) = ((63 : Nat) : Int) from rfl, cutV_to, List.take_of_length_le (by rw [List.length_map]; omega)]
    rw [ecut]
    have s2 := same_upd (o := .lst (ns.map V.int)) nc
    have ec := upd_same (H := Hy) (a := c) (o := .lst (ns.map V.int))
    have eo2 := s2 _ _ eo
    have sA := s1.trans s2
    generalize upd Hy c (.lst (ns.map V.int)) = H2 at *
    have le2 : 2 ≤ sizeLine := Nat.le_of_lt (small1000 (show 2 ≤ 1000 by decide))
    have le1 : 1 ≤ sizeLine := Nat.le_of_lt (small1000 (show 1 ≤ 1000 by decide))
    have le3 : 3 ≤ sizeLine := Nat.le_of_lt (small1000 (show 3 ≤ 1000 by decide))
    have le4 : 4 ≤ sizeLine := Nat.le_of_lt (small1000 (show 4 ≤ 1000 by decide))
    have le6 : 6 ≤ sizeLine := Nat.le_of_lt (small1000 (show 6 ≤ 1000 by decide))
    refine ⟨c, ns.map V.int, rfl, .inl (.inl ec), for_it walk_enum (fun i σ H' => ∃ (o' : Addr) (l : List Nat) (y3 y4 y5 y6 y7 : Option V), σ = [some (.ref a), some (.ref o'), some (.bl pl), y3, y4, y5, y6, y7, none, none] ∧ Same H H' ∧ Same H2 H' ∧ H o' = none ∧ H' o' = some (.lst (nb l)) ∧ BytesN l ∧ l.length ≤ 63 * i)
      ⟨o, [], none, none, none, none, none, rfl, sA, Same.refl _, no, eo2, (fun _ h => by cases h), Nat.zero_le _⟩
      (fun i σ H' _ h => by obtain ⟨_, _, _, _, _, _, _, rfl, _, s2', _⟩ := h; exact .inl (.inl (s2' _ _ ec))) (fun i x σ H' H'' hi hP hy => ?_) (fun σ H' hP => ?_)⟩
    · obtain ⟨o', l, y3, y4, y5, y6, y7, rfl, sm, sm2, no', eo', hb, hl⟩ := hP
      obtain ⟨U, x1, x2, rfl, nU, rfl, f1, f2⟩ := hy
      rw [List.length_map] at hi
      have f2 : (ns.map V.int)[i]? = some x2 := f2
      rw [List.getElem?_map, List.getElem?_eq_getElem hi] at f2
      obtain rfl := Option.some.inj f1
      obtain rfl := Option.some.inj f2
      have sU := same_upd (o := .tup [.int (i : Nat), .int ns[i]]) nU
      refine ⟨U, _, rfl, .inl (.inl upd_same), rfl, _, _, rfl, _, _, rfl, rfl, ?_⟩
      refine ⟨_, rfl, _, rfl, ns[i], (i : Int), rfl, by omega, by omega, fun H3 s3 => ?_⟩
      have hM := mixed_lt ns[i] (i : Int)
      generalize mixed ns[i] (i : Int) = M at hM
      dsimp only [gName]
      refine ⟨.int M, rfl, M, 16, rfl, rfl, ⟨by decide, by decide⟩, ?_⟩
      have hE : 0 ≤ M / 16 ∧ M / 16 < 2147483648 := by omega
      have sB := sU.trans s3
      have smB := sm.trans sB
      have sm2B := sm2.trans sB
      have eoB := sB _ _ eo'
      dsimp only [gName]
      generalize M / 16 = X at *
      have hl63 : l.length ≤ 3906 := by omega
      obtain ⟨b1, hb1⟩ : ∃ b : Nat, 33 + X % 94 = (b : Int) := ⟨(33 + X % 94).toNat, by omega⟩
      obtain ⟨b2, hb2⟩ : ∃ b : Nat, 33 + X / 94 % 94 = (b : Int) := ⟨(33 + X / 94 % 94).toNat, by omega⟩
      obtain ⟨b3, hb3⟩ : ∃ b : Nat, X / 6 % 256 = (b : Int) := ⟨(X / 6 % 256).toNat, by omega⟩
      have l1 : b1 < 256 := by omega
      have l2 : b2 < 256 := by omega
      have l3 : b3 < 256 := by omega
      refine ⟨.int X, rfl, X, 94, rfl, rfl, (show (0 : Int) < 94 by decide), 33, _, rfl, rfl, .int X, rfl, X, 94, rfl, rfl, ⟨by decide, by decide⟩, _, 94, rfl, rfl, (show (0 : Int) < 94 by decide), 33, _, rfl, rfl, le2, fun g0 ng0 => ?_⟩
      dsimp only
      rw [hb1, hb2]
      have s4 := same_upd (o := .lst [V.int (b1 : Nat), .int (b2 : Nat)]) ng0
      have e4 : upd H3 g0 (.lst [V.int (b1 : Nat), .int (b2 : Nat)]) g0 = some (.lst (nb [b1, b2])) := upd_same
      generalize upd H3 g0 (.lst [V.int (b1 : Nat), .int (b2 : Nat)]) = H4 at *
      dsimp only [gName, tSeq]
      refine ifK fun D' hD => ?_
      have key : ∀ (H5 : Hp) (g : Addr) (m : List Nat), Same H4 H5 → H5 g = some (.lst (nb m)) → BytesN m → m.length ≤ 63 → D'.nx [some (.ref a), some (.ref o'), some (.bl pl), some (.int (i : Nat)), some (.int ns[i]), some (.int M), some (.int X), some (.ref g), none, none] H5 := fun H5 g m s5 eg hm hml => by
        rw [hD]
        have s6 := s4.trans s5
        refine ⟨.ref o', rfl, .ref g, rfl, o', g, _, _, rfl, rfl, s6 _ _ eoB, eg, by rw [nb_len, nb_len, sizeLine_eq]; omega, fun u nu => ⟨u, l ++ m, _, _, _, _, _, rfl, ?_, ?_, (smB.trans s6).free nu, ?_, ?_, ?_⟩⟩
        · exact (smB.trans s6).trans (same_upd nu)
        · exact (sm2B.trans s6).trans (same_upd nu)
        · rw [upd_same]
          unfold nb
          rw [List.map_append]
        · exact fun x hx => (List.mem_append.mp hx).elim (hb x) (hm x)
        · rw [List.length_append]
          omega
      clear hD
      have small : ∀ m : List Nat, (m.all fun x => decide (x < 256)) = true → BytesN m := fun m h x hx => of_decide_eq_true (List.all_eq_true.mp h x hx)
      refine ifT (decide (M % 16 < 4)) (fun k q1 => ⟨.int M, rfl, M, 16, rfl, rfl, (show (0 : Int) < 16 by decide), _, 4, rfl, rfl, _, rfl, q1 _ (Same.refl _)⟩) (fun _ H5 s5 => ?_) (fun _ H5 s5 => ifT (decide (M % 16 = 5)) (fun k q1 => ⟨.int M, rfl, M, 16, rfl, rfl, (show (0 : Int) < 16 by decide), rfl, _, rfl, TellB.eq (vint_dec _ _) q1 _ (Same.refl _)⟩) (fun _ H6 s6 => ?_) (fun _ H6 s6 => ifT (decide (M % 16 = 4) && !pl) (fun k q1 => andT _ _ (fun q2 p2 => ⟨.int M, rfl, M, 16, rfl, rfl, (show (0 : Int) < 16 by decide), rfl, _, rfl, TellB.eq (vint_dec _ _) p2 _ (Same.refl _)⟩) (fun _ Ha q2 sa p2 => notT pl (fun q3 p3 => ⟨_, rfl, pl, rfl, p3 _ (Same.refl _)⟩) p2) q1) (fun _ H7 s7 => ?_) (fun _ H7 s7 => ?_)))
      · refine ⟨le1, fun p1 n1 => ⟨le3, fun p2 n2 => ⟨.int X, rfl, X, 94, rfl, rfl, (show (0 : Int) < 94 by decide), 33, _, rfl, rfl, le3, fun p3 n3 => ⟨.int X, rfl, X, 94, rfl, rfl, (show (0 : Int) < 94 by decide), 33, _, rfl, rfl, le2, fun p4 n4 => ⟨le4, fun p5 n5 => ?_⟩⟩⟩⟩⟩
        dsimp only at n3 n4 n5 ⊢
        rw [hb1] at *
        have t1 := same_upd (o := .lst [V.int 32]) n1
        have e1 : upd H5 p1 (.lst [V.int 32]) p1 = some (.lst (nb [32])) := upd_same
        generalize upd H5 p1 (.lst [V.int 32]) = G1 at *
        have t2 := same_upd (o := .lst [V.int 32, .int 61, .int 63]) n2
        have e2 : upd G1 p2 (.lst [V.int 32, .int 61, .int 63]) p2 = some (.lst (nb [32, 61, 63])) := upd_same
        generalize upd G1 p2 (.lst [V.int 32, .int 61, .int 63]) = G2 at *
        have t3 := same_upd (o := .lst [V.int 61, .int 63, .int (b1 : Nat)]) n3
        have e3 : upd G2 p3 (.lst [V.int 61, .int 63, .int (b1 : Nat)]) p3 = some (.lst (nb [61, 63, b1])) := upd_same
        generalize upd G2 p3 (.lst [V.int 61, .int 63, .int (b1 : Nat)]) = G3 at *
        have t4 := same_upd (o := .lst [V.int (b1 : Nat), .int 32]) n4
        have e4' : upd G3 p4 (.lst [V.int (b1 : Nat), .int 32]) p4 = some (.lst (nb [b1, 32])) := upd_same
        generalize upd G3 p4 (.lst [V.int (b1 : Nat), .int 32]) = G4 at *
        have t5 := same_upd (o := .lst [V.ref p1, .ref p2, .ref p3, .ref p4]) n5
        have e5 : upd G4 p5 (.lst [V.ref p1, .ref p2, .ref p3, .ref p4]) p5 = _ := upd_same
        generalize upd G4 p5 (.lst [V.ref p1, .ref p2, .ref p3, .ref p4]) = G5 at *
        obtain ⟨x, hx, ex⟩ := pickL [V.ref p1, .ref p2, .ref p3, .ref p4] (M % 4) (by omega) (by show _ < (4 : Int); omega)
        obtain ⟨g, m, rfl, hg, hm, hml⟩ : ∃ g m, x = .ref g ∧ G5 g = some (.lst (nb m)) ∧ BytesN m ∧ m.length ≤ 63 := by
          simp only [List.mem_cons, List.mem_nil_iff, or_false] at hx
          rcases hx with rfl | rfl | rfl | rfl
          · exact ⟨p1, _, rfl, t5 _ _ (t4 _ _ (t3 _ _ (t2 _ _ e1))), small _ (by decide), by decide⟩
          · exact ⟨p2, _, rfl, t5 _ _ (t4 _ _ (t3 _ _ e2)), small _ (by decide), by decide⟩
          · exact ⟨p3, _, rfl, t5 _ _ (t4 _ _ e3), fun y hy => by simp only [List.mem_cons, List.mem_nil_iff, or_false] at hy; omega, by show 3 ≤ 63; decide⟩
          · exact ⟨p4, _, rfl, t5 _ _ e4', fun y hy => by simp only [List.mem_cons, List.mem_nil_iff, or_false] at hy; omega, by show 2 ≤ 63; decide⟩
        exact ⟨.int M, rfl, M, 4, rfl, rfl, (show (0 : Int) < 4 by decide), p5, _, _, .ref g, rfl, rfl, .inl (.inl e5), ex, key G5 g m (s5.trans (t1.trans (t2.trans (t3.trans (t4.trans t5))))) hg hm hml⟩
      · refine ⟨le1, fun p1 n1 => ⟨.int X, rfl, X, 94, rfl, rfl, (show (0 : Int) < 94 by decide), 33, _, rfl, rfl, le1, fun p2 n2 => ⟨le4, fun p3 n3 => ?_⟩⟩⟩
        dsimp only at n2 n3 ⊢
        rw [hb1] at *
        have t1 := same_upd (o := .lst [V.int 32]) n1
        have e1 : upd H6 p1 (.lst [V.int 32]) p1 = some (.lst (nb [32])) := upd_same
        generalize upd H6 p1 (.lst [V.int 32]) = G1 at *
        have t2 := same_upd (o := .lst [V.int (b1 : Nat)]) n2
        have e2 : upd G1 p2 (.lst [V.int (b1 : Nat)]) p2 = some (.lst [V.int (b1 : Nat)]) := upd_same
        generalize upd G1 p2 (.lst [V.int (b1 : Nat)]) = G2 at *
        have t3 := same_upd (o := .lst [V.int 59, .int 60, .int 58, .int 61]) n3
        have e3 : upd G2 p3 (.lst [V.int 59, .int 60, .int 58, .int 61]) p3 = _ := upd_same
        generalize upd G2 p3 (.lst [V.int 59, .int 60, .int 58, .int 61]) = G3 at *
        obtain ⟨x, hx, ex⟩ := pickL [V.int 59, .int 60, .int 58, .int 61] (X / 94 % 4) (by omega) (by show _ < (4 : Int); omega)
        obtain ⟨n, rfl, hn1⟩ : ∃ n : Nat, x = .int (n : Int) ∧ n ≤ 61 := by
          simp only [List.mem_cons, List.mem_nil_iff, or_false] at hx
          rcases hx with rfl | rfl | rfl | rfl
          · exact ⟨59, rfl, by decide⟩
          · exact ⟨60, rfl, by decide⟩
          · exact ⟨58, rfl, by decide⟩
          · exact ⟨61, rfl, by decide⟩
        refine ⟨.int X, rfl, X, 94, rfl, rfl, ⟨by decide, by decide⟩, _, 4, rfl, rfl, (show (0 : Int) < 4 by decide), p3, _, _, .int (n : Int), rfl, rfl, .inl (.inl e3), ex, p2, _, _, rfl, rfl, t3 _ _ e2, by omega, by omega, by show 1 * _ ≤ _; rw [sizeLine_eq]; omega, fun p4 n4 => ?_⟩
        rw [Int.toNat_natCast, nb_rep] at *
        have t4 := same_upd (o := .lst (nb (List.replicate n b1))) n4
        have e4' : upd G3 p4 (.lst (nb (List.replicate n b1))) p4 = _ := upd_same
        generalize upd G3 p4 (.lst (nb (List.replicate n b1))) = G4 at *
        refine ⟨p1, p4, _, _, rfl, rfl, t4 _ _ (t3 _ _ (t2 _ _ e1)), e4', by rw [nb_len, nb_len, List.length_replicate, sizeLine_eq]; simp only [List.length_cons, List.length_nil]; omega, fun p5 n5 => ⟨le1, fun p6 n6 => ?_⟩⟩
        have t5 := same_upd (o := .lst (nb [32] ++ nb (List.replicate n b1))) n5
        have e5 : upd G4 p5 (.lst (nb [32] ++ nb (List.replicate n b1))) p5 = some (.lst (nb ([32] ++ List.replicate n b1))) := by rw [upd_same, nb_app]
        generalize upd G4 p5 (.lst (nb [32] ++ nb (List.replicate n b1))) = G5 at *
        have t6 := same_upd (o := .lst [V.int 32]) n6
        have e6 : upd G5 p6 (.lst [V.int 32]) p6 = some (.lst (nb [32])) := upd_same
        generalize upd G5 p6 (.lst [V.int 32]) = G6 at *
        refine ⟨p5, p6, _, _, rfl, rfl, t6 _ _ e5, e6, by rw [nb_len, nb_len, List.length_append, List.length_replicate, sizeLine_eq]; simp only [List.length_cons, List.length_nil]; omega, fun p7 n7 => ?_⟩
        refine key _ p7 ([32] ++ List.replicate n b1 ++ [32]) (s5.trans (s6.trans (t1.trans (t2.trans (t3.trans (t4.trans (t5.trans (t6.trans (same_upd n7))))))))) (by rw [upd_same, ← nb_app ([32] ++ List.replicate n b1)]) (fun y hy => ?_) (by rw [List.length_append, List.length_append, List.length_replicate]; simp only [List.length_cons, List.length_nil]; omega)
        rcases List.mem_append.mp hy with hy | hy
        · rcases List.mem_append.mp hy with hy | hy
          · rw [List.mem_singleton.mp hy]; decide
          · rw [(List.mem_replicate.mp hy).2]; exact l1
        · rw [List.mem_singleton.mp hy]; decide
      · refine ⟨le1, fun p1 n1 => ⟨.int X, rfl, X, 6, rfl, rfl, ⟨by decide, by decide⟩, _, 256, rfl, rfl, (show (0 : Int) < 256 by decide), le1, fun p2 n2 => ⟨le2, fun p3 n3 => ⟨le1, fun p4 n4 => ⟨le3, fun p5 n5 => ⟨le2, fun p6 n6 => ⟨le6, fun p7 n7 => ?_⟩⟩⟩⟩⟩⟩⟩
        dsimp only at n3 n4 n5 n6 n7 ⊢
        rw [hb3] at *
        have t1 := same_upd (o := .lst [V.int 37]) n1
        have e1 : upd H7 p1 (.lst [V.int 37]) p1 = some (.lst (nb [37])) := upd_same
        generalize upd H7 p1 (.lst [V.int 37]) = G1 at *
        have t2 := same_upd (o := .lst [V.int (b3 : Nat)]) n2
        have e2 : upd G1 p2 (.lst [V.int (b3 : Nat)]) p2 = some (.lst (nb [b3])) := upd_same
        generalize upd G1 p2 (.lst [V.int (b3 : Nat)]) = G2 at *
        have t3 := same_upd (o := .lst [V.int 32, .int 32]) n3
        have e3 : upd G2 p3 (.lst [V.int 32, .int 32]) p3 = some (.lst (nb [32, 32])) := upd_same
        generalize upd G2 p3 (.lst [V.int 32, .int 32]) = G3 at *
        have t4 := same_upd (o := .lst [V.int 10]) n4
        have e4' : upd G3 p4 (.lst [V.int 10]) p4 = some (.lst (nb [10])) := upd_same
        generalize upd G3 p4 (.lst [V.int 10]) = G4 at *
        have t5 := same_upd (o := .lst [V.int 200, .int 0, .int 9]) n5
        have e5 : upd G4 p5 (.lst [V.int 200, .int 0, .int 9]) p5 = some (.lst (nb [200, 0, 9])) := upd_same
        generalize upd G4 p5 (.lst [V.int 200, .int 0, .int 9]) = G5 at *
        have t6 := same_upd (o := .lst [V.int 126, .int 127]) n6
        have e6 : upd G5 p6 (.lst [V.int 126, .int 127]) p6 = some (.lst (nb [126, 127])) := upd_same
        generalize upd G5 p6 (.lst [V.int 126, .int 127]) = G6 at *
        have t7 := same_upd (o := .lst [V.ref p1, .ref p2, .ref p3, .ref p4, .ref p5, .ref p6]) n7
        have e7 : upd G6 p7 (.lst [V.ref p1, .ref p2, .ref p3, .ref p4, .ref p5, .ref p6]) p7 = _ := upd_same
        generalize upd G6 p7 (.lst [V.ref p1, .ref p2, .ref p3, .ref p4, .ref p5, .ref p6]) = G7 at *
        obtain ⟨x, hx, ex⟩ := pickL [V.ref p1, .ref p2, .ref p3, .ref p4, .ref p5, .ref p6] (X % 6) (by omega) (by show _ < (6 : Int); omega)
        have t67 := t6.trans t7
        have t57 := t5.trans t67
        have t47 := t4.trans t57
        obtain ⟨g, m, rfl, hg, hm, hml⟩ : ∃ g m, x = .ref g ∧ G7 g = some (.lst (nb m)) ∧ BytesN m ∧ m.length ≤ 63 := by
          simp only [List.mem_cons, List.mem_nil_iff, or_false] at hx
          rcases hx with rfl | rfl | rfl | rfl | rfl | rfl
          · exact ⟨p1, _, rfl, t47 _ _ (t3 _ _ (t2 _ _ e1)), small _ (by decide), by decide⟩
          · exact ⟨p2, _, rfl, t47 _ _ (t3 _ _ e2), fun y hy => by rw [List.mem_singleton.mp hy]; exact l3, by show 1 ≤ 63; decide⟩
          · exact ⟨p3, _, rfl, t47 _ _ e3, small _ (by decide), by decide⟩
          · exact ⟨p4, _, rfl, t57 _ _ e4', small _ (by decide), by decide⟩
          · exact ⟨p5, _, rfl, t67 _ _ e5, small _ (by decide), by decide⟩
          · exact ⟨p6, _, rfl, t7 _ _ e6, small _ (by decide), by decide⟩
        exact ⟨.int X, rfl, X, 6, rfl, rfl, (show (0 : Int) < 6 by decide), p7, _, _, .ref g, rfl, rfl, .inl (.inl e7), ex, key G7 g m (s5.trans (s6.trans (s7.trans (t1.trans (t2.trans (t3.trans t47)))))) hg hm hml⟩
      · exact key _ g0 [b1, b2] (s5.trans (s6.trans s7)) ((s5.trans (s6.trans s7)) _ _ e4) (fun y hy => by simp only [List.mem_cons, List.mem_nil_iff, or_false] at hy; omega) (by show 2 ≤ 63; decide)
    · obtain ⟨o', l, y3, y4, y5, y6, y7, rfl, sm, sm2, no', eo', hb, hl⟩ := hP
      rw [List.length_map] at hl
      dsimp only [tSeq]
      refine ifT pl (fun k q1 => ⟨_, rfl, pl, rfl, q1 _ (Same.refl _)⟩) (fun _ H4 s4 => ?_) (fun _ H4 s4 => ⟨.ref o', rfl, q l hb (by omega) H4 o' (sm.trans s4) no' (s4 _ _ eo')⟩)
      have e4 := s4 _ _ eo'
      have sm4 := sm.trans s4
      dsimp only [tSeq, tAsg]
      have hls : (nb l).length ≤ sizeLine := by rw [nb_len, sizeLine_eq]; omega
      refine ⟨.ref o', rfl, o', nb l, rfl, .inl (.inl e4), fun D hD => lc_enumF (nb l) (fun i => (nb l).getD i .non) (fun i => !decide ((nb l).getD i .non = .int 32) || !([PyData.list [], PyData.list [.int 32]].any fun z => PyData.eqv z (.list ((((l.take i).drop ((l.take i).length - 1)).map fun b => ((b : Nat) : Int)).map PyData.int)))) (by decide) (.inl (.inl e4)) hD hls (fun i H5 Q5 hi s5 q5 => ?_) (fun i H5 Q5 hi s5 _ q5 => ⟨_, rfl, q5 _ (Same.refl _)⟩) (fun H5 s5 e5 => ?_)⟩
      · rw [nb_len] at hi
        refine orT _ _ (fun q3 pz => ⟨_, rfl, ?_⟩) (fun _ H6 q3 s6 pz => ?_) q5
        · rw [nb_at l hi] at pz ⊢
          exact ⟨rfl, _, rfl, pz _ (Same.refl _)⟩
        · refine ⟨.ref o', rfl, .int (i : Nat), rfl, (i : Nat), rfl, o', _, rfl, .inl (.inl (s6 _ _ (s5 _ _ e4))), fun p1 n1 => ⟨1, rfl, -1, rfl, p1, _, rfl, .inl (.inl upd_same), fun p2 n2 => ⟨Nat.zero_le _, fun p3 n3 => ⟨le1, fun p4 n4 => ⟨le2, fun p5 n5 => ?_⟩⟩⟩⟩⟩
          have t1 := same_upd (o := .lst (cutV (nb l) none (some ((i : Nat) : Int)))) n1
          have f1 : upd H6 p1 (.lst (cutV (nb l) none (some ((i : Nat) : Int)))) p1 = some (.lst (nb (l.take i))) := by
            rw [upd_same, cutV_to]
            unfold nb
            rw [List.map_take]
          have t2 := same_upd (o := .lst (cutV (cutV (nb l) none (some ((i : Nat) : Int))) (some (-1)) none)) n2
          have f2 : upd (upd H6 p1 (.lst (cutV (nb l) none (some ((i : Nat) : Int))))) p2 (.lst (cutV (cutV (nb l) none (some ((i : Nat) : Int))) (some (-1)) none)) p2 = some (.lst (nb ((l.take i).drop ((l.take i).length - 1)))) := by
            have e : cutV (nb l) none (some ((i : Nat) : Int)) = nb (l.take i) := by
              rw [cutV_to]
              unfold nb
              rw [List.map_take]
            rw [upd_same, e, cutV_last, nb_len]
            unfold nb
            rw [List.map_drop]
          generalize upd (upd H6 p1 (.lst (cutV (nb l) none (some ((i : Nat) : Int))))) p2 (.lst (cutV (cutV (nb l) none (some ((i : Nat) : Int))) (some (-1)) none)) = G2 at *
          have t3 := same_upd (o := .lst []) n3
          have f3 : upd G2 p3 (.lst []) p3 = _ := upd_same
          generalize upd G2 p3 (.lst []) = G3 at *
          have t4 := same_upd (o := .lst [V.int 32]) n4
          have f4 : upd G3 p4 (.lst [V.int 32]) p4 = _ := upd_same
          generalize upd G3 p4 (.lst [V.int 32]) = G4 at *
          have t5 := same_upd (o := .tup [V.ref p3, .ref p4]) n5
          have f5 : upd G4 p5 (.tup [V.ref p3, .ref p4]) p5 = _ := upd_same
          refine ⟨_, [PyData.list [], PyData.list [.int 32]], dp_ints (bs := ((l.take i).drop ((l.take i).length - 1)).map fun b => ((b : Nat) : Int)) (.inl (.inl ?_)), .tup (.inl (.inl f5)) (.cons (.lst (.inl (.inl (t5 _ _ (t4 _ _ f3)))) .nil) (.cons (.lst (.inl (.inl (t5 _ _ f4))) (.cons (.int _) .nil)) .nil)), shaped_intsL _, by decide +kernel, _, rfl, pz _ (t1.trans (t2.trans (t3.trans (t4.trans t5))))⟩
          rw [← nbI]
          exact t5 _ _ (t4 _ _ (t3 _ _ f2))
      · rw [nb_len] at e5
        obtain ⟨l5, hl5⟩ : ∃ m : List Nat, m = ((List.range l.length).filter fun i => !decide ((nb l).getD i .non = .int 32) || !([PyData.list [], PyData.list [.int 32]].any fun z => PyData.eqv z (.list ((((l.take i).drop ((l.take i).length - 1)).map fun b => ((b : Nat) : Int)).map PyData.int)))).map fun i => l.getD i 0 := ⟨_, rfl⟩
        have e5 : H5 D = some (.lst (nb l5)) := by
          rw [e5, hl5]
          unfold nb
          rw [List.map_map]
          exact congrArg (fun x => some (HO.lst x)) (List.map_congr_left fun i hi => nb_at l (List.mem_range.mp (List.mem_filter.mp hi).1))
        have b5 : BytesN l5 := fun x hx => by
          rw [hl5] at hx
          obtain ⟨i, hi, rfl⟩ := List.mem_map.mp hx
          exact hb _ (getD_mem l 0 (List.mem_range.mp (List.mem_filter.mp hi).1))
        have n5 : l5.length ≤ l.length := by
          rw [hl5, List.length_map]
          have := List.length_filter_le (fun i => !decide ((nb l).getD i .non = .int 32) || !([PyData.list [], PyData.list [.int 32]].any fun z => PyData.eqv z (.list ((((l.take i).drop ((l.take i).length - 1)).map fun b => ((b : Nat) : Int)).map PyData.int)))) (List.range l.length)
          rw [List.length_range] at this
          exact this
        clear hl5
        dsimp only [gName]
        refine ⟨.ref D, rfl, D, rfl, ⟨_, .inl (.inl e5)⟩, fun D2 hD2 => lc_pure (fun i => (nb l5).getD i .non) (fun i => .int ((if l5.getD i 0 = 37 then 36 else l5.getD i 0 : Nat) : Int)) walk_listF (fun H6 s6 => s6.seq (.inl (.inl e5))) hD2 (by rw [nb_len, sizeLine_eq]; omega) (fun i H6 Q6 hi s6 q6 => ?_) (fun H6 s6 e6 => ?_)⟩
        · rw [nb_len] at hi
          rw [nb_at l5 hi]
          generalize l5.getD i 0 = x at *
          refine ⟨_, rfl, le2, fun p1 n1 => ⟨_, rfl, rfl, .inr ⟨_, rfl, p1, _, _, _, rfl, rfl, .inl (.inl upd_same), ?_, q6 _ (same_upd n1)⟩⟩⟩
          rw [vint_dec]
          by_cases h : x = 37
          · rw [decide_eq_true (show ((x : Nat) : Int) = 37 by omega), if_pos rfl, if_pos h]
            rfl
          · rw [decide_eq_false (show ¬ ((x : Nat) : Int) = 37 by omega), if_neg Bool.false_ne_true, if_neg h]
            rfl
        · dsimp only [gName]
          refine ⟨.ref D2, rfl, q ((List.range l5.length).map fun i => if l5.getD i 0 = 37 then 36 else l5.getD i 0) (fun x hx => ?_) (by rw [List.length_map, List.length_range]; omega) H6 D2 (sm4.trans (s5.trans s6)) ((sm4.trans s5).free hD2) ?_⟩
          · obtain ⟨i, hi, rfl⟩ := List.mem_map.mp hx
            split
            · decide
            · exact b5 _ (getD_mem l5 0 (List.mem_range.mp hi))
          · rw [e6, nb_len]
            unfold nb
            rw [List.map_map]
            rfl
end
end K09

namespace K09
open PySem PySem.Spec PyProof.Rows L2 LH
/-- a word that may stand in a value: signs without a blank -/
def OKW (u : List Nat) : Prop := u ≠ [] ∧ u.length ≤ 60 ∧ ∀ c ∈ u, isSgn c = true ∧ c ≠ 32
theorem okw_of {u : List Nat} (h : (!decide (u = []) && (decide (u.length ≤ 60) && u.all fun c => isSgn c && !decide (c = 32))) = true) : OKW u := by
  simp only [Bool.and_eq_true, Bool.not_eq_true', decide_eq_false_iff_not, decide_eq_true_eq, List.all_eq_true] at h
  exact ⟨h.1, h.2.1, h.2.2⟩
theorem val_join : ∀ ws : List (List Nat), (∀ u ∈ ws, OKW u) → isVal (TL.joinL [32] ws) = true := fun ws h => by
  by_cases h0 : ws = []
  · rw [h0]
    decide +kernel
  · have hs : splitL 32 (TL.joinL [32] ws) = ws := splitL_join 32 ws h0 fun u hu h32 => ((h u hu).2.2 32 h32).2 rfl
    have hne : [] ∉ ws := fun hm => (h [] hm).1 rfl
    unfold isVal
    rw [Bool.and_eq_true]
    refine ⟨List.all_eq_true.mpr fun x hx => ?_, ?_⟩
    · rcases joinL_mem [32] _ x hx with h32 | ⟨u, hu, hx⟩
      · rw [List.mem_singleton.mp h32]; decide +kernel
      · exact ((h u hu).2.2 x hx).1
    · rw [hs, decide_eq_false hne]
      simp
theorem repl_sign : ∀ c ∈ [61, 63, 65, 97, 49, 47, 32, 43, 45], (decide ((TL.tl (Txt.replace ⟨#[c]⟩ (Str.ofString " ") (Str.ofString ""))).length ≤ 1) && (TL.tl (Txt.replace ⟨#[c]⟩ (Str.ofString " ") (Str.ofString ""))).all fun x => isSgn x && !decide (x = 32)) = true := by decide +kernel
theorem bent_signs : TL.tl (Str.ofString "=?Aa1/ +-") = [61, 63, 65, 97, 49, 47, 32, 43, 45] := by decide +kernel
section
variable {P : Program} {w : World} {K : PySem.W.Frag} {mg : Str → Option Value} {base : Heap} {tk : Nat → Tok} {ca : Nat → Addr}
/-! ### _law_some_values -/
abbrev s__law_some_values : Stmt := topS 74
abbrev N__law_some_values : List Str := ["_law_row", "_law_script", "_law_found", "_law_words", "_law_k", "_law_cell_here", "_law_number_here", "_law_more", "_law_size", "_law_some", "_law_word", "_law_at", "_law_j"]
abbrev P__law_some_values : List Str := ["_law_row", "_law_script"]
theorem sc__law_some_values : FnScope N__law_some_values ["_law_row", "_law_script"] (defScope s__law_some_values) := ⟨rfl, rfl, rfl, by decide +kernel, rfl, by decide +kernel, by decide +kernel⟩
def sp_lsome (K : PySem.W.Frag) : Sp := fun vs H Q _ => ∃ (x : V) (a : Addr) (ns : List Int), vs = [x, .ref a] ∧ SqL K H a (ns.map V.int) ∧ ns.length ≤ 63 ∧ ∀ zs : List Str, zs.length ≤ 100 → (∀ z ∈ zs, z.length ≤ 90000 ∧ isVal (TL.tl z) = true) → New H (zs.map V.str) Q
theorem ok_lsome {f1 f2 f3 f : Addr} {fd1 fd2 fd3 fd : FuncData} (F : Fun K "_law_some_values" "_law_some_values" s__law_some_values f fd) (T : Tx mg tk) (D__law_mixed : Def P w K mg base "_law_mixed" 1 f1 fd1 P__law_mixed sp_mixed) (D__law_next : Def P w K mg base "_law_next" 1 f2 fd2 P__law_next sp_next) (D__law_in_sixty : Def P w K mg base "_law_in_sixty" 2 f3 fd3 P__law_in_sixty sp_in_sixty) : FnOk P w K mg base CX0 3 f fd P__law_some_values (sp_lsome K) := by
  refine F.ok sc__law_some_values (fun vs H Q E h => ?_) (fun cdv A outer s H vs Q E hr h => ?_)
  · obtain ⟨x, a, l, rfl, _⟩ := h
    rfl
  · have nd := sc__law_some_values.nd
    obtain ⟨x, a, ns, rfl, hS, hlen, q⟩ := h
    refine ⟨_, (pss_cons (ps_set (i := 2) nd rfl (.inl rfl) (pe_lst pa_nil))
      (pss_cons (ps_set (i := 3) nd rfl (.inl rfl) (pe_lst pa_nil))
      (pss_cons (ps_for PassesOwn.never rfl (pi_enum (by rfl) T.n_enumerate (pa_cons (pe_slice (slL K) (pv 1) po_none (po_some pe_int)) pa_nil)) (pg_tup rfl (pgs_cons (pg_name (i := 4) nd rfl (Or.inl rfl)) (pgs_cons (pg_name (i := 5) nd rfl (Or.inl rfl)) pgs_nil)))
        (pss_cons (ps_set (i := 6) nd rfl (.inr rfl) (pe_def D__law_mixed (hr.mono (by decide)) (pa_cons (pv 5) (pa_cons (pe_op op_add pe_int (pv 4)) pa_nil))))
        (pss_cons (ps_set (i := 7) nd rfl (.inl rfl) (pe_op op_fdiv (pv 6) pe_int))
        (pss_cons (ps_set (i := 8) nd rfl (.inl rfl) (pe_op op_add (pe_op op_add pe_int (pe_op op_mod (pv 7) pe_int)) (pe_op op_mul pe_int (pe_callTy call_int1 (by rfl) T.n_int (by decide +kernel) (pa_cons (pe_cmpR op_eq (pe_op op_mod (pv 6) pe_int) pe_int (nomark _)) pa_nil)))))
        (pss_cons (ps_setLc (i := 9) (own := [("_law_j", 12)]) (g := gName 12) (by rfl) nd rfl rfl (sw_true rfl rfl rfl (by decide +kernel)) (pi_range1 (by rfl) T.n_range (pa_cons (pv 8) pa_nil)) (blkOk_by (N := N__law_some_values) (sc := defScope s__law_some_values) (by decide +kernel)) (fun _ _ _ _ _ => (pg_name (i := 12) nd rfl (Or.inl rfl))) (fun _ _ _ _ _ => pts_nil) (fun _ _ _ _ _ => (pe_op op_mod (pe_op op_fdiv (pe_def D__law_next (hr.mono (by decide)) (pa_cons (pv 6) (pa_cons (pv 12) pa_nil))) pe_int) pe_int)))
        (pss_cons (ps_set (i := 10) nd rfl (.inl rfl) (pe_op op_add_str (pe_op op_add_str pe_str (pe_slice sl_str (pe_join pe_str (pe_def D__law_in_sixty (hr.mono (by decide)) (pa_cons (pv 9) pa_nil))) po_none (po_some pe_int))) pe_str))
        (pss_cons (ps_if (pt_cmpR op_eq (pe_op op_mod (pv 6) pe_int) pe_int (nomark _))
          (pss_cons (ps_set (i := 11) nd rfl (.inl rfl) (pe_op op_mod (pe_op op_fdiv (pv 7) pe_int) (pe_callB call_len_str (by rfl) T.n_len (by decide +kernel) (pa_cons (pv 10) pa_nil))))
          (pss_one (ps_set (i := 10) nd rfl (.inl rfl) (pe_op op_add_str (pe_op op_add_str (pe_slice sl_str (pv 10) po_none (po_some (pv 11))) (pe_replIx ix_str (pe_op op_mod (pe_op op_fdiv (pv 7) pe_int) pe_int) (fun _ _ => rfl))) (pe_slice sl_str (pv 10) (po_some (pe_op op_add (pv 11) pe_int)) po_none)))))
          pss_nil)
        (pss_cons (ps_if (pt_cmpR op_eq (pe_op op_mod (pv 6) pe_int) pe_int (nomark _))
          (pss_one (ps_set (i := 10) nd rfl (.inl rfl) (pe_ix (ixL K) (pe_lst (pa_cons pe_str (pa_cons pe_str (pa_cons pe_str (pa_cons pe_str (pa_cons pe_str (pa_cons pe_str (pa_cons pe_str (pa_cons pe_str pa_nil))))))))) (pe_op op_mod (pv 7) pe_int) (fun _ _ => rfl))))
          pss_nil)
        (pss_cons (ps_if (pt_cmpR op_eq (pe_op op_mod (pv 6) pe_int) pe_int (nomark _))
          (pss_cons (ps_expr (pe_bm PySem.F.plainAttrs_list PySem.F.slot_list_append PySem.F.type_list_append mt_append (pv 2) (pa_cons (pe_join pe_str (pv 3)) pa_nil)))
          (pss_one (ps_set (i := 3) nd rfl (.inl rfl) (pe_lst pa_nil))))
          pss_nil)
        (pss_one (ps_expr (pe_bm PySem.F.plainAttrs_list PySem.F.slot_list_append PySem.F.type_list_append mt_append (pv 3) (pa_cons (pv 10) pa_nil)))))))))))))
      (pss_one (ps_ret (pe_op op_cat (pv 2) (pe_lst (pa_cons (pe_join pe_str (pv 3)) (pa_cons pe_str pa_nil))))))))), ?_⟩
    dsimp only [tSeq, tAsg]
    have le2 : 2 ≤ sizeLine := Nat.le_of_lt (small1000 (show 2 ≤ 1000 by decide))
    have le8 : 8 ≤ sizeLine := Nat.le_of_lt (small1000 (show 8 ≤ 1000 by decide))
    have one : TL.tl (Str.ofString " ") = [32] := by decide +kernel
    have one1 : (Str.ofString " ").length = 1 := by decide +kernel
    have h0 : (Str.ofString "").length = 0 := by decide +kernel
    have hq2 : (Str.ofString "=?").length = 2 := by decide +kernel
    have hq3 : (Str.ofString "?=").length = 2 := by decide +kernel
    have t2 : TL.tl (Str.ofString "=?") = [61, 63] := by decide +kernel
    have t3 : TL.tl (Str.ofString "?=") = [63, 61] := by decide +kernel
    -- a value of words
    have valJ : ∀ us : List (List Nat), us.length ≤ 63 → (∀ u ∈ us, OKW u) → ((strL us).map (·.length)).sum + (strL us).length * (Str.ofString " ").length ≤ 16777216 ∧ (Txt.join (Str.ofString " ") (strL us)).length ≤ 90000 ∧ isVal (TL.tl (Txt.join (Str.ofString " ") (strL us))) = true := fun us hn hw => by
      have hj : TL.tl (Txt.join (Str.ofString " ") (strL us)) = TL.joinL [32] us := by rw [TL.join_eq, TL.tl_join, strL_tls, one]
      have hb := join_len_le (sep := Str.ofString " ") (ws := strL us) (k := 60) (n := 63) (fun x hx => by
        obtain ⟨u, hu, rfl⟩ := List.mem_map.mp hx
        rw [mk_len]
        exact (hw u hu).2.1) (by rw [strL_len]; exact hn)
      rw [one1] at hb ⊢
      have hm : (strL us).map (·.length) = us.map List.length := by
        unfold strL
        rw [List.map_map]
        exact List.map_congr_left fun u _ => mk_len u
      have hl := joinL_len [32] us
      have h1 : [32].length = 1 := rfl
      rw [h1] at hl
      rw [hm, strL_len] at hb ⊢
      refine ⟨by omega, ?_, ?_⟩
      · rw [TL.len_tl, hj]
        omega
      · rw [hj]
        exact val_join us hw
    refine ⟨Nat.zero_le _, fun o no => ?_⟩
    have s1 := same_upd (o := .lst []) no
    have eo := upd_same (H := H) (a := o) (o := .lst [])
    generalize upd H o (.lst []) = H1 at *
    dsimp only [gName, tSeq]
    refine ⟨Nat.zero_le _, fun p np => ?_⟩
    have hpn : H p = none := s1.free np
    have sp := same_upd (o := .lst []) np
    have ep := upd_same (H := H1) (a := p) (o := .lst [])
    have eo := sp _ _ eo
    have hop : o ≠ p := ne_of_none (show H1 o = some _ from by assumption) np
    have s1 := s1.trans sp
    generalize upd H1 p (.lst []) = H1b at *
    dsimp only [gName, tSeq]
    refine ⟨.ref a, rfl, 63, rfl, a, _, rfl, s1.seq hS, fun c nc => ?_⟩
    have ecut : cutV (ns.map V.int) none (some 63) = ns.map V.int := by
      rw [show (63 : Int) = ((63 : Nat) : Int) from rfl, cutV_to, List.take_of_length_le (by rw [List.length_map]; omega)]
    rw [ecut]
    have s2 := same_upd (o := .lst (ns.map V.int)) nc
    have ec := upd_same (H := H1b) (a := c) (o := .lst (ns.map V.int))
    have eo2 := s2 _ _ eo
    have ep2 := s2 _ _ ep
    have sA := s1.trans s2
    generalize upd H1b c (.lst (ns.map V.int)) = H2 at *
    have npc : p ≠ c := ne_of_none ep nc
    have noc : o ≠ c := ne_of_none eo nc
    refine ⟨c, ns.map V.int, rfl, .inl (.inl ec), for_it walk_enum (fun i σ H' => ∃ (p' : Addr) (us : List (List Nat)) (zs : List Str) (y4 y5 y6 y7 y8 y9 y10 y11 : Option V), σ = [some x, some (.ref a), some (.ref o), some (.ref p'), y4, y5, y6, y7, y8, y9, y10, y11, none] ∧ Same H H' ∧ H' c = some (.lst (ns.map V.int)) ∧ H' o = some (.lst (zs.map V.str)) ∧ H' p' = some (.lst ((strL us).map V.str)) ∧ H p' = none ∧ p' ≠ o ∧ p' ≠ c ∧ (∀ u ∈ us, OKW u) ∧ us.length ≤ i ∧ zs.length ≤ i ∧ ∀ z ∈ zs, z.length ≤ 90000 ∧ isVal (TL.tl z) = true)
      ⟨p, [], [], none, none, none, none, none, none, none, none, rfl, sA, ec, eo2, ep2, hpn, hop.symm, npc, (fun _ h => by cases h), Nat.zero_le _, Nat.zero_le _, fun _ h => by cases h⟩
      (fun i σ H' _ h => by obtain ⟨_, _, _, _, _, _, _, _, _, _, _, rfl, _, ec', _⟩ := h; exact .inl (.inl ec')) (fun i x1 σ H' H'' hi hP hy => ?_) (fun σ H' hP => ?_)⟩
    · obtain ⟨p', us, zs, y4, y5, y6, y7, y8, y9, y10, y11, rfl, sm, ec', eo', ep', np', npo, npc', hus, hul, hzl, hzs⟩ := hP
      obtain ⟨U, x1, x2, rfl, nU, rfl, f1, f2⟩ := hy
      rw [List.length_map] at hi
      have f2 : (ns.map V.int)[i]? = some x2 := f2
      rw [List.getElem?_map, List.getElem?_eq_getElem hi] at f2
      obtain rfl := Option.some.inj f1
      obtain rfl := Option.some.inj f2
      have sU := same_upd (o := .tup [.int (i : Nat), .int ns[i]]) nU
      refine ⟨U, _, rfl, .inl (.inl upd_same), rfl, _, _, rfl, _, _, rfl, rfl, ?_⟩
      refine ⟨_, rfl, _, rfl, 70, _, rfl, rfl, ns[i], 70 + (i : Int), rfl, by omega, by omega, fun H3 s3 => ?_⟩
      have hM := mixed_lt ns[i] (70 + (i : Int))
      generalize mixed ns[i] (70 + (i : Int)) = M at hM
      have S3 := sU.trans s3
      dsimp only [gName]
      refine ⟨.int M, rfl, M, 8, rfl, rfl, ⟨by decide, by decide⟩, ?_⟩
      have hE : 0 ≤ M / 8 ∧ M / 8 < 2147483648 := by omega
      dsimp only [gName]
      generalize M / 8 = X at *
      refine ⟨.int X, rfl, X, 24, rfl, rfl, (show (0 : Int) < 24 by decide), 1, _, rfl, rfl, .int M, rfl, M, 8, rfl, rfl, (show (0 : Int) < 8 by decide), rfl, .inr ⟨_, rfl, 24, _, rfl, rfl, .inl ⟨by decide, by decide⟩, _, _, rfl, rfl, ?_⟩⟩
      dsimp only [gName]
      obtain ⟨n, hn, hn1, hn48⟩ : ∃ n : Nat, 1 + X % 24 + 24 * (if decide (V.int (M % 8) = V.int 4) = true then 1 else 0) = (n : Int) ∧ 1 ≤ n ∧ n ≤ 48 := by
        refine ⟨(1 + X % 24 + 24 * (if decide (V.int (M % 8) = V.int 4) = true then 1 else 0)).toNat, ?_, ?_, ?_⟩ <;> split <;> omega
      rw [hn]
      obtain ⟨bs, hbs⟩ : ∃ l : List Nat, l = (List.range n).map fun i => (nextN M (0 + ((i : Nat) : Int)) / 3 % 256).toNat := ⟨_, rfl⟩
      have hbl : bs.length = n := by rw [hbs, List.length_map, List.length_range]
      have hbb : BytesN bs := fun b hb => by
        rw [hbs] at hb
        obtain ⟨j, _, rfl⟩ := List.mem_map.mp hb
        omega
      refine ⟨.int (n : Int), rfl, (n : Int), rfl, by omega, by omega, fun D hD => lc_pure (fun j => .int (0 + (j : Int))) (fun j => .int (nextN M (0 + ((j : Nat) : Int)) / 3 % 256)) walk_range (fun _ _ => trivial) hD (by rw [sizeLine_eq]; omega) (fun j H4 Q4 hj s4 q4 => ?_) (fun H4 s4 e4 => ?_)⟩
      · have hj : j < n := by simpa using hj
        exact ⟨_, rfl, _, rfl, M, 0 + (j : Int), rfl, by omega, by omega, by omega, by omega, fun H5 s5 => ⟨_, 3, rfl, rfl, ⟨by decide, by decide⟩, _, 256, rfl, rfl, (show (0 : Int) < 256 by decide), q4 _ s5⟩⟩
      have e4 : H4 D = some (.lst (nb bs)) := by
        rw [e4, hbs]
        unfold nb
        rw [List.map_map]
        refine congrArg (fun x => some (HO.lst x)) ?_
        rw [Int.toNat_natCast]
        refine List.map_congr_left fun j _ => ?_
        show V.int (nextN M (0 + ((j : Nat) : Int)) / 3 % 256) = V.int (((nextN M (0 + ((j : Nat) : Int)) / 3 % 256).toNat : Nat) : Int)
        rw [Int.toNat_of_nonneg (Int.emod_nonneg _ (by decide))]
      dsimp only [gName, tSeq]
      refine ⟨⟨_, rfl⟩, .ref D, rfl, D, bs, rfl, e4, by omega, fun H5 r s5 nr er => ?_⟩
      have hrows : rowsVM (ltext bs) = ((chunks 60 (t64 bs)).map fun l => (⟨l.toArray⟩ : Str)).map V.str := by
        rw [rowsM_eq, ltext_t64 bs hbb]
        unfold rowsV
        rw [List.map_map]
        rfl
      rw [hrows] at er
      have htl := t64_len bs hbb
      have hcl := chunks_len 60 (t64 bs)
      have hjs := join_len_le (sep := Str.ofString "") (ws := (chunks 60 (t64 bs)).map fun l => (⟨l.toArray⟩ : Str)) (k := 60) (n := 4) (fun z hz => by
        obtain ⟨l, hl, rfl⟩ := List.mem_map.mp hz
        rw [mk_len]
        obtain ⟨j, hj, rfl⟩ := List.getElem_of_mem hl
        rw [chunk_at hj, List.length_take]
        omega) (by rw [List.length_map, hcl]; omega)
      refine ⟨Str.ofString "", r, _, rfl, rfl, .inl (.inl (.inl er)), by omega, 36, rfl, ?_⟩
      have hJ : TL.tl (Txt.join (Str.ofString "") ((chunks 60 (t64 bs)).map fun l => (⟨l.toArray⟩ : Str))) = t64 bs := by
        rw [tl_join0, List.map_map]
        exact (congrArg List.flatten (List.map_id' _)).trans (chunks_flat (by decide) _ _ (Nat.le_refl _))
      generalize Txt.join (Str.ofString "") ((chunks 60 (t64 bs)).map fun l => (⟨l.toArray⟩ : Str)) = J at *
      have hJl : J.length = (t64 bs).length := by rw [TL.len_tl, hJ]
      have hc36 : TL.tl (cutS J none (some 36)) = (t64 bs).take 36 := by rw [show (36 : Int) = ((36 : Nat) : Int) from rfl, cutS_to, hJ]
      refine ⟨J, rfl, by rw [sizeLine_eq]; omega, ?_⟩
      generalize cutS J none (some 36) = C at *
      have hCl : C.length ≤ 36 := by rw [TL.len_tl, hc36, List.length_take]; omega
      have hC4 : 4 ≤ C.length := by rw [TL.len_tl, hc36, List.length_take]; omega
      refine ⟨_, _, rfl, rfl, by rw [hq2, sizeLine_eq]; omega, _, _, rfl, rfl, by rw [len_app, hq2, hq3, sizeLine_eq]; omega, ?_⟩
      obtain ⟨W, hW⟩ : ∃ W : Str, W = Str.ofString "=?" ++ C ++ Str.ofString "?=" := ⟨_, rfl⟩
      have hWt : TL.tl W = [61, 63] ++ (t64 bs).take 36 ++ [63, 61] := by rw [hW, TL.tl_append, TL.tl_append, t2, t3, hc36]
      have hWl : 8 ≤ W.length ∧ W.length ≤ 40 := by rw [hW, len_app, len_app, hq2, hq3]; omega
      rw [← hW]
      have hWs : ∀ c ∈ TL.tl W, isSgn c = true ∧ c ≠ 32 := fun c hc => by
        rw [hWt] at hc
        simp only [List.mem_append, List.mem_cons, List.not_mem_nil, or_false] at hc
        rcases hc with ((rfl | rfl) | h) | (rfl | rfl)
        · exact ⟨by decide +kernel, by decide⟩
        · exact ⟨by decide +kernel, by decide⟩
        · exact t64_sgn hbb c (List.mem_of_mem_take h)
        · exact ⟨by decide +kernel, by decide⟩
        · exact ⟨by decide +kernel, by decide⟩
      have hWo : OKW (TL.tl W) := ⟨fun e => by rw [TL.len_tl, e] at hWl; exact absurd hWl.1 (by decide), by rw [← TL.len_tl]; omega, hWs⟩
      clear hW hWt
      have S5 := S3.trans (s4.trans s5)
      dsimp only [gName, tSeq]
      refine ifK fun D1 hD1 => ?_
      have key1 : ∀ (H6 : Hp) (W' : Str) (y : Option V), Same H' H6 → OKW (TL.tl W') → D1.nx [some x, some (.ref a), some (.ref o), some (.ref p'), some (.int (i : Nat)), some (.int ns[i]), some (.int M), some (.int X), some (.int (n : Nat)), some (.ref D), some (.str W'), y, none] H6 := fun H6 W' y S6 hW' => by
        rw [hD1]
        clear hD1
        dsimp only [tSeq]
        refine ifK fun D2 hD2 => ?_
        have key2 : ∀ (H7 : Hp) (W' : Str), Same H' H7 → OKW (TL.tl W') → D2.nx [some x, some (.ref a), some (.ref o), some (.ref p'), some (.int (i : Nat)), some (.int ns[i]), some (.int M), some (.int X), some (.int (n : Nat)), some (.ref D), some (.str W'), y, none] H7 := fun H7 W' S7 hW' => by
          rw [hD2]
          clear hD2
          dsimp only [tSeq]
          have eo7 := S7 _ _ eo'
          have ep7 := S7 _ _ ep'
          have ec7 := S7 _ _ ec'
          have sm7 := sm.trans S7
          have hnp : ((strL us).map V.str).length = us.length := by rw [List.length_map, strL_len]
          have app : ∀ us : List (List Nat), (strL us).map V.str ++ [V.str W'] = (strL (us ++ [TL.tl W'])).map V.str := fun us => by
            unfold strL
            rw [List.map_append, List.map_append]
            rfl
          have okapp : ∀ us : List (List Nat), (∀ u ∈ us, OKW u) → ∀ u ∈ us ++ [TL.tl W'], OKW u := fun us h u hu => by
            rcases List.mem_append.mp hu with hu | hu
            · exact h u hu
            · rw [List.mem_singleton.mp hu]; exact hW'
          refine ifT (decide (M % 8 = 3)) (fun k q1 => ⟨.int M, rfl, M, 8, rfl, rfl, (show (0 : Int) < 8 by decide), rfl, _, rfl, TellB.eq (vint_dec _ _) q1 _ (Same.refl _)⟩) (fun _ H8 s8 => ?_) (fun _ H8 s8 => ?_)
          · dsimp only [tSeq]
            obtain ⟨v1, v2, v3⟩ := valJ us (by omega) hus
            refine ⟨.ref o, rfl, .inl ⟨rfl, _, .inl (.inl (s8 _ _ eo7))⟩, ⟨_, rfl⟩, .ref p', rfl, Str.ofString " ", p', _, rfl, rfl, .inl (.inl (.inl (s8 _ _ ep7))), v1, o, _, _, rfl, rfl, s8 _ _ eo7, by rw [List.length_map, sizeLine_eq]; omega, ?_⟩
            generalize Txt.join (Str.ofString " ") (strL us) = Z at *
            refine ⟨Nat.zero_le _, fun r2 nr2 => ?_⟩
            have sG : Same H (upd H8 o (.lst (zs.map V.str ++ [V.str Z]))) := by
              intro d v hd
              rw [upd_ne (ne_of_none hd no)]
              exact s8 _ _ (sm7 _ _ hd)
            have cG : upd H8 o (.lst (zs.map V.str ++ [V.str Z])) c = some (.lst (ns.map V.int)) := by
              rw [upd_ne noc.symm]
              exact s8 _ _ ec7
            have oG : upd H8 o (.lst (zs.map V.str ++ [V.str Z])) o = some (.lst ((zs ++ [Z]).map V.str)) := by
              rw [upd_same, List.map_append]
              rfl
            generalize upd H8 o (.lst (zs.map V.str ++ [V.str Z])) = G at *
            have h2 := sG.free nr2
            have h2o : r2 ≠ o := (ne_of_none oG nr2).symm
            have h2c : r2 ≠ c := (ne_of_none cG nr2).symm
            dsimp only [gName]
            refine ⟨.ref r2, rfl, .inl ⟨rfl, _, .inl (.inl upd_same)⟩, _, rfl, r2, _, _, rfl, rfl, upd_same, (show ([] : List V).length < sizeLine by rw [sizeLine_eq]; decide), r2, [] ++ [TL.tl W'], zs ++ [Z], _, _, _, _, _, _, _, _, rfl, ?_, ?_, ?_, ?_, h2, h2o, h2c, okapp [] (fun _ h => by cases h), by show 1 ≤ i + 1; omega, by rw [List.length_append]; simp only [List.length_cons, List.length_nil]; omega, fun z hz => ?_⟩
            · intro d v hd
              rw [upd_ne (ne_of_none hd h2), upd_ne (ne_of_none hd h2)]
              exact sG _ _ hd
            · rw [upd_ne h2c.symm, upd_ne h2c.symm]
              exact cG
            · rw [upd_ne h2o.symm, upd_ne h2o.symm]
              exact oG
            · rw [upd_same]
              exact congrArg (fun x => some (HO.lst x)) (app [])
            · rcases List.mem_append.mp hz with hz | hz
              · exact hzs z hz
              · rw [List.mem_singleton.mp hz]; exact ⟨v2, v3⟩
          · refine ⟨.ref p', rfl, .inl ⟨rfl, _, .inl (.inl (s8 _ _ ep7))⟩, _, rfl, p', _, _, rfl, rfl, s8 _ _ ep7, by rw [hnp, sizeLine_eq]; omega, p', us ++ [TL.tl W'], zs, _, _, _, _, _, _, _, _, rfl, ?_, ?_, ?_, ?_, np', npo, npc', okapp us hus, by rw [List.length_append]; simp only [List.length_cons, List.length_nil]; omega, by omega, hzs⟩
            · intro d v hd
              rw [upd_ne (ne_of_none hd np')]
              exact s8 _ _ (sm7 _ _ hd)
            · rw [upd_ne npc'.symm]
              exact s8 _ _ ec7
            · rw [upd_ne npo.symm]
              exact s8 _ _ eo7
            · rw [upd_same, app us]
        clear hD2
        refine ifT (decide (M % 8 = 2)) (fun k q1 => ⟨.int M, rfl, M, 8, rfl, rfl, (show (0 : Int) < 8 by decide), rfl, _, rfl, TellB.eq (vint_dec _ _) q1 _ (Same.refl _)⟩) (fun _ H7 s7 => ?_) (fun _ H7 s7 => key2 H7 W' (S6.trans s7) hW')
        refine ⟨le8, fun q8 nq8 => ?_⟩
        obtain ⟨v, hv, ev⟩ := pickL [V.str (Str.ofString "=?="), .str (Str.ofString "=??="), .str (Str.ofString "?="), .str (Str.ofString "=?"), .str (Str.ofString "a"), .str (Str.ofString "=?QUJD"), .str (Str.ofString "QUJD?="), .str (Str.ofString "=?QUJDQ?=")] (X % 8) (by omega) (by show _ < (8 : Int); omega)
        obtain ⟨w8, rfl, hw8⟩ : ∃ w8 : Str, v = .str w8 ∧ OKW (TL.tl w8) := by
          simp only [List.mem_cons, List.mem_nil_iff, or_false] at hv
          rcases hv with rfl | rfl | rfl | rfl | rfl | rfl | rfl | rfl
          all_goals exact ⟨_, rfl, okw_of (by decide +kernel)⟩
        exact ⟨.int X, rfl, X, 8, rfl, rfl, (show (0 : Int) < 8 by decide), q8, _, _, .str w8, rfl, rfl, .inl (.inl upd_same), ev, key2 _ w8 (S6.trans (s7.trans (same_upd nq8))) hw8⟩
      clear hD1
      refine ifT (decide (M % 8 = 1)) (fun k q1 => ⟨.int M, rfl, M, 8, rfl, rfl, (show (0 : Int) < 8 by decide), rfl, _, rfl, TellB.eq (vint_dec _ _) q1 _ (Same.refl _)⟩) (fun _ H6 s6 => ?_) (fun _ H6 s6 => key1 H6 W _ (S5.trans s6) hWo)
      dsimp only [tSeq]
      refine ⟨.int X, rfl, X, 24, rfl, rfl, ⟨by decide, by decide⟩, .str W, rfl, W, rfl, by rw [sizeLine_eq]; omega, _, _, rfl, rfl, (show (0 : Int) < (W.length : Nat) by omega), ?_⟩
      have hk0 : 0 ≤ X / 24 % ((W.length : Nat) : Int) := Int.emod_nonneg _ (by omega)
      have hk1 : X / 24 % ((W.length : Nat) : Int) < (W.length : Nat) := Int.emod_lt_of_pos _ (by omega)
      dsimp only [gName]
      obtain ⟨k, hk⟩ : ∃ k : Nat, X / 24 % ((W.length : Nat) : Int) = (k : Int) := ⟨(X / 24 % ((W.length : Nat) : Int)).toNat, by omega⟩
      rw [hk] at hk0 hk1 ⊢
      clear hk
      obtain ⟨c9, hc9, ev⟩ := pickL (TL.tl (Str.ofString "=?Aa1/ +-")) (X / 3000 % 9) (by omega) (by rw [bent_signs]; show _ < (9 : Int); omega)
      have hR := repl_sign c9 (by rw [← bent_signs]; exact hc9)
      have hWz : W.length ≤ sizeLine := by rw [sizeLine_eq]; omega
      refine ⟨.str W, rfl, .int (k : Int), rfl, (k : Int), rfl, W, rfl, hWz, .int X, rfl, X, 3000, rfl, rfl, ⟨by decide, by decide⟩, _, 9, rfl, rfl, (show (0 : Int) < 9 by decide), Str.ofString "=?Aa1/ +-", _, c9, rfl, rfl, by decide +kernel, ev, ⟨#[c9]⟩, rfl, by rw [h0]; show 1 + (1 + 1) * 0 ≤ _; decide, ?_⟩
      generalize Txt.replace ⟨#[c9]⟩ (Str.ofString " ") (Str.ofString "") = R at *
      simp only [Bool.and_eq_true, decide_eq_true_eq, List.all_eq_true, Bool.not_eq_true', decide_eq_false_iff_not] at hR
      obtain ⟨hR1, hR2⟩ := hR
      have hRl : R.length ≤ 1 := by rw [TL.len_tl]; exact hR1
      have ht : TL.tl (cutS W none (some (k : Int))) = (TL.tl W).take k := by rw [cutS_to]
      have hd : TL.tl (cutS W (some ((k : Int) + 1)) none) = (TL.tl W).drop (k + 1) := by rw [show (k : Int) + 1 = ((k + 1 : Nat) : Int) by omega, cutS_from]
      have hWll : W.length = (TL.tl W).length := TL.len_tl W
      have hC1 : (cutS W none (some (k : Int))).length = k := by rw [TL.len_tl, ht, List.length_take]; omega
      have hC2 : (cutS W (some ((k : Int) + 1)) none).length = W.length - (k + 1) := by rw [TL.len_tl, hd, List.length_drop, hWll]
      refine ⟨_, _, rfl, rfl, by rw [hC1, sizeLine_eq]; omega, .str W, rfl, .int (k : Int), rfl, (k : Int), 1, rfl, rfl, (k : Int) + 1, rfl, W, rfl, hWz, _, _, rfl, rfl, by rw [len_app, hC1, hC2, sizeLine_eq]; omega, key1 H6 _ _ (S5.trans s6) ⟨fun e => ?_, ?_, fun c hc => ?_⟩⟩
      · have := congrArg List.length e
        rw [← TL.len_tl, len_app, len_app, hC1, hC2] at this
        simp only [List.length_nil] at this
        omega
      · rw [← TL.len_tl, len_app, len_app, hC1, hC2]
        omega
      · rw [TL.tl_append, TL.tl_append, ht, hd] at hc
        rcases List.mem_append.mp hc with hc | hc
        · rcases List.mem_append.mp hc with hc | hc
          · exact hWs c (List.mem_of_mem_take hc)
          · exact hR2 c hc
        · exact hWs c (List.mem_of_mem_drop hc)
    · obtain ⟨p', us, zs, y4, y5, y6, y7, y8, y9, y10, y11, rfl, sm, ec', eo', ep', np', npo, npc', hus, hul, hzl, hzs⟩ := hP
      rw [List.length_map] at hul hzl
      obtain ⟨v1, v2, v3⟩ := valJ us (by omega) hus
      refine ⟨.ref o, rfl, ⟨_, rfl⟩, .ref p', rfl, Str.ofString " ", p', _, rfl, rfl, .inl (.inl (.inl ep')), v1, le2, fun r nr => ?_⟩
      generalize Txt.join (Str.ofString " ") (strL us) = Z at *
      refine ⟨o, r, _, _, rfl, rfl, same_upd nr _ _ eo', upd_same, by rw [List.length_map, sizeLine_eq]; show _ + 2 ≤ _; omega, fun r2 nr2 => ?_⟩
      have sR := sm.trans (same_upd (o := .lst [V.str Z, .str (Str.ofString "")]) nr)
      refine q (zs ++ [Z, Str.ofString ""]) (by rw [List.length_append]; show _ + 2 ≤ _; omega) (fun z hz => ?_) _ r2 (sR.trans (same_upd nr2)) (sR.free nr2) ?_
      · rcases List.mem_append.mp hz with hz | hz
        · exact hzs z hz
        · simp only [List.mem_cons, List.mem_nil_iff, or_false] at hz
          rcases hz with rfl | rfl
          · exact ⟨v2, v3⟩
          · exact ⟨by decide +kernel, by decide +kernel⟩
      · rw [upd_same, List.map_append]
        rfl
end
end K09

namespace K09
open PySem PySem.Spec PyProof.Rows L2 LH
theorem ok_bad : isVal (TL.tl (Str.ofString " a")) = false ∧ isVal (TL.tl (Str.ofString "a ")) = false ∧ isVal (TL.tl (Str.ofString "a  b")) = false ∧ isVal (TL.tl (Str.ofString "a\tb")) = false ∧ isVal (TL.tl (Str.ofString "a\n")) = false := by decide +kernel
theorem oks_val : ∀ x ∈ [Str.ofString "value", Str.ofString "base"], OkS x := fun x hx => by
  simp only [List.mem_cons, List.mem_nil_iff, or_false] at hx
  rcases hx with rfl | rfl <;> (intro c hc; revert c; decide +kernel)
theorem oks_byt : ∀ x ∈ [Str.ofString "bytes", Str.ofString "base"], OkS x := fun x hx => by
  simp only [List.mem_cons, List.mem_nil_iff, or_false] at hx
  rcases hx with rfl | rfl <;> (intro c hc; revert c; decide +kernel)
section
variable {P : Program} {w : World} {K : PySem.W.Frag} {mg : Str → Option Value} {base : Heap} {tk : Nat → Tok} {ca : Nat → Addr}
/-! ### law -/
abbrev s_law : Stmt := topS 78
abbrev N_law : List Str := ["_law_script", "_law_row", "_law_number_here", "_law_size", "_law_bad", "_law_none", "_law_some", "_law_handed", "_law_value_here"]
abbrev P_law : List Str := ["_law_script"]
theorem sc_law : FnScope N_law ["_law_script"] (defScope s_law) := ⟨rfl, rfl, rfl, by decide +kernel, rfl, by decide +kernel, by decide +kernel⟩
def spLaw (K : PySem.W.Frag) : Sp := fun vs H Q _ => ∃ (a : Addr) (ns : List Int), vs = [.ref a] ∧ SqL K H a (ns.map V.int) ∧ ns.length ≤ 63 ∧ ∀ H', Q (.bl true) H'
theorem ok_law {f f1 f2 f3 f4 f5 f6 f7 f8 : Addr} {fd fd1 fd2 fd3 fd4 fd5 fd6 fd7 fd8 : FuncData} (F : Fun K "law" "law" s_law f fd) (T : Tx mg tk) (D__law_bytes : Def P w K mg base "_law_bytes" 2 f1 fd1 P__law_bytes (sp_lbytes K)) (D__law_mixed : Def P w K mg base "_law_mixed" 1 f2 fd2 P__law_mixed sp_mixed) (D__law_cell : Def P w K mg base "_law_cell" 1 f3 fd3 P__law_cell (sp_cell K))
    (D__law_told : Def P w K mg base "_law_told" 9 f4 fd4 P__law_told (sp_told K)) (D__law_value : Def P w K mg base "_law_value" 3 f5 fd5 P__law_value sp_lvalue) (D__law_value_bytes : Def P w K mg base "_law_value_bytes" 3 f6 fd6 P__law_value_bytes sp_lvalb) (D__law_read_right : Def P w K mg base "_law_read_right" 10 f7 fd7 P__law_read_right sp_rright) (D__law_some_values : Def P w K mg base "_law_some_values" 3 f8 fd8 P__law_some_values (sp_lsome K)) : FnOk P w K mg base CX0 11 f fd ["_law_script"] (spLaw K) := by
  refine F.ok sc_law (fun vs H Q E h => ?_) (fun cdv A outer s H vs Q E hr h => ?_)
  · obtain ⟨a, ns, rfl, _⟩ := h
    rfl
  · have nd := sc_law.nd
    obtain ⟨a, ns, rfl, hS, hlen, q⟩ := h
    refine ⟨_, (pss_cons (ps_set (i := 1) nd rfl (.inl rfl) (pe_def D__law_bytes (hr.mono (by decide)) (pa_cons (pv 0) pa_nil)))
      (pss_cons (ps_set (i := 2) nd rfl (.inl rfl) (pe_def D__law_mixed (hr.mono (by decide)) (pa_cons (pe_def D__law_cell (hr.mono (by decide)) (pa_cons (pv 0) (pa_cons pe_int pa_nil))) (pa_cons pe_int pa_nil))))
      (pss_cons (ps_for PassesOwn.never rfl (pi_tup (pe_tup (pa_cons (pe_callB (cLen K) (by rfl) T.n_len (by decide +kernel) (pa_cons (pv 1) pa_nil)) (pa_cons (pe_op op_mul pe_int (pe_op op_mod (pv 2) pe_int)) (pa_cons (pe_op op_add (pe_op op_mul pe_int (pe_op op_mod (pv 2) pe_int)) pe_int) (pa_cons (pe_op op_fdiv (pv 2) pe_int) pa_nil)))))) (pg_name (i := 3) nd rfl (Or.inl rfl))
        (pss_cons (ps_set (i := 6) nd rfl (.inl rfl) (pe_slice (slL K) (pv 1) po_none (po_some (pe_op op_mod (pv 3) (pe_op op_add (pe_callB (cLen K) (by rfl) T.n_len (by decide +kernel) (pa_cons (pv 1) pa_nil)) pe_int)))))
        (pss_cons (ps_set (i := 7) nd rfl (.inl rfl) (pe_callTy call_list_of (by rfl) T.n_list (by decide +kernel) (pa_cons (pv 6) pa_nil)))
        (pss_cons (ps_set (i := 8) nd rfl (.inl rfl) (pe_def D__law_told (hr.mono (by decide)) (pa_cons pe_int (pa_cons (pv 7) pa_nil))))
        (pss_cons (ps_if (PW.pt (pw_or (pt_not (pt_val (pe_callB (cIsi K) (by rfl) T.n_isinstance (by decide +kernel) (pa_cons (pv 8) (pa_cons (pe_bltn (v := .ty "str") (by rfl) T.n_str (by decide +kernel) rfl) pa_nil))))) (pw_or (pt_cmpR op_ne (pv 8) (pe_def D__law_value (hr.mono (by decide)) (pa_cons (pv 6) pa_nil)) (nomark _)) (pw_or1 (pt_cmpR (oNeD K hr.units) (pv 7) (pv 6) (nomark _))))))
          (pss_one (ps_ret pe_bl))
          pss_nil)
        (pss_one (ps_if (PW.pt (pw_or (pt_cmpR (oNeD K hr.units) (pe_def D__law_value_bytes (hr.mono (by decide)) (pa_cons (pv 8) pa_nil)) (pv 6) (nomark _)) (pw_or1 (pt_not (pt_val (pe_def D__law_read_right (hr.mono (by decide)) (pa_cons (pv 8) pa_nil)))))))
          (pss_one (ps_ret pe_bl))
          pss_nil)))))))
      (pss_cons (ps_if (pt_not (pt_val (pe_callB (cAll K) (by rfl) T.n_all (by decide +kernel) (pa_cons (pe_lc (own := [("_law_value_here", 8)]) (g := gName 8) (by rfl) nd (pi_list (pe_def D__law_some_values (hr.mono (by decide)) (pa_cons (pv 1) (pa_cons (pv 0) pa_nil)))) (blkOk_by (N := N_law) (sc := defScope s_law) (by decide +kernel)) (fun _ _ _ _ _ => (pg_name (i := 8) nd rfl (Or.inl rfl))) (fun _ _ _ _ _ => pts_nil) (fun _ _ _ _ _ => (pe_def D__law_read_right (hr.mono (by decide)) (pa_cons (pv 8) pa_nil)))) pa_nil))))
        (pss_one (ps_ret pe_bl))
        pss_nil)
      (pss_cons (ps_set (i := 4) nd rfl (.inl rfl) (pe_ix (ixL K) (pe_lst (pa_cons pe_str (pa_cons pe_str (pa_cons pe_str (pa_cons pe_str (pa_cons pe_non (pa_cons pe_int (pa_cons (pe_lst (pa_cons pe_str pa_nil)) (pa_cons pe_bl (pa_cons pe_dnewK (pa_cons pe_str pa_nil))))))))))) (pe_op op_mod (pe_op op_fdiv (pv 2) pe_int) pe_int) (fun _ _ => rfl)))
      (pss_cons (ps_set (i := 5) nd rfl (.inl rfl) (pe_ix (ixL K) (pe_lst (pa_cons pe_non (pa_cons pe_str (pa_cons (pe_tup (pa_cons pe_int (pa_cons pe_int pa_nil))) (pa_cons (pe_lst (pa_cons pe_int pa_nil)) (pa_cons (pe_lst (pa_cons (pe_un un_neg pe_int) pa_nil)) (pa_cons (pe_lst (pa_cons pe_bl pa_nil)) (pa_cons (pe_op op_cat (pv 1) (pe_lst (pa_cons pe_non pa_nil))) (pa_cons (pe_lst (pa_cons pe_str pa_nil)) (pa_cons pe_int (pa_cons pe_dnewK pa_nil))))))))))) (pe_op op_mod (pe_op op_fdiv (pv 2) pe_int) pe_int) (fun _ _ => rfl)))
      (pss_one (ps_ret (pe_and (pe_cmpR (oEqD K hr.units) (pe_def D__law_told (hr.mono (by decide)) (pa_cons pe_int (pa_cons (pv 4) pa_nil))) (pe_lst (pa_cons pe_str (pa_cons pe_str pa_nil))) (nomark _)) (pe_one (pe_cmpR (oEqD K hr.units) (pe_def D__law_told (hr.mono (by decide)) (pa_cons pe_int (pa_cons (pv 5) pa_nil))) (pe_lst (pa_cons pe_str (pa_cons pe_str pa_nil))) (nomark _)))))))))))), ?_⟩
    dsimp only [tSeq, tAsg]
    refine ⟨.ref a, rfl, a, ns, rfl, hS, hlen, fun l hb hl H1 r0 s1 n0 e0 => ?_⟩
    dsimp only [gName]
    refine ⟨.ref a, rfl, a, ns, 1, rfl, s1.seq hS, fun H2 s2 => ⟨_, 61, rfl, by decide, by decide, fun H3 s3 => ?_⟩⟩
    have hm0 := mixed_lt (ns.getD 1 0) 61
    generalize mixed (ns.getD 1 0) 61 = m at *
    have e3 := s3 _ _ (s2 _ _ e0)
    have hSa := (s1.trans (s2.trans s3)).seq hS
    have hnl : (nb l).length = l.length := nb_len l
    dsimp only [gName, tSeq]
    refine ⟨.ref r0, rfl, r0, _, rfl, .inl (.inl (.inl e3)), .int m, rfl, _, 4, rfl, rfl, (show (0 : Int) < 4 by decide), 24, _, rfl, rfl, .inl ⟨by decide, by decide⟩, .int m, rfl, _, 4, rfl, rfl, (show (0 : Int) < 4 by decide), 24, _, rfl, rfl, .inl ⟨by decide, by decide⟩, _, 1, rfl, rfl, .int m, rfl, _, 4, rfl, rfl, ⟨by decide, by decide⟩, Nat.le_of_lt (small1000 (show 4 ≤ 1000 by decide)), fun t nt => ⟨t, rfl, ⟨_, .inl (.inl upd_same)⟩, ?_⟩⟩
    have tt := same_upd (o := .tup [V.int ((nb l).length : Nat), .int (24 * (m % 4)), .int (24 * (m % 4) + 1), .int (m / 4)]) nt
    have et : upd H3 t (.tup [V.int ((nb l).length : Nat), .int (24 * (m % 4)), .int (24 * (m % 4) + 1), .int (m / 4)]) t = _ := upd_same
    have e4 := tt _ _ e3
    have item : ∀ i, i < 4 → ∃ v, [V.int ((nb l).length : Nat), .int (24 * (m % 4)), .int (24 * (m % 4) + 1), .int (m / 4)].getD i .non = .int v := fun i hi => by
      have : i = 0 ∨ i = 1 ∨ i = 2 ∨ i = 3 := by omega
      rcases this with rfl | rfl | rfl | rfl
      · exact ⟨_, rfl⟩
      · exact ⟨_, rfl⟩
      · exact ⟨_, rfl⟩
      · exact ⟨_, rfl⟩
    have hlx : [V.int ((nb l).length : Nat), .int (24 * (m % 4)), .int (24 * (m % 4) + 1), .int (m / 4)].length = 4 := rfl
    generalize [V.int ((nb l).length : Nat), .int (24 * (m % 4)), .int (24 * (m % 4) + 1), .int (m / 4)] = xs at *
    have hSa := tt.seq hSa
    generalize upd H3 t (.tup xs) = HH at *
    have le1 : 1 ≤ sizeLine := Nat.le_of_lt (small1000 (show 1 ≤ 1000 by decide))
    have le2 : 2 ≤ sizeLine := Nat.le_of_lt (small1000 (show 2 ≤ 1000 by decide))
    have le10 : 10 ≤ sizeLine := Nat.le_of_lt (small1000 (show 10 ≤ 1000 by decide))
    refine for_it (walk_tupF (xs := xs)) (fun i σ H' => ∃ y3 y6 y7 y8 : Option V, σ = [some (.ref a), some (.ref r0), some (.int m), y3, none, none, y6, y7, y8] ∧ Same HH H') ⟨none, none, none, none, rfl, Same.refl _⟩
      (fun i σ H' _ h => by obtain ⟨_, _, _, _, rfl, sm⟩ := h; exact .inl (.inl (sm _ _ et))) (fun i x σ H' H'' hi hP hy => ?_) (fun σ H' hP => ?_)
    · obtain ⟨y3, y6, y7, y8, rfl, sm⟩ := hP
      obtain ⟨rfl, rfl⟩ := hy
      rw [hlx] at hi
      obtain ⟨v, ev⟩ := item i hi
      have e5 := sm _ _ e4
      dsimp only [gName, tSeq]
      rw [ev]
      refine ⟨.ref r0, rfl, .int v, rfl, .ref r0, rfl, r0, _, rfl, .inl (.inl (.inl e5)), _, 1, rfl, rfl, _, _, rfl, rfl, by rw [hnl]; omega, _, rfl, r0, _, rfl, .inl (.inl e5), fun p np => ?_⟩
      obtain ⟨l2, hl2, hcut⟩ : ∃ l2 : List Nat, l2 = l.take (v % (((nb l).length : Nat) + 1 : Int)).toNat ∧ cutV (nb l) none (some (v % (((nb l).length : Nat) + 1 : Int))) = nb l2 := by
        refine ⟨_, rfl, ?_⟩
        have h0 : 0 ≤ v % (((nb l).length : Nat) + 1 : Int) := Int.emod_nonneg _ (by omega)
        generalize v % (((nb l).length : Nat) + 1 : Int) = w0 at *
        rw [show w0 = ((w0.toNat : Nat) : Int) by omega, cutV_to]
        unfold nb
        rw [List.map_take, Int.toNat_natCast]
      have hb2 : BytesN l2 := fun b h => by rw [hl2] at h; exact hb b (List.mem_of_mem_take h)
      have hll : l2.length ≤ 4000 := by rw [hl2, List.length_take]; omega
      clear hl2
      have sp := same_upd (o := .lst (cutV (nb l) none (some (v % (((nb l).length : Nat) + 1 : Int))))) np
      have ep : upd H'' p (.lst (cutV (nb l) none (some (v % (((nb l).length : Nat) + 1 : Int))))) p = some (.lst (nb l2)) := by rw [upd_same, hcut]
      dsimp only at sp ep ⊢
      generalize upd H'' p (.lst (cutV (nb l) none (some (v % (((nb l).length : Nat) + 1 : Int))))) = G1 at *
      dsimp only [gName, tSeq]
      refine ⟨.ref p, rfl, p, _, rfl, .inl (.inl (.inl ep)), fun h nh => ?_⟩
      have sh := same_upd (o := .lst (nb l2)) nh
      have eh : upd G1 h (.lst (nb l2)) h = _ := upd_same
      have ep2 := sh _ _ ep
      generalize upd G1 h (.lst (nb l2)) = G2 at *
      dsimp only [gName, tSeq]
      obtain ⟨hv, _⟩ := words_back hb2
      have hvl := value_len hb2 hll
      refine ⟨.ref h, rfl, 0, .ref h, rfl, .inr (.inr (.inl ⟨rfl, h, l2, rfl, eh, hb2, hll, fun z hz G3 s3' => ?_⟩))⟩
      have hzl : z.length ≤ 90000 := by rw [TL.len_tl, hz]; exact hvl
      have hzv : isVal (TL.tl z) = true := by rw [hz]; exact hv
      have ep3 := s3' _ _ ep2
      have eh3 := s3' _ _ eh
      dsimp only [gName, tSeq]
      refine ifT false (fun k q1 => orT false false (fun k q2 => notT true (fun k q3 => ⟨.str z, rfl, .str z, .ty "str", _, _, true, rfl, .ty _, .base (.str z), kit_ty (by decide +kernel), true, rfl, q3 _ (Same.refl _)⟩) q2) (fun _ Ha k sa q2 => orT false false (fun k q3 => ⟨.str z, rfl, .ref p, rfl, p, l2, rfl, sa _ _ ep3, hb2, hll, fun z2 hz2 H6 s6 => ⟨rfl, _, rfl, TellB.eq (by rw [str_dec, hz, hz2, decide_eq_true rfl]; rfl) q3 _ s6⟩⟩) (fun _ Hb k sb q3 => ⟨.ref h, rfl, .ref p, rfl, _, _, dp_ints (.inl (.inl (by rw [← nbI]; exact sb _ _ (sa _ _ eh3)))), dp_ints (.inl (.inl (by rw [← nbI]; exact sb _ _ (sa _ _ ep3)))), shaped_intsL (l2.map fun b => ((b : Nat) : Int)), shaped_intsL (l2.map fun b => ((b : Nat) : Int)), _, rfl, TellB.eq (by rw [eqv_intsL, decide_eq_true rfl]; rfl) q3 _ (Same.refl _)⟩) q2) q1) (fun h => nomatch h) (fun _ H5 s5 => ?_)
      dsimp only [tNext]
      have ep5 := s5 _ _ ep3
      refine ifT false (fun k q1 => orT false false (fun k q2 => ⟨.str z, rfl, z, rfl, hzl, hzv, fun H6 r s6 nr er => ⟨.ref p, rfl, _, _, dp_ints (.inl (.inl (by rw [← nbI, er, hz, valueV_back hb2]))), dp_ints (.inl (.inl (by rw [← nbI]; exact s6 _ _ ep5))), shaped_intsL (l2.map fun b => ((b : Nat) : Int)), shaped_intsL (l2.map fun b => ((b : Nat) : Int)), _, rfl, TellB.eq (by rw [eqv_intsL, decide_eq_true rfl]; rfl) q2 _ s6⟩⟩) (fun _ Ha k sa q2 => notT true (fun k q3 => ⟨.str z, rfl, z, rfl, hzl, hzv, fun H6 s6 => ⟨true, rfl, q3 _ s6⟩⟩) q2) q1) (fun h => nomatch h) (fun _ H6 s6 => ⟨_, _, _, _, rfl, sm.trans (sp.trans (sh.trans (s3'.trans (s5.trans s6))))⟩)
    · obtain ⟨y3, y6, y7, y8, rfl, sm⟩ := hP
      have e5 := sm _ _ e4
      have hSb := sm.seq hSa
      dsimp only [tSeq, tAsg]
      refine ifT false (fun k q1 => notT true (fun k q4 => ⟨.ref r0, rfl, .ref a, rfl, _, a, ns, rfl, hSb, hlen, fun zs hzn hzs H5 r s5 nr er => ⟨r, rfl, ⟨_, .inl (.inl er)⟩, fun D hD => lc_pure (fun i => (zs.map V.str).getD i .non) (fun _ => .bl true) walk_listF (fun H6 s6 => s6.seq (.inl (.inl er))) hD (by rw [List.length_map, sizeLine_eq]; omega) (fun i H6 Q6 hi s6 q6 => ?_) (fun H6 s6 e => ?_)⟩⟩) q1) (fun h => nomatch h) (fun _ H5 s5 => ?_)
      · rw [List.length_map] at hi
        obtain ⟨g1, g2⟩ := hzs zs[i] (List.getElem_mem hi)
        have : (zs.map V.str).getD i .non = .str zs[i] := by
          rw [List.getD_eq_getElem?_getD, List.getElem?_map, List.getElem?_eq_getElem hi]
          rfl
        rw [this]
        exact ⟨_, rfl, zs[i], rfl, g1, g2, q6⟩
      · refine ⟨D, (List.range (zs.map V.str).length).map fun _ => true, rfl, .inl (.inl (by rw [e, List.map_map]; rfl)), _, rfl, ?_⟩
        rw [map_true]
        exact q4 _ (s5.trans s6)
      · dsimp only [tNext, tSeq, tAsg]
        have e6 := s5 _ _ e5
        refine ⟨le1, fun u1 n1 => ?_⟩
        have v1 := same_upd (o := .lst [V.str (Str.ofString "a")]) n1
        have f1 : upd H5 u1 (.lst [V.str (Str.ofString "a")]) u1 = _ := upd_same
        generalize upd H5 u1 (.lst [V.str (Str.ofString "a")]) = G1 at *
        intro u2 n2
        have v2 := same_upd (o := .dK []) n2
        have f2 : upd G1 u2 (.dK []) u2 = _ := upd_same
        generalize upd G1 u2 (.dK []) = G2 at *
        refine ⟨le10, fun u3 n3 => ?_⟩
        have v3 := same_upd (o := .lst [V.str (Str.ofString " a"), .str (Str.ofString "a "), .str (Str.ofString "a  b"), .str (Str.ofString "a\tb"), .non, .int 5, .ref u1, .bl true, .ref u2, .str (Str.ofString "a\n")]) n3
        have f3 : upd G2 u3 (.lst [V.str (Str.ofString " a"), .str (Str.ofString "a "), .str (Str.ofString "a  b"), .str (Str.ofString "a\tb"), .non, .int 5, .ref u1, .bl true, .ref u2, .str (Str.ofString "a\n")]) u3 = _ := upd_same
        have f1 := v3 _ _ (v2 _ _ f1)
        have f2 := v3 _ _ f2
        have e7 := v3 _ _ (v2 _ _ (v1 _ _ e6))
        generalize upd G2 u3 (.lst [V.str (Str.ofString " a"), .str (Str.ofString "a "), .str (Str.ofString "a  b"), .str (Str.ofString "a\tb"), .non, .int 5, .ref u1, .bl true, .ref u2, .str (Str.ofString "a\n")]) = G3 at *
        obtain ⟨b1, b2, b3, b4, b5⟩ := ok_bad
        obtain ⟨x, hax, hx⟩ : ∃ x, atI [V.str (Str.ofString " a"), .str (Str.ofString "a "), .str (Str.ofString "a  b"), .str (Str.ofString "a\tb"), .non, .int 5, .ref u1, .bl true, .ref u2, .str (Str.ofString "a\n")] (m / 16 % 10) = some x ∧ ∀ H', Same G3 H' → BadV K H' x := by
          have : m / 16 % 10 = 0 ∨ m / 16 % 10 = 1 ∨ m / 16 % 10 = 2 ∨ m / 16 % 10 = 3 ∨ m / 16 % 10 = 4 ∨ m / 16 % 10 = 5 ∨ m / 16 % 10 = 6 ∨ m / 16 % 10 = 7 ∨ m / 16 % 10 = 8 ∨ m / 16 % 10 = 9 := by omega
          rcases this with h | h | h | h | h | h | h | h | h | h
          · rw [h]; exact ⟨_, rfl, fun H' s' => .inl ⟨_, rfl, by decide +kernel, b1⟩⟩
          · rw [h]; exact ⟨_, rfl, fun H' s' => .inl ⟨_, rfl, by decide +kernel, b2⟩⟩
          · rw [h]; exact ⟨_, rfl, fun H' s' => .inl ⟨_, rfl, by decide +kernel, b3⟩⟩
          · rw [h]; exact ⟨_, rfl, fun H' s' => .inl ⟨_, rfl, by decide +kernel, b4⟩⟩
          · rw [h]; exact ⟨_, rfl, fun H' s' => .inr ⟨_, .base .non, kit_ty (by decide +kernel)⟩⟩
          · rw [h]; exact ⟨_, rfl, fun H' s' => .inr ⟨_, .base (.int 5), kit_ty (by decide +kernel)⟩⟩
          · rw [h]; exact ⟨_, rfl, fun H' s' => .inr ⟨_, .base (.lst (s' _ _ f1)), kit_ty (by decide +kernel)⟩⟩
          · rw [h]; exact ⟨_, rfl, fun H' s' => .inr ⟨_, .base (.bl true), kit_ty (by decide +kernel)⟩⟩
          · rw [h]; exact ⟨_, rfl, fun H' s' => .inr ⟨_, .base (.dK (s' _ _ f2)), kit_ty (by decide +kernel)⟩⟩
          · rw [h]; exact ⟨_, rfl, fun H' s' => .inl ⟨_, rfl, by decide +kernel, b5⟩⟩
        refine ⟨.int m, rfl, _, 16, rfl, rfl, ⟨by decide, by decide⟩, _, 10, rfl, rfl, (show (0 : Int) < 10 by decide), u3, _, _, x, rfl, rfl, .inl (.inl f3), hax, ?_⟩
        dsimp only [gName, tSeq, tAsg]
        refine ⟨le2, fun w1 m1 => ?_⟩
        have t1 := same_upd (o := .tup [V.int 1, .int 2]) m1
        have g1 : upd G3 w1 (.tup [V.int 1, .int 2]) w1 = _ := upd_same
        generalize upd G3 w1 (.tup [V.int 1, .int 2]) = K1 at *
        refine ⟨le1, fun w2 m2 => ?_⟩
        have t2 := same_upd (o := .lst [V.int 256]) m2
        have g2 : upd K1 w2 (.lst [V.int 256]) w2 = _ := upd_same
        generalize upd K1 w2 (.lst [V.int 256]) = K2 at *
        refine ⟨1, rfl, le1, fun w3 m3 => ?_⟩
        have t3 := same_upd (o := .lst [V.int (-1)]) m3
        have g3 : upd K2 w3 (.lst [V.int (-1)]) w3 = _ := upd_same
        dsimp only at t3 g3 ⊢
        generalize upd K2 w3 (.lst [V.int (-1)]) = K3 at *
        refine ⟨le1, fun w4 m4 => ?_⟩
        have t4 := same_upd (o := .lst [V.bl true]) m4
        have g4 : upd K3 w4 (.lst [V.bl true]) w4 = _ := upd_same
        generalize upd K3 w4 (.lst [V.bl true]) = K4 at *
        refine ⟨.ref r0, rfl, le1, fun w5 m5 => ?_⟩
        have t5 := same_upd (o := .lst [V.non]) m5
        have g5 : upd K4 w5 (.lst [V.non]) w5 = _ := upd_same
        have e8 := t5 _ _ (t4 _ _ (t3 _ _ (t2 _ _ (t1 _ _ e7))))
        generalize upd K4 w5 (.lst [V.non]) = K5 at *
        refine ⟨r0, w5, _, _, rfl, rfl, e8, g5, by rw [hnl, sizeLine_eq]; show _ + 1 ≤ _; omega, fun w6 m6 => ?_⟩
        have t6 := same_upd (o := .lst (nb l ++ [V.non])) m6
        have g6 : upd K5 w6 (.lst (nb l ++ [V.non])) w6 = _ := upd_same
        generalize upd K5 w6 (.lst (nb l ++ [V.non])) = K6 at *
        refine ⟨le1, fun w7 m7 => ?_⟩
        have t7 := same_upd (o := .lst [V.str (Str.ofString "a")]) m7
        have g7 : upd K6 w7 (.lst [V.str (Str.ofString "a")]) w7 = _ := upd_same
        generalize upd K6 w7 (.lst [V.str (Str.ofString "a")]) = K7 at *
        intro w8 m8
        have t8 := same_upd (o := .dK []) m8
        have g8 : upd K7 w8 (.dK []) w8 = _ := upd_same
        generalize upd K7 w8 (.dK []) = K8 at *
        refine ⟨le10, fun w9 m9 => ?_⟩
        have t9 := same_upd (o := .lst [V.non, .str (Str.ofString "ab"), .ref w1, .ref w2, .ref w3, .ref w4, .ref w6, .ref w7, .int 5, .ref w8]) m9
        have g9 : upd K8 w9 (.lst [V.non, .str (Str.ofString "ab"), .ref w1, .ref w2, .ref w3, .ref w4, .ref w6, .ref w7, .int 5, .ref w8]) w9 = _ := upd_same
        generalize upd K8 w9 (.lst [V.non, .str (Str.ofString "ab"), .ref w1, .ref w2, .ref w3, .ref w4, .ref w6, .ref w7, .int 5, .ref w8]) = K9 at *
        have t89 := t8.trans t9
        have t79 := t7.trans t89
        have t69 := t6.trans t79
        have t59 := t5.trans t69
        have t49 := t4.trans t59
        have t39 := t3.trans t49
        have t29 := t2.trans t39
        obtain ⟨y, hay, hy⟩ : ∃ y, atI [V.non, .str (Str.ofString "ab"), .ref w1, .ref w2, .ref w3, .ref w4, .ref w6, .ref w7, .int 5, .ref w8] (m / 160 % 10) = some y ∧ ∀ H', Same K9 H' → BadB K H' y := by
          have : m / 160 % 10 = 0 ∨ m / 160 % 10 = 1 ∨ m / 160 % 10 = 2 ∨ m / 160 % 10 = 3 ∨ m / 160 % 10 = 4 ∨ m / 160 % 10 = 5 ∨ m / 160 % 10 = 6 ∨ m / 160 % 10 = 7 ∨ m / 160 % 10 = 8 ∨ m / 160 % 10 = 9 := by omega
          rcases this with h | h | h | h | h | h | h | h | h | h
          · rw [h]; exact ⟨_, rfl, fun H' s' => .inl ⟨_, .base .non, kit_ty (by decide +kernel)⟩⟩
          · rw [h]; exact ⟨_, rfl, fun H' s' => .inl ⟨_, .base (.str _), kit_ty (by decide +kernel)⟩⟩
          · rw [h]; exact ⟨_, rfl, fun H' s' => .inl ⟨_, .base (.tup (s' _ _ (t29 _ _ g1))), kit_ty (by decide +kernel)⟩⟩
          · rw [h]; exact ⟨_, rfl, fun H' s' => .inr ⟨w2, _, rfl, s' _ _ (t39 _ _ g2), by decide, fun v hv => by rw [List.mem_singleton.mp hv]; exact .inl ⟨_, rfl⟩, by decide⟩⟩
          · rw [h]; exact ⟨_, rfl, fun H' s' => .inr ⟨w3, _, rfl, s' _ _ (t49 _ _ g3), by decide, fun v hv => by rw [List.mem_singleton.mp hv]; exact .inl ⟨_, rfl⟩, by decide⟩⟩
          · rw [h]; exact ⟨_, rfl, fun H' s' => .inr ⟨w4, _, rfl, s' _ _ (t59 _ _ g4), by decide, fun v hv => by rw [List.mem_singleton.mp hv]; exact .inr (.inr (.inl ⟨_, rfl⟩)), rfl⟩⟩
          · rw [h]
            refine ⟨_, rfl, fun H' s' => .inr ⟨w6, _, rfl, s' _ _ (t79 _ _ g6), by rw [List.length_append, hnl]; show _ + 1 ≤ _; omega, fun v hv => ?_, ?_⟩⟩
            · rcases List.mem_append.mp hv with hv | hv
              · exact nb_elem v hv
              · rw [List.mem_singleton.mp hv]; exact .inr (.inl rfl)
            · rw [List.all_append]
              simp [okV]
          · rw [h]; exact ⟨_, rfl, fun H' s' => .inr ⟨w7, _, rfl, s' _ _ (t89 _ _ g7), by decide, fun v hv => by rw [List.mem_singleton.mp hv]; exact .inr (.inr (.inr (.inl ⟨_, rfl⟩))), rfl⟩⟩
          · rw [h]; exact ⟨_, rfl, fun H' s' => .inl ⟨_, .base (.int 5), kit_ty (by decide +kernel)⟩⟩
          · rw [h]; exact ⟨_, rfl, fun H' s' => .inl ⟨_, .base (.dK (s' _ _ (t9 _ _ g8))), kit_ty (by decide +kernel)⟩⟩
        refine ⟨.int m, rfl, _, 160, rfl, rfl, ⟨by decide, by decide⟩, _, 10, rfl, rfl, (show (0 : Int) < 10 by decide), w9, _, _, y, rfl, rfl, .inl (.inl g9), hay, ?_⟩
        dsimp only [gName, tSeq, tAsg]
        have S9 := t1.trans t29
        refine ⟨x, rfl, 1, x, rfl, .inr (.inl ⟨rfl, fun H' s' => hx H' (S9.trans s'), fun Ha ra sa nra era => ⟨le2, fun c1 d1 => ⟨_, _, dp_strs (.inl (.inl (same_upd d1 _ _ era))), dp_strs (bs := [Str.ofString "value", Str.ofString "base"]) (.inl (.inl upd_same)), shaped_strs _ oks_val, shaped_strs _ oks_val, _, rfl, ?_⟩⟩⟩)⟩
        rw [eqv_strsL, decide_eq_true rfl, if_pos rfl]
        refine ⟨y, rfl, 0, y, rfl, .inl ⟨rfl, fun H' s' => hy H' (sa.trans ((same_upd d1).trans s')), fun Hb rb sb nrb erb => ⟨le2, fun c2 d2 => ⟨_, _, dp_strs (.inl (.inl (same_upd d2 _ _ erb))), dp_strs (bs := [Str.ofString "bytes", Str.ofString "base"]) (.inl (.inl upd_same)), shaped_strs _ oks_byt, shaped_strs _ oks_byt, ?_⟩⟩⟩⟩
        rw [eqv_strsL, decide_eq_true rfl]
        exact q _
end
end K09

namespace K09
open PySem PySem.Spec PyProof.Rows L2 LH
set_option maxHeartbeats 2000000 in
theorem all_mk {l : PySem.W.OpenLaw} {w : World} {K : PySem.W.Frag} {h : Heap} {mg : Str → Option Value} {fa : Addr} {f0 f1 f2 f3 f4 f5 f6 f7 f8 f9 f10 f11 f12 f13 f14 f15 f16 f17 f18 f19 f20 f21 f22 f23 f24 f25 f26 f27 f28 f29 f30 f31 f32 f33 f34 f35 f36 f37 f38 f39 f40 f41 f42 f43 : Addr} {t1 t2 t3 t4 t5 t6 t7 t8 t9 : Tok} (X : K.In h) (G : h.Ns mainGlobals mg) (hfa : mg "law" = some (.ref fa))
    {od0 an0 : Option Addr} {sl0 : Array (Option Value)} {oc0 kV0 dc0 pm0 cd0 ct0 : Value}
    (a0 : PySem.W.nsIn K mainGlobals "_law_mixed" = some (some (.ref f0)))
    (l0 : K.lookup f0 = some ⟨oc0, od0, .func (PySem.W.fnOf "_law_mixed" "_law_mixed" (defArgs s__law_mixed) (defBody s__law_mixed) (defScope s__law_mixed) .none kV0 dc0 pm0 an0 cd0 ct0), sl0⟩) (c0 : PySem.W.codeIn K cd0 "_law_mixed" = true) (k0 : PySem.W.keepIn K (.ref f0) = true)
    {od1 an1 : Option Addr} {sl1 : Array (Option Value)} {oc1 kV1 dc1 pm1 cd1 ct1 : Value}
    (a1 : PySem.W.nsIn K mainGlobals "_law_cell" = some (some (.ref f1)))
    (l1 : K.lookup f1 = some ⟨oc1, od1, .func (PySem.W.fnOf "_law_cell" "_law_cell" (defArgs s__law_cell) (defBody s__law_cell) (defScope s__law_cell) .none kV1 dc1 pm1 an1 cd1 ct1), sl1⟩) (c1 : PySem.W.codeIn K cd1 "_law_cell" = true) (k1 : PySem.W.keepIn K (.ref f1) = true)
    {od2 an2 : Option Addr} {sl2 : Array (Option Value)} {oc2 kV2 dc2 pm2 cd2 ct2 : Value}
    (a2 : PySem.W.nsIn K mainGlobals "_law_bytes" = some (some (.ref f2)))
    (l2 : K.lookup f2 = some ⟨oc2, od2, .func (PySem.W.fnOf "_law_bytes" "_law_bytes" (defArgs s__law_bytes) (defBody s__law_bytes) (defScope s__law_bytes) .none kV2 dc2 pm2 an2 cd2 ct2), sl2⟩) (c2 : PySem.W.codeIn K cd2 "_law_bytes" = true) (k2 : PySem.W.keepIn K (.ref f2) = true)
    {od3 an3 : Option Addr} {sl3 : Array (Option Value)} {oc3 kV3 dc3 pm3 cd3 ct3 : Value}
    (a3 : PySem.W.nsIn K mainGlobals "is_number" = some (some (.ref f3)))
    (l3 : K.lookup f3 = some ⟨oc3, od3, .func (PySem.W.fnOf "is_number" "is_number" (defArgs s_is_number) (defBody s_is_number) (defScope s_is_number) .none kV3 dc3 pm3 an3 cd3 ct3), sl3⟩) (c3 : PySem.W.codeIn K cd3 "is_number" = true) (k3 : PySem.W.keepIn K (.ref f3) = true)
    {od4 an4 : Option Addr} {sl4 : Array (Option Value)} {oc4 kV4 dc4 pm4 cd4 ct4 : Value}
    (a4 : PySem.W.nsIn K mainGlobals "is_bytes" = some (some (.ref f4)))
    (l4 : K.lookup f4 = some ⟨oc4, od4, .func (PySem.W.fnOf "is_bytes" "is_bytes" (defArgs s_is_bytes) (defBody s_is_bytes) (defScope s_is_bytes) .none kV4 dc4 pm4 an4 cd4 ct4), sl4⟩) (c4 : PySem.W.codeIn K cd4 "is_bytes" = true) (k4 : PySem.W.keepIn K (.ref f4) = true)
    {od5 an5 : Option Addr} {sl5 : Array (Option Value)} {oc5 kV5 dc5 pm5 cd5 ct5 : Value}
    (a5 : PySem.W.nsIn K mainGlobals "is_sign_byte" = some (some (.ref f5)))
    (l5 : K.lookup f5 = some ⟨oc5, od5, .func (PySem.W.fnOf "is_sign_byte" "is_sign_byte" (defArgs s_is_sign_byte) (defBody s_is_sign_byte) (defScope s_is_sign_byte) .none kV5 dc5 pm5 an5 cd5 ct5), sl5⟩) (c5 : PySem.W.codeIn K cd5 "is_sign_byte" = true) (k5 : PySem.W.keepIn K (.ref f5) = true)
    {od6 an6 : Option Addr} {sl6 : Array (Option Value)} {oc6 kV6 dc6 pm6 cd6 ct6 : Value}
    (a6 : PySem.W.nsIn K mainGlobals "sign_of_byte" = some (some (.ref f6)))
    (l6 : K.lookup f6 = some ⟨oc6, od6, .func (PySem.W.fnOf "sign_of_byte" "sign_of_byte" (defArgs s_sign_of_byte) (defBody s_sign_of_byte) (defScope s_sign_of_byte) .none kV6 dc6 pm6 an6 cd6 ct6), sl6⟩) (c6 : PySem.W.codeIn K cd6 "sign_of_byte" = true) (k6 : PySem.W.keepIn K (.ref f6) = true)
    {od7 an7 : Option Addr} {sl7 : Array (Option Value)} {oc7 kV7 dc7 pm7 cd7 ct7 : Value}
    (a7 : PySem.W.nsIn K mainGlobals "is_sign" = some (some (.ref f7)))
    (l7 : K.lookup f7 = some ⟨oc7, od7, .func (PySem.W.fnOf "is_sign" "is_sign" (defArgs s_is_sign) (defBody s_is_sign) (defScope s_is_sign) .none kV7 dc7 pm7 an7 cd7 ct7), sl7⟩) (c7 : PySem.W.codeIn K cd7 "is_sign" = true) (k7 : PySem.W.keepIn K (.ref f7) = true)
    {od8 an8 : Option Addr} {sl8 : Array (Option Value)} {oc8 kV8 dc8 pm8 cd8 ct8 : Value}
    (a8 : PySem.W.nsIn K mainGlobals "is_value" = some (some (.ref f8)))
    (l8 : K.lookup f8 = some ⟨oc8, od8, .func (PySem.W.fnOf "is_value" "is_value" (defArgs s_is_value) (defBody s_is_value) (defScope s_is_value) .none kV8 dc8 pm8 an8 cd8 ct8), sl8⟩) (c8 : PySem.W.codeIn K cd8 "is_value" = true) (k8 : PySem.W.keepIn K (.ref f8) = true)
    {od9 an9 : Option Addr} {sl9 : Array (Option Value)} {oc9 kV9 dc9 pm9 cd9 ct9 : Value}
    (a9 : PySem.W.nsIn K mainGlobals "goes_into_rows" = some (some (.ref f9)))
    (l9 : K.lookup f9 = some ⟨oc9, od9, .func (PySem.W.fnOf "goes_into_rows" "goes_into_rows" (defArgs s_goes_into_rows) (defBody s_goes_into_rows) (defScope s_goes_into_rows) .none kV9 dc9 pm9 an9 cd9 ct9), sl9⟩) (c9 : PySem.W.codeIn K cd9 "goes_into_rows" = true) (k9 : PySem.W.keepIn K (.ref f9) = true)
    {od10 an10 : Option Addr} {sl10 : Array (Option Value)} {oc10 kV10 dc10 pm10 cd10 ct10 : Value}
    (a10 : PySem.W.nsIn K mainGlobals "may_stand_plain" = some (some (.ref f10)))
    (l10 : K.lookup f10 = some ⟨oc10, od10, .func (PySem.W.fnOf "may_stand_plain" "may_stand_plain" (defArgs s_may_stand_plain) (defBody s_may_stand_plain) (defScope s_may_stand_plain) .none kV10 dc10 pm10 an10 cd10 ct10), sl10⟩) (c10 : PySem.W.codeIn K cd10 "may_stand_plain" = true) (k10 : PySem.W.keepIn K (.ref f10) = true)
    {od11 an11 : Option Addr} {sl11 : Array (Option Value)} {oc11 kV11 dc11 pm11 cd11 ct11 : Value}
    (a11 : PySem.W.nsIn K mainGlobals "four_of" = some (some (.ref f11)))
    (l11 : K.lookup f11 = some ⟨oc11, od11, .func (PySem.W.fnOf "four_of" "four_of" (defArgs s_four_of) (defBody s_four_of) (defScope s_four_of) .none kV11 dc11 pm11 an11 cd11 ct11), sl11⟩) (c11 : PySem.W.codeIn K cd11 "four_of" = true) (k11 : PySem.W.keepIn K (.ref f11) = true)
    {od12 an12 : Option Addr} {sl12 : Array (Option Value)} {oc12 kV12 dc12 pm12 cd12 ct12 : Value}
    (a12 : PySem.W.nsIn K mainGlobals "sixty_of" = some (some (.ref f12)))
    (l12 : K.lookup f12 = some ⟨oc12, od12, .func (PySem.W.fnOf "sixty_of" "sixty_of" (defArgs s_sixty_of) (defBody s_sixty_of) (defScope s_sixty_of) .none kV12 dc12 pm12 an12 cd12 ct12), sl12⟩) (c12 : PySem.W.codeIn K cd12 "sixty_of" = true) (k12 : PySem.W.keepIn K (.ref f12) = true)
    {od13 an13 : Option Addr} {sl13 : Array (Option Value)} {oc13 kV13 dc13 pm13 cd13 ct13 : Value}
    (a13 : PySem.W.nsIn K mainGlobals "word_of" = some (some (.ref f13)))
    (l13 : K.lookup f13 = some ⟨oc13, od13, .func (PySem.W.fnOf "word_of" "word_of" (defArgs s_word_of) (defBody s_word_of) (defScope s_word_of) .none kV13 dc13 pm13 an13 cd13 ct13), sl13⟩) (c13 : PySem.W.codeIn K cd13 "word_of" = true) (k13 : PySem.W.keepIn K (.ref f13) = true)
    {od14 an14 : Option Addr} {sl14 : Array (Option Value)} {oc14 kV14 dc14 pm14 cd14 ct14 : Value}
    (a14 : PySem.W.nsIn K mainGlobals "value_of" = some (some (.ref f14)))
    (l14 : K.lookup f14 = some ⟨oc14, od14, .func (PySem.W.fnOf "value_of" "value_of" (defArgs s_value_of) (defBody s_value_of) (defScope s_value_of) .none kV14 dc14 pm14 an14 cd14 ct14), sl14⟩) (c14 : PySem.W.codeIn K cd14 "value_of" = true) (k14 : PySem.W.keepIn K (.ref f14) = true)
    {od15 an15 : Option Addr} {sl15 : Array (Option Value)} {oc15 kV15 dc15 pm15 cd15 ct15 : Value}
    (a15 : PySem.W.nsIn K mainGlobals "no_text_row" = some (some (.ref f15)))
    (l15 : K.lookup f15 = some ⟨oc15, od15, .func (PySem.W.fnOf "no_text_row" "no_text_row" (defArgs s_no_text_row) (defBody s_no_text_row) (defScope s_no_text_row) .none kV15 dc15 pm15 an15 cd15 ct15), sl15⟩) (c15 : PySem.W.codeIn K cd15 "no_text_row" = true) (k15 : PySem.W.keepIn K (.ref f15) = true)
    {od16 an16 : Option Addr} {sl16 : Array (Option Value)} {oc16 kV16 dc16 pm16 cd16 ct16 : Value}
    (a16 : PySem.W.nsIn K mainGlobals "good_signs" = some (some (.ref f16)))
    (l16 : K.lookup f16 = some ⟨oc16, od16, .func (PySem.W.fnOf "good_signs" "good_signs" (defArgs s_good_signs) (defBody s_good_signs) (defScope s_good_signs) .none kV16 dc16 pm16 an16 cd16 ct16), sl16⟩) (c16 : PySem.W.codeIn K cd16 "good_signs" = true) (k16 : PySem.W.keepIn K (.ref f16) = true)
    {od17 an17 : Option Addr} {sl17 : Array (Option Value)} {oc17 kV17 dc17 pm17 cd17 ct17 : Value}
    (a17 : PySem.W.nsIn K mainGlobals "first_wrong" = some (some (.ref f17)))
    (l17 : K.lookup f17 = some ⟨oc17, od17, .func (PySem.W.fnOf "first_wrong" "first_wrong" (defArgs s_first_wrong) (defBody s_first_wrong) (defScope s_first_wrong) .none kV17 dc17 pm17 an17 cd17 ct17), sl17⟩) (c17 : PySem.W.codeIn K cd17 "first_wrong" = true) (k17 : PySem.W.keepIn K (.ref f17) = true)
    {od18 an18 : Option Addr} {sl18 : Array (Option Value)} {oc18 kV18 dc18 pm18 cd18 ct18 : Value}
    (a18 : PySem.W.nsIn K mainGlobals "bits_of" = some (some (.ref f18)))
    (l18 : K.lookup f18 = some ⟨oc18, od18, .func (PySem.W.fnOf "bits_of" "bits_of" (defArgs s_bits_of) (defBody s_bits_of) (defScope s_bits_of) .none kV18 dc18 pm18 an18 cd18 ct18), sl18⟩) (c18 : PySem.W.codeIn K cd18 "bits_of" = true) (k18 : PySem.W.keepIn K (.ref f18) = true)
    {od19 an19 : Option Addr} {sl19 : Array (Option Value)} {oc19 kV19 dc19 pm19 cd19 ct19 : Value}
    (a19 : PySem.W.nsIn K mainGlobals "bytes_of_four" = some (some (.ref f19)))
    (l19 : K.lookup f19 = some ⟨oc19, od19, .func (PySem.W.fnOf "bytes_of_four" "bytes_of_four" (defArgs s_bytes_of_four) (defBody s_bytes_of_four) (defScope s_bytes_of_four) .none kV19 dc19 pm19 an19 cd19 ct19), sl19⟩) (c19 : PySem.W.codeIn K cd19 "bytes_of_four" = true) (k19 : PySem.W.keepIn K (.ref f19) = true)
    {od20 an20 : Option Addr} {sl20 : Array (Option Value)} {oc20 kV20 dc20 pm20 cd20 ct20 : Value}
    (a20 : PySem.W.nsIn K mainGlobals "may_fill" = some (some (.ref f20)))
    (l20 : K.lookup f20 = some ⟨oc20, od20, .func (PySem.W.fnOf "may_fill" "may_fill" (defArgs s_may_fill) (defBody s_may_fill) (defScope s_may_fill) .none kV20 dc20 pm20 an20 cd20 ct20), sl20⟩) (c20 : PySem.W.codeIn K cd20 "may_fill" = true) (k20 : PySem.W.keepIn K (.ref f20) = true)
    {od21 an21 : Option Addr} {sl21 : Array (Option Value)} {oc21 kV21 dc21 pm21 cd21 ct21 : Value}
    (a21 : PySem.W.nsIn K mainGlobals "may_stand" = some (some (.ref f21)))
    (l21 : K.lookup f21 = some ⟨oc21, od21, .func (PySem.W.fnOf "may_stand" "may_stand" (defArgs s_may_stand) (defBody s_may_stand) (defScope s_may_stand) .none kV21 dc21 pm21 an21 cd21 ct21), sl21⟩) (c21 : PySem.W.codeIn K cd21 "may_stand" = true) (k21 : PySem.W.keepIn K (.ref f21) = true)
    {od22 an22 : Option Addr} {sl22 : Array (Option Value)} {oc22 kV22 dc22 pm22 cd22 ct22 : Value}
    (a22 : PySem.W.nsIn K mainGlobals "may_end" = some (some (.ref f22)))
    (l22 : K.lookup f22 = some ⟨oc22, od22, .func (PySem.W.fnOf "may_end" "may_end" (defArgs s_may_end) (defBody s_may_end) (defScope s_may_end) .none kV22 dc22 pm22 an22 cd22 ct22), sl22⟩) (c22 : PySem.W.codeIn K cd22 "may_end" = true) (k22 : PySem.W.keepIn K (.ref f22) = true)
    {od23 an23 : Option Addr} {sl23 : Array (Option Value)} {oc23 kV23 dc23 pm23 cd23 ct23 : Value}
    (a23 : PySem.W.nsIn K mainGlobals "bytes_of_sixty" = some (some (.ref f23)))
    (l23 : K.lookup f23 = some ⟨oc23, od23, .func (PySem.W.fnOf "bytes_of_sixty" "bytes_of_sixty" (defArgs s_bytes_of_sixty) (defBody s_bytes_of_sixty) (defScope s_bytes_of_sixty) .none kV23 dc23 pm23 an23 cd23 ct23), sl23⟩) (c23 : PySem.W.codeIn K cd23 "bytes_of_sixty" = true) (k23 : PySem.W.keepIn K (.ref f23) = true)
    {od24 an24 : Option Addr} {sl24 : Array (Option Value)} {oc24 kV24 dc24 pm24 cd24 ct24 : Value}
    (a24 : PySem.W.nsIn K mainGlobals "bytes_of_word" = some (some (.ref f24)))
    (l24 : K.lookup f24 = some ⟨oc24, od24, .func (PySem.W.fnOf "bytes_of_word" "bytes_of_word" (defArgs s_bytes_of_word) (defBody s_bytes_of_word) (defScope s_bytes_of_word) .none kV24 dc24 pm24 an24 cd24 ct24), sl24⟩) (c24 : PySem.W.codeIn K cd24 "bytes_of_word" = true) (k24 : PySem.W.keepIn K (.ref f24) = true)
    {od25 an25 : Option Addr} {sl25 : Array (Option Value)} {oc25 kV25 dc25 pm25 cd25 ct25 : Value}
    (a25 : PySem.W.nsIn K mainGlobals "bytes_of_signs" = some (some (.ref f25)))
    (l25 : K.lookup f25 = some ⟨oc25, od25, .func (PySem.W.fnOf "bytes_of_signs" "bytes_of_signs" (defArgs s_bytes_of_signs) (defBody s_bytes_of_signs) (defScope s_bytes_of_signs) .none kV25 dc25 pm25 an25 cd25 ct25), sl25⟩) (c25 : PySem.W.codeIn K cd25 "bytes_of_signs" = true) (k25 : PySem.W.keepIn K (.ref f25) = true)
    {od26 an26 : Option Addr} {sl26 : Array (Option Value)} {oc26 kV26 dc26 pm26 cd26 ct26 : Value}
    (a26 : PySem.W.nsIn K mainGlobals "bytes_of_value" = some (some (.ref f26)))
    (l26 : K.lookup f26 = some ⟨oc26, od26, .func (PySem.W.fnOf "bytes_of_value" "bytes_of_value" (defArgs s_bytes_of_value) (defBody s_bytes_of_value) (defScope s_bytes_of_value) .none kV26 dc26 pm26 an26 cd26 ct26), sl26⟩) (c26 : PySem.W.codeIn K cd26 "bytes_of_value" = true) (k26 : PySem.W.keepIn K (.ref f26) = true)
    {od27 an27 : Option Addr} {sl27 : Array (Option Value)} {oc27 kV27 dc27 pm27 cd27 ct27 : Value}
    (a27 : PySem.W.nsIn K mainGlobals "_law_kind" = some (some (.ref f27)))
    (l27 : K.lookup f27 = some ⟨oc27, od27, .func (PySem.W.fnOf "_law_kind" "_law_kind" (defArgs s__law_kind) (defBody s__law_kind) (defScope s__law_kind) .none kV27 dc27 pm27 an27 cd27 ct27), sl27⟩) (c27 : PySem.W.codeIn K cd27 "_law_kind" = true) (k27 : PySem.W.keepIn K (.ref f27) = true)
    {od28 an28 : Option Addr} {sl28 : Array (Option Value)} {oc28 kV28 dc28 pm28 cd28 ct28 : Value}
    (a28 : PySem.W.nsIn K mainGlobals "_law_told" = some (some (.ref f28)))
    (l28 : K.lookup f28 = some ⟨oc28, od28, .func (PySem.W.fnOf "_law_told" "_law_told" (defArgs s__law_told) (defBody s__law_told) (defScope s__law_told) .none kV28 dc28 pm28 an28 cd28 ct28), sl28⟩) (c28 : PySem.W.codeIn K cd28 "_law_told" = true) (k28 : PySem.W.keepIn K (.ref f28) = true)
    {od29 an29 : Option Addr} {sl29 : Array (Option Value)} {oc29 kV29 dc29 pm29 cd29 ct29 : Value}
    (a29 : PySem.W.nsIn K mainGlobals "_law_is_plain" = some (some (.ref f29)))
    (l29 : K.lookup f29 = some ⟨oc29, od29, .func (PySem.W.fnOf "_law_is_plain" "_law_is_plain" (defArgs s__law_is_plain) (defBody s__law_is_plain) (defScope s__law_is_plain) .none kV29 dc29 pm29 an29 cd29 ct29), sl29⟩) (c29 : PySem.W.codeIn K cd29 "_law_is_plain" = true) (k29 : PySem.W.keepIn K (.ref f29) = true)
    {od30 an30 : Option Addr} {sl30 : Array (Option Value)} {oc30 kV30 dc30 pm30 cd30 ct30 : Value}
    (a30 : PySem.W.nsIn K mainGlobals "_law_signs" = some (some (.ref f30)))
    (l30 : K.lookup f30 = some ⟨oc30, od30, .func (PySem.W.fnOf "_law_signs" "_law_signs" (defArgs s__law_signs) (defBody s__law_signs) (defScope s__law_signs) .none kV30 dc30 pm30 an30 cd30 ct30), sl30⟩) (c30 : PySem.W.codeIn K cd30 "_law_signs" = true) (k30 : PySem.W.keepIn K (.ref f30) = true)
    {od31 an31 : Option Addr} {sl31 : Array (Option Value)} {oc31 kV31 dc31 pm31 cd31 ct31 : Value}
    (a31 : PySem.W.nsIn K mainGlobals "_law_bits" = some (some (.ref f31)))
    (l31 : K.lookup f31 = some ⟨oc31, od31, .func (PySem.W.fnOf "_law_bits" "_law_bits" (defArgs s__law_bits) (defBody s__law_bits) (defScope s__law_bits) .none kV31 dc31 pm31 an31 cd31 ct31), sl31⟩) (c31 : PySem.W.codeIn K cd31 "_law_bits" = true) (k31 : PySem.W.keepIn K (.ref f31) = true)
    {od32 an32 : Option Addr} {sl32 : Array (Option Value)} {oc32 kV32 dc32 pm32 cd32 ct32 : Value}
    (a32 : PySem.W.nsIn K mainGlobals "_law_number" = some (some (.ref f32)))
    (l32 : K.lookup f32 = some ⟨oc32, od32, .func (PySem.W.fnOf "_law_number" "_law_number" (defArgs s__law_number) (defBody s__law_number) (defScope s__law_number) .none kV32 dc32 pm32 an32 cd32 ct32), sl32⟩) (c32 : PySem.W.codeIn K cd32 "_law_number" = true) (k32 : PySem.W.keepIn K (.ref f32) = true)
    {od33 an33 : Option Addr} {sl33 : Array (Option Value)} {oc33 kV33 dc33 pm33 cd33 ct33 : Value}
    (a33 : PySem.W.nsIn K mainGlobals "_law_sixty" = some (some (.ref f33)))
    (l33 : K.lookup f33 = some ⟨oc33, od33, .func (PySem.W.fnOf "_law_sixty" "_law_sixty" (defArgs s__law_sixty) (defBody s__law_sixty) (defScope s__law_sixty) .none kV33 dc33 pm33 an33 cd33 ct33), sl33⟩) (c33 : PySem.W.codeIn K cd33 "_law_sixty" = true) (k33 : PySem.W.keepIn K (.ref f33) = true)
    {od34 an34 : Option Addr} {sl34 : Array (Option Value)} {oc34 kV34 dc34 pm34 cd34 ct34 : Value}
    (a34 : PySem.W.nsIn K mainGlobals "_law_in_sixty" = some (some (.ref f34)))
    (l34 : K.lookup f34 = some ⟨oc34, od34, .func (PySem.W.fnOf "_law_in_sixty" "_law_in_sixty" (defArgs s__law_in_sixty) (defBody s__law_in_sixty) (defScope s__law_in_sixty) .none kV34 dc34 pm34 an34 cd34 ct34), sl34⟩) (c34 : PySem.W.codeIn K cd34 "_law_in_sixty" = true) (k34 : PySem.W.keepIn K (.ref f34) = true)
    {od35 an35 : Option Addr} {sl35 : Array (Option Value)} {oc35 kV35 dc35 pm35 cd35 ct35 : Value}
    (a35 : PySem.W.nsIn K mainGlobals "_law_value" = some (some (.ref f35)))
    (l35 : K.lookup f35 = some ⟨oc35, od35, .func (PySem.W.fnOf "_law_value" "_law_value" (defArgs s__law_value) (defBody s__law_value) (defScope s__law_value) .none kV35 dc35 pm35 an35 cd35 ct35), sl35⟩) (c35 : PySem.W.codeIn K cd35 "_law_value" = true) (k35 : PySem.W.keepIn K (.ref f35) = true)
    {od36 an36 : Option Addr} {sl36 : Array (Option Value)} {oc36 kV36 dc36 pm36 cd36 ct36 : Value}
    (a36 : PySem.W.nsIn K mainGlobals "_law_word_bytes" = some (some (.ref f36)))
    (l36 : K.lookup f36 = some ⟨oc36, od36, .func (PySem.W.fnOf "_law_word_bytes" "_law_word_bytes" (defArgs s__law_word_bytes) (defBody s__law_word_bytes) (defScope s__law_word_bytes) .none kV36 dc36 pm36 an36 cd36 ct36), sl36⟩) (c36 : PySem.W.codeIn K cd36 "_law_word_bytes" = true) (k36 : PySem.W.keepIn K (.ref f36) = true)
    {od37 an37 : Option Addr} {sl37 : Array (Option Value)} {oc37 kV37 dc37 pm37 cd37 ct37 : Value}
    (a37 : PySem.W.nsIn K mainGlobals "_law_sign_bytes" = some (some (.ref f37)))
    (l37 : K.lookup f37 = some ⟨oc37, od37, .func (PySem.W.fnOf "_law_sign_bytes" "_law_sign_bytes" (defArgs s__law_sign_bytes) (defBody s__law_sign_bytes) (defScope s__law_sign_bytes) .none kV37 dc37 pm37 an37 cd37 ct37), sl37⟩) (c37 : PySem.W.codeIn K cd37 "_law_sign_bytes" = true) (k37 : PySem.W.keepIn K (.ref f37) = true)
    {od38 an38 : Option Addr} {sl38 : Array (Option Value)} {oc38 kV38 dc38 pm38 cd38 ct38 : Value}
    (a38 : PySem.W.nsIn K mainGlobals "_law_value_bytes" = some (some (.ref f38)))
    (l38 : K.lookup f38 = some ⟨oc38, od38, .func (PySem.W.fnOf "_law_value_bytes" "_law_value_bytes" (defArgs s__law_value_bytes) (defBody s__law_value_bytes) (defScope s__law_value_bytes) .none kV38 dc38 pm38 an38 cd38 ct38), sl38⟩) (c38 : PySem.W.codeIn K cd38 "_law_value_bytes" = true) (k38 : PySem.W.keepIn K (.ref f38) = true)
    {od39 an39 : Option Addr} {sl39 : Array (Option Value)} {oc39 kV39 dc39 pm39 cd39 ct39 : Value}
    (a39 : PySem.W.nsIn K mainGlobals "_law_whole" = some (some (.ref f39)))
    (l39 : K.lookup f39 = some ⟨oc39, od39, .func (PySem.W.fnOf "_law_whole" "_law_whole" (defArgs s__law_whole) (defBody s__law_whole) (defScope s__law_whole) .none kV39 dc39 pm39 an39 cd39 ct39), sl39⟩) (c39 : PySem.W.codeIn K cd39 "_law_whole" = true) (k39 : PySem.W.keepIn K (.ref f39) = true)
    {od40 an40 : Option Addr} {sl40 : Array (Option Value)} {oc40 kV40 dc40 pm40 cd40 ct40 : Value}
    (a40 : PySem.W.nsIn K mainGlobals "_law_read_right" = some (some (.ref f40)))
    (l40 : K.lookup f40 = some ⟨oc40, od40, .func (PySem.W.fnOf "_law_read_right" "_law_read_right" (defArgs s__law_read_right) (defBody s__law_read_right) (defScope s__law_read_right) .none kV40 dc40 pm40 an40 cd40 ct40), sl40⟩) (c40 : PySem.W.codeIn K cd40 "_law_read_right" = true) (k40 : PySem.W.keepIn K (.ref f40) = true)
    {od41 an41 : Option Addr} {sl41 : Array (Option Value)} {oc41 kV41 dc41 pm41 cd41 ct41 : Value}
    (a41 : PySem.W.nsIn K mainGlobals "_law_next" = some (some (.ref f41)))
    (l41 : K.lookup f41 = some ⟨oc41, od41, .func (PySem.W.fnOf "_law_next" "_law_next" (defArgs s__law_next) (defBody s__law_next) (defScope s__law_next) .none kV41 dc41 pm41 an41 cd41 ct41), sl41⟩) (c41 : PySem.W.codeIn K cd41 "_law_next" = true) (k41 : PySem.W.keepIn K (.ref f41) = true)
    {od42 an42 : Option Addr} {sl42 : Array (Option Value)} {oc42 kV42 dc42 pm42 cd42 ct42 : Value}
    (a42 : PySem.W.nsIn K mainGlobals "_law_some_values" = some (some (.ref f42)))
    (l42 : K.lookup f42 = some ⟨oc42, od42, .func (PySem.W.fnOf "_law_some_values" "_law_some_values" (defArgs s__law_some_values) (defBody s__law_some_values) (defScope s__law_some_values) .none kV42 dc42 pm42 an42 cd42 ct42), sl42⟩) (c42 : PySem.W.codeIn K cd42 "_law_some_values" = true) (k42 : PySem.W.keepIn K (.ref f42) = true)
    {od43 an43 : Option Addr} {sl43 : Array (Option Value)} {oc43 kV43 dc43 pm43 cd43 ct43 : Value}
    (a43 : PySem.W.nsIn K mainGlobals "law" = some (some (.ref f43)))
    (l43 : K.lookup f43 = some ⟨oc43, od43, .func (PySem.W.fnOf "law" "law" (defArgs s_law) (defBody s_law) (defScope s_law) .none kV43 dc43 pm43 an43 cd43 ct43), sl43⟩) (c43 : PySem.W.codeIn K cd43 "law" = true) (k43 : PySem.W.keepIn K (.ref f43) = true)
    {e0 e1 e2 e3 e4 e5 e6 e7 e8 e9 e10 e11 e12 e13 e14 e15 e16 e17 e18 e19 : Addr}
    (m0 : PySem.W.nsIn K mainGlobals "HouseError" = some (some (.ref e0)))
    (m1 : PySem.W.nsIn K mainGlobals "BadBytes" = some (some (.ref e1)))
    (m2 : PySem.W.nsIn K mainGlobals "BadName" = some (some (.ref e2)))
    (m3 : PySem.W.nsIn K mainGlobals "BadValue" = some (some (.ref e3)))
    (m4 : PySem.W.nsIn K mainGlobals "TooLong" = some (some (.ref e4)))
    (m5 : PySem.W.nsIn K mainGlobals "NoTime" = some (some (.ref e5)))
    (m6 : PySem.W.nsIn K mainGlobals "BadPiece" = some (some (.ref e6)))
    (m7 : PySem.W.nsIn K mainGlobals "Twice" = some (some (.ref e7)))
    (m8 : PySem.W.nsIn K mainGlobals "NoLetter" = some (some (.ref e8)))
    (m9 : PySem.W.nsIn K mainGlobals "NoFolder" = some (some (.ref e9)))
    (m10 : PySem.W.nsIn K mainGlobals "BadLine" = some (some (.ref e10)))
    (m11 : PySem.W.nsIn K mainGlobals "Wrong" = some (some (.ref e11)))
    (m12 : PySem.W.nsIn K mainGlobals "BadRow" = some (some (.ref e12)))
    (m13 : PySem.W.nsIn K mainGlobals "BadSixty" = some (some (.ref e13)))
    (m14 : PySem.W.nsIn K mainGlobals "BadSixteens" = some (some (.ref e14)))
    (m15 : PySem.W.nsIn K mainGlobals "BadTime" = some (some (.ref e15)))
    (m16 : PySem.W.nsIn K mainGlobals "BadPeople" = some (some (.ref e16)))
    (m17 : PySem.W.nsIn K mainGlobals "BadHeader" = some (some (.ref e17)))
    (m18 : PySem.W.nsIn K mainGlobals "BadBody" = some (some (.ref e18)))
    (m19 : PySem.W.nsIn K mainGlobals "BadRule" = some (some (.ref e19)))
    (ic0 : PySem.W.isClsIn K e0 = true) (tp0 : PySem.W.typeIn K (.ref e0) = some (.type "type"))
    (ic1 : PySem.W.isClsIn K e1 = true) (tp1 : PySem.W.typeIn K (.ref e1) = some (.type "type"))
    (ic2 : PySem.W.isClsIn K e2 = true) (tp2 : PySem.W.typeIn K (.ref e2) = some (.type "type"))
    (ic3 : PySem.W.isClsIn K e3 = true) (tp3 : PySem.W.typeIn K (.ref e3) = some (.type "type"))
    (ic4 : PySem.W.isClsIn K e4 = true) (tp4 : PySem.W.typeIn K (.ref e4) = some (.type "type"))
    (ic5 : PySem.W.isClsIn K e5 = true) (tp5 : PySem.W.typeIn K (.ref e5) = some (.type "type"))
    (ic6 : PySem.W.isClsIn K e6 = true) (tp6 : PySem.W.typeIn K (.ref e6) = some (.type "type"))
    (ic7 : PySem.W.isClsIn K e7 = true) (tp7 : PySem.W.typeIn K (.ref e7) = some (.type "type"))
    (ic8 : PySem.W.isClsIn K e8 = true) (tp8 : PySem.W.typeIn K (.ref e8) = some (.type "type"))
    (ic9 : PySem.W.isClsIn K e9 = true) (tp9 : PySem.W.typeIn K (.ref e9) = some (.type "type"))
    (ic10 : PySem.W.isClsIn K e10 = true) (tp10 : PySem.W.typeIn K (.ref e10) = some (.type "type"))
    (ic11 : PySem.W.isClsIn K e11 = true) (tp11 : PySem.W.typeIn K (.ref e11) = some (.type "type"))
    (ic12 : PySem.W.isClsIn K e12 = true) (tp12 : PySem.W.typeIn K (.ref e12) = some (.type "type"))
    (ic13 : PySem.W.isClsIn K e13 = true) (tp13 : PySem.W.typeIn K (.ref e13) = some (.type "type"))
    (ic14 : PySem.W.isClsIn K e14 = true) (tp14 : PySem.W.typeIn K (.ref e14) = some (.type "type"))
    (ic15 : PySem.W.isClsIn K e15 = true) (tp15 : PySem.W.typeIn K (.ref e15) = some (.type "type"))
    (ic16 : PySem.W.isClsIn K e16 = true) (tp16 : PySem.W.typeIn K (.ref e16) = some (.type "type"))
    (ic17 : PySem.W.isClsIn K e17 = true) (tp17 : PySem.W.typeIn K (.ref e17) = some (.type "type"))
    (ic18 : PySem.W.isClsIn K e18 = true) (tp18 : PySem.W.typeIn K (.ref e18) = some (.type "type"))
    (ic19 : PySem.W.isClsIn K e19 = true) (tp19 : PySem.W.typeIn K (.ref e19) = some (.type "type"))
    (se13 : PySem.W.subIn K (.ref e13) (.ref e13) = some true)
    (hb0 : PySem.W.subIn K (.ref e0) (.type "BaseException") = some true)
    (kp1 : PySem.W.keepIn K (.ref e1) = true) (sb1 : PySem.W.subIn K (.ref e1) (.type "BaseException") = some true) (ty1 : PySem.W.typeIn K (.ref e1) = some (.type "type")) (x0_1 : PySem.W.findIn K (.ref e1) "__getattribute__" = some (some (.builtin "BaseException.__getattribute__"))) (x1_1 : PySem.W.findIn K (.ref e1) "__getattr__" = some none) (x2_1 : PySem.W.subIn K (.ref e1) (.type "BaseException") = some true) (x3_1 : PySem.W.hasDictIn K e1 = true) (x4_1 : PySem.W.findIn K (.ref e1) "__class__" = some (some (.builtin "object.__class__"))) (x5_1 : PySem.W.specialIn K (.builtin "object.__class__") "__get__" = some (some (.builtin "getset_descriptor.__get__"))) (x6_1 : PySem.W.takesIn K (.builtin "object.__class__") = some true) (x7_1 : PySem.W.mroIn K e1 (.type "object") = some true) (fi1 : PySem.W.subIn K (.ref e1) (.ref e0) = some true) (ba1 : PySem.W.subIn K (.ref e1) (.type "ValueError") = some true) (ki1_0 : PySem.W.subIn K (.ref e1) (.ref e1) = some true) (ki1_1 : PySem.W.subIn K (.ref e1) (.ref e2) = some false) (nq1_1 : (e1 == e2) = false) (ki1_2 : PySem.W.subIn K (.ref e1) (.ref e3) = some false) (nq1_2 : (e1 == e3) = false) (ki1_3 : PySem.W.subIn K (.ref e1) (.ref e4) = some false) (nq1_3 : (e1 == e4) = false) (ki1_4 : PySem.W.subIn K (.ref e1) (.ref e5) = some false) (nq1_4 : (e1 == e5) = false) (ki1_5 : PySem.W.subIn K (.ref e1) (.ref e6) = some false) (nq1_5 : (e1 == e6) = false) (ki1_6 : PySem.W.subIn K (.ref e1) (.ref e7) = some false) (nq1_6 : (e1 == e7) = false) (ki1_7 : PySem.W.subIn K (.ref e1) (.ref e8) = some false) (nq1_7 : (e1 == e8) = false) (ki1_8 : PySem.W.subIn K (.ref e1) (.ref e9) = some false) (nq1_8 : (e1 == e9) = false) (ki1_9 : PySem.W.subIn K (.ref e1) (.ref e10) = some false) (nq1_9 : (e1 == e10) = false) (ki1_10 : PySem.W.subIn K (.ref e1) (.ref e11) = some false) (nq1_10 : (e1 == e11) = false) (ki1_11 : PySem.W.subIn K (.ref e1) (.ref e12) = some false) (nq1_11 : (e1 == e12) = false) (ki1_12 : PySem.W.subIn K (.ref e1) (.ref e13) = some false) (nq1_12 : (e1 == e13) = false) (ki1_13 : PySem.W.subIn K (.ref e1) (.ref e14) = some false) (nq1_13 : (e1 == e14) = false) (ki1_14 : PySem.W.subIn K (.ref e1) (.ref e15) = some false) (nq1_14 : (e1 == e15) = false) (ki1_15 : PySem.W.subIn K (.ref e1) (.ref e16) = some false) (nq1_15 : (e1 == e16) = false) (ki1_16 : PySem.W.subIn K (.ref e1) (.ref e17) = some false) (nq1_16 : (e1 == e17) = false) (ki1_17 : PySem.W.subIn K (.ref e1) (.ref e18) = some false) (nq1_17 : (e1 == e18) = false) (ki1_18 : PySem.W.subIn K (.ref e1) (.ref e19) = some false) (nq1_18 : (e1 == e19) = false)
    (kp3 : PySem.W.keepIn K (.ref e3) = true) (sb3 : PySem.W.subIn K (.ref e3) (.type "BaseException") = some true) (ty3 : PySem.W.typeIn K (.ref e3) = some (.type "type")) (x0_3 : PySem.W.findIn K (.ref e3) "__getattribute__" = some (some (.builtin "BaseException.__getattribute__"))) (x1_3 : PySem.W.findIn K (.ref e3) "__getattr__" = some none) (x2_3 : PySem.W.subIn K (.ref e3) (.type "BaseException") = some true) (x3_3 : PySem.W.hasDictIn K e3 = true) (x4_3 : PySem.W.findIn K (.ref e3) "__class__" = some (some (.builtin "object.__class__"))) (x5_3 : PySem.W.specialIn K (.builtin "object.__class__") "__get__" = some (some (.builtin "getset_descriptor.__get__"))) (x6_3 : PySem.W.takesIn K (.builtin "object.__class__") = some true) (x7_3 : PySem.W.mroIn K e3 (.type "object") = some true) (fi3 : PySem.W.subIn K (.ref e3) (.ref e0) = some true) (ba3 : PySem.W.subIn K (.ref e3) (.type "ValueError") = some true) (ki3_0 : PySem.W.subIn K (.ref e3) (.ref e1) = some false) (nq3_0 : (e3 == e1) = false) (ki3_1 : PySem.W.subIn K (.ref e3) (.ref e2) = some false) (nq3_1 : (e3 == e2) = false) (ki3_2 : PySem.W.subIn K (.ref e3) (.ref e3) = some true) (ki3_3 : PySem.W.subIn K (.ref e3) (.ref e4) = some false) (nq3_3 : (e3 == e4) = false) (ki3_4 : PySem.W.subIn K (.ref e3) (.ref e5) = some false) (nq3_4 : (e3 == e5) = false) (ki3_5 : PySem.W.subIn K (.ref e3) (.ref e6) = some false) (nq3_5 : (e3 == e6) = false) (ki3_6 : PySem.W.subIn K (.ref e3) (.ref e7) = some false) (nq3_6 : (e3 == e7) = false) (ki3_7 : PySem.W.subIn K (.ref e3) (.ref e8) = some false) (nq3_7 : (e3 == e8) = false) (ki3_8 : PySem.W.subIn K (.ref e3) (.ref e9) = some false) (nq3_8 : (e3 == e9) = false) (ki3_9 : PySem.W.subIn K (.ref e3) (.ref e10) = some false) (nq3_9 : (e3 == e10) = false) (ki3_10 : PySem.W.subIn K (.ref e3) (.ref e11) = some false) (nq3_10 : (e3 == e11) = false) (ki3_11 : PySem.W.subIn K (.ref e3) (.ref e12) = some false) (nq3_11 : (e3 == e12) = false) (ki3_12 : PySem.W.subIn K (.ref e3) (.ref e13) = some false) (nq3_12 : (e3 == e13) = false) (ki3_13 : PySem.W.subIn K (.ref e3) (.ref e14) = some false) (nq3_13 : (e3 == e14) = false) (ki3_14 : PySem.W.subIn K (.ref e3) (.ref e15) = some false) (nq3_14 : (e3 == e15) = false) (ki3_15 : PySem.W.subIn K (.ref e3) (.ref e16) = some false) (nq3_15 : (e3 == e16) = false) (ki3_16 : PySem.W.subIn K (.ref e3) (.ref e17) = some false) (nq3_16 : (e3 == e17) = false) (ki3_17 : PySem.W.subIn K (.ref e3) (.ref e18) = some false) (nq3_17 : (e3 == e18) = false) (ki3_18 : PySem.W.subIn K (.ref e3) (.ref e19) = some false) (nq3_18 : (e3 == e19) = false)
    (kp13 : PySem.W.keepIn K (.ref e13) = true) (sb13 : PySem.W.subIn K (.ref e13) (.type "BaseException") = some true) (ty13 : PySem.W.typeIn K (.ref e13) = some (.type "type")) (x0_13 : PySem.W.findIn K (.ref e13) "__getattribute__" = some (some (.builtin "BaseException.__getattribute__"))) (x1_13 : PySem.W.findIn K (.ref e13) "__getattr__" = some none) (x2_13 : PySem.W.subIn K (.ref e13) (.type "BaseException") = some true) (x3_13 : PySem.W.hasDictIn K e13 = true) (x4_13 : PySem.W.findIn K (.ref e13) "__class__" = some (some (.builtin "object.__class__"))) (x5_13 : PySem.W.specialIn K (.builtin "object.__class__") "__get__" = some (some (.builtin "getset_descriptor.__get__"))) (x6_13 : PySem.W.takesIn K (.builtin "object.__class__") = some true) (x7_13 : PySem.W.mroIn K e13 (.type "object") = some true) (fi13 : PySem.W.subIn K (.ref e13) (.ref e0) = some true) (ba13 : PySem.W.subIn K (.ref e13) (.type "ValueError") = some true) (ki13_0 : PySem.W.subIn K (.ref e13) (.ref e1) = some false) (nq13_0 : (e13 == e1) = false) (ki13_1 : PySem.W.subIn K (.ref e13) (.ref e2) = some false) (nq13_1 : (e13 == e2) = false) (ki13_2 : PySem.W.subIn K (.ref e13) (.ref e3) = some false) (nq13_2 : (e13 == e3) = false) (ki13_3 : PySem.W.subIn K (.ref e13) (.ref e4) = some false) (nq13_3 : (e13 == e4) = false) (ki13_4 : PySem.W.subIn K (.ref e13) (.ref e5) = some false) (nq13_4 : (e13 == e5) = false) (ki13_5 : PySem.W.subIn K (.ref e13) (.ref e6) = some false) (nq13_5 : (e13 == e6) = false) (ki13_6 : PySem.W.subIn K (.ref e13) (.ref e7) = some false) (nq13_6 : (e13 == e7) = false) (ki13_7 : PySem.W.subIn K (.ref e13) (.ref e8) = some false) (nq13_7 : (e13 == e8) = false) (ki13_8 : PySem.W.subIn K (.ref e13) (.ref e9) = some false) (nq13_8 : (e13 == e9) = false) (ki13_9 : PySem.W.subIn K (.ref e13) (.ref e10) = some false) (nq13_9 : (e13 == e10) = false) (ki13_10 : PySem.W.subIn K (.ref e13) (.ref e11) = some true) (ki13_11 : PySem.W.subIn K (.ref e13) (.ref e12) = some false) (nq13_11 : (e13 == e12) = false) (ki13_12 : PySem.W.subIn K (.ref e13) (.ref e13) = some true) (ki13_13 : PySem.W.subIn K (.ref e13) (.ref e14) = some false) (nq13_13 : (e13 == e14) = false) (ki13_14 : PySem.W.subIn K (.ref e13) (.ref e15) = some false) (nq13_14 : (e13 == e15) = false) (ki13_15 : PySem.W.subIn K (.ref e13) (.ref e16) = some false) (nq13_15 : (e13 == e16) = false) (ki13_16 : PySem.W.subIn K (.ref e13) (.ref e17) = some false) (nq13_16 : (e13 == e17) = false) (ki13_17 : PySem.W.subIn K (.ref e13) (.ref e18) = some false) (nq13_17 : (e13 == e18) = false) (ki13_18 : PySem.W.subIn K (.ref e13) (.ref e19) = some false) (nq13_18 : (e13 == e19) = false) (nl13 : PySem.W.findIn K (.ref e13) "line" = some none) (np13 : PySem.W.findIn K (.ref e13) "place" = some none)
    {fH ccH cdaH TH : Addr} {r0 r1 r2 r3 r4 r5 r6 r7 r8 r9 r10 r11 r12 r13 r14 r15 r16 : Pos} {u0h : Nat} {och kvh doch pmh cth cclh clh octh : Value} {odh anh cddh cldh odth : Option Addr} {slh csh cslh slth : Array (Option Value)} {vsh : Array Value} {dvh : Value} {fileh : Str} {tfh : Tok} {mh : Nat}
    (yi : PySem.W.findIn K (.ref e0) "__init__" = some (some (.ref fH)))
    (yl : K.lookup fH = some ⟨och, odh, .func (PySem.W.ksFn "__init__" "HouseError.__init__" (hA ⟨r0, r1, r2, r3, r4, r5, r6, r7, r8, r9, r10, r11, r12, r13, r14, r15, r16, u0h⟩) (hB ⟨r0, r1, r2, r3, r4, r5, r6, r7, r8, r9, r10, r11, r12, r13, r14, r15, r16, u0h⟩) hS (.ref TH) kvh doch pmh anh (.ref cdaH) cth ccH), slh⟩)
    (yc : PySem.W.codeIn K (.ref cdaH) "HouseError.__init__" = true) (yq1 : (r5.endLine == r6.line) = true) (yq2 : (r14.endLine == r15.line) = true) (yT : K.lookup TH = some ⟨octh, odth, .seq #[dvh] mh, slth⟩)
    (yd : K.lookup cdaH = some ⟨cclh, cddh, .fields vsh, csh⟩) (ye : vsh[2]? = some (.str fileh tfh)) (yf : ((l.prog.main.file : Str) == fileh) = true) (yg : K.lookup ccH = some ⟨clh, cldh, .cell (some (.ref e0)), cslh⟩)
    (yy : PySem.W.typeIn K (.ref fH) = some (.type "function")) (yfn : PySem.W.fnIn K fH = true) (yj : PySem.W.nsIn K mainGlobals "super" = some none) (yk : (l.prog.main.scope.names.lookup ("super" : Str)).isSome = false) (ym : PySem.W.nsIn K cStatics "thirdparty.any" = some none)
    (yj1 : PySem.W.findIn K (.ref e1) "__init__" = some (some (.ref fH)))
    {odn1 : Option Addr} {cdn1 : ClassData} {sln1 : Array (Option Value)} {nmn1 : Str} {tkn1 : Tok}
    (yx1 : PySem.W.excInitIn K e1 bmV "ValueError.__new__" = true) (yo1 : PySem.W.excOver K e1 bmV = true) (ys1 : PySem.W.findIn K (.ref e1) "__setattr__" = some (some (.builtin "object.__setattr__"))) (yt1 : PySem.W.takerIn K e1 "kind" = some none) (yv1 : PySem.W.mroIn K e1 (.ref e0) = some true) (yw1 : PySem.W.ks_superIn K e1 e0 "__init__" = some (some (.builtin "ValueError.__init__"))) (yr1 : PySem.W.readsIn K e1 (.type "type") = true) (yn1 : PySem.W.findCls K (.ref e1) (.type "type") "__name__" = some (.get (.builtin "getset_descriptor.__get__") (.builtin "type.__name__") (.ref e1) (.type "type"))) (yz1 : K.lookup e1 = some ⟨.type "type", odn1, .cls cdn1, sln1⟩) (yza1 : sln1[2]? = some (some (.str nmn1 tkn1))) (yzb1 : nmn1.length ≤ 5592405) (yzc1 : Txt.lower nmn1 = ("badbytes" : Str))
    (yj3 : PySem.W.findIn K (.ref e3) "__init__" = some (some (.ref fH)))
    {odn3 : Option Addr} {cdn3 : ClassData} {sln3 : Array (Option Value)} {nmn3 : Str} {tkn3 : Tok}
    (yx3 : PySem.W.excInitIn K e3 bmV "ValueError.__new__" = true) (yo3 : PySem.W.excOver K e3 bmV = true) (ys3 : PySem.W.findIn K (.ref e3) "__setattr__" = some (some (.builtin "object.__setattr__"))) (yt3 : PySem.W.takerIn K e3 "kind" = some none) (yv3 : PySem.W.mroIn K e3 (.ref e0) = some true) (yw3 : PySem.W.ks_superIn K e3 e0 "__init__" = some (some (.builtin "ValueError.__init__"))) (yr3 : PySem.W.readsIn K e3 (.type "type") = true) (yn3 : PySem.W.findCls K (.ref e3) (.type "type") "__name__" = some (.get (.builtin "getset_descriptor.__get__") (.builtin "type.__name__") (.ref e3) (.type "type"))) (yz3 : K.lookup e3 = some ⟨.type "type", odn3, .cls cdn3, sln3⟩) (yza3 : sln3[2]? = some (some (.str nmn3 tkn3))) (yzb3 : nmn3.length ≤ 5592405) (yzc3 : Txt.lower nmn3 = ("badvalue" : Str))
    {odn13 : Option Addr} {cdn13 : ClassData} {sln13 : Array (Option Value)} {nmn13 : Str} {tkn13 : Tok}
    (yx13 : PySem.W.excInitIn K e13 bmV "ValueError.__new__" = true) (yo13 : PySem.W.excOver K e13 bmV = true) (ys13 : PySem.W.findIn K (.ref e13) "__setattr__" = some (some (.builtin "object.__setattr__"))) (yt13 : PySem.W.takerIn K e13 "kind" = some none) (yv13 : PySem.W.mroIn K e13 (.ref e0) = some true) (yw13 : PySem.W.ks_superIn K e13 e0 "__init__" = some (some (.builtin "ValueError.__init__"))) (yr13 : PySem.W.readsIn K e13 (.type "type") = true) (yn13 : PySem.W.findCls K (.ref e13) (.type "type") "__name__" = some (.get (.builtin "getset_descriptor.__get__") (.builtin "type.__name__") (.ref e13) (.type "type"))) (yz13 : K.lookup e13 = some ⟨.type "type", odn13, .cls cdn13, sln13⟩) (yza13 : sln13[2]? = some (some (.str nmn13 tkn13))) (yzb13 : nmn13.length ≤ 5592405) (yzc13 : Txt.lower nmn13 = ("badsixty" : Str))
    {fI cc cda : Addr} {q0 q1 q2 q3 q4 q5 q6 q7 q8 q9 q10 q11 q12 q13 q14 q15 q16 q17 q18 q19 q20 q21 q22 : Pos} {u0 u1 : Nat} {ocw docw pmw ctw cclw clw : Value} {odw anw cddw cldw : Option Addr} {slw csw cslw : Array (Option Value)} {vsw : Array Value} {filew : Str} {tfw : Tok}
    (wi : PySem.W.findIn K (.ref e13) "__init__" = some (some (.ref fI)))
    (wl : K.lookup fI = some ⟨ocw, odw, .func (PySem.W.ksFn "__init__" "Wrong.__init__" (iA q0 q1 q2) (iB ⟨q0, q1, q2, q3, q4, q5, q6, q7, q8, q9, q10, q11, q12, q13, q14, q15, q16, q17, q18, q19, q20, q21, q22, u0, u1⟩) iS .none .none docw pmw anw (.ref cda) ctw cc), slw⟩)
    (wc : PySem.W.codeIn K (.ref cda) "Wrong.__init__" = true) (wq : (q5.endLine == q6.line) = true)
    (wd : K.lookup cda = some ⟨cclw, cddw, .fields vsw, csw⟩) (we : vsw[2]? = some (.str filew tfw)) (wf : ((l.prog.main.file : Str) == filew) = true)
    (wg : K.lookup cc = some ⟨clw, cldw, .cell (some (.ref e11)), cslw⟩) (wh : PySem.W.isClsIn K e11 = true) (wj : PySem.W.nsIn K mainGlobals "super" = some none) (wk : (l.prog.main.scope.names.lookup ("super" : Str)).isSome = false) (wm : PySem.W.nsIn K cStatics "thirdparty.any" = some none) (wn : PySem.W.typeIn K (.ref fI) = some (.type "function"))
    (wi13 : PySem.W.findIn K (.ref e13) "__init__" = some (some (.ref fI))) (wx13 : PySem.W.excInitIn K e13 bmV "ValueError.__new__" = true) (wo13 : PySem.W.excOver K e13 bmV = true) (ws13 : PySem.W.findIn K (.ref e13) "__setattr__" = some (some (.builtin "object.__setattr__"))) (wt13 : PySem.W.takerIn K e13 "line" = some none) (wu13 : PySem.W.takerIn K e13 "place" = some none) (wv13 : PySem.W.mroIn K e13 (.ref e11) = some true) (ww13 : PySem.W.ks_superIn K e13 e11 "__init__" = some (some (.ref fH)))
    (z0 : PySem.W.nsIn K mainGlobals "ValueError" = some none)
    (z1 : PySem.W.nsIn K mainGlobals "all" = some none)
    (z2 : PySem.W.nsIn K mainGlobals "bool" = some none)
    (z3 : PySem.W.nsIn K mainGlobals "enumerate" = some none)
    (z4 : PySem.W.nsIn K mainGlobals "int" = some none)
    (z5 : PySem.W.nsIn K mainGlobals "isinstance" = some none)
    (z6 : PySem.W.nsIn K mainGlobals "len" = some none)
    (z7 : PySem.W.nsIn K mainGlobals "list" = some none)
    (z8 : PySem.W.nsIn K mainGlobals "max" = some none)
    (z9 : PySem.W.nsIn K mainGlobals "ord" = some none)
    (z10 : PySem.W.nsIn K mainGlobals "range" = some none)
    (z11 : PySem.W.nsIn K mainGlobals "str" = some none)
    (z12 : PySem.W.nsIn K mainGlobals "sum" = some none)
    (z13 : PySem.W.nsIn K mainGlobals "zip" = some none)
    (z14 : PySem.W.nsIn K mainGlobals "tuple" = some none)
    (v0 : PySem.W.nsIn K mainGlobals "PERCENT" = some (some (.int 37 t1)))
    (v1 : PySem.W.nsIn K mainGlobals "ROW_SIGNS" = some (some (.int 60 t2)))
    (v2 : PySem.W.nsIn K mainGlobals "SIGNS" = some (some (.str MSIGNS t3)))
    (v3 : PySem.W.nsIn K mainGlobals "SIXTY_FOUR" = some (some (.str S64 t4)))
    (v4 : PySem.W.nsIn K mainGlobals "HEAD" = some (some (.str (Str.ofString "=?") t5)))
    (v5 : PySem.W.nsIn K mainGlobals "TAIL" = some (some (.str (Str.ofString "?=") t6)))
    (v6 : PySem.W.nsIn K mainGlobals "WORD_BYTES" = some (some (.int 24 t7)))
    (v7 : PySem.W.nsIn K mainGlobals "FEWEST_SIGNS" = some (some (.int 4 t8)))
    (v8 : PySem.W.nsIn K mainGlobals "MOST_SIGNS" = some (some (.int 32 t9))) :
    ∃ fd : FuncData, (∀ (s : Shared) (v : Value), BindsTo s fd ⟨[v], []⟩ [("_law_script", v)]) ∧ ∀ base : Heap, K.In base → base.Ns mainGlobals mg → FnOk l.prog w K mg base CX0 11 fa fd ["_law_script"] (spLaw K) := by
  have e := hfa.symm.trans (PySem.W.mg_of X G a43)
  cases e
  have F0 := fun_mk (st := s__law_mixed) l0 c0 k0
  have b0 := F0.binds (ps := ["_law_cell_here", "_law_k"]) fun _ _ _ _ _ _ us hl => match us, hl with | [_, _], _ => rfl
  have F1 := fun_mk (st := s__law_cell) l1 c1 k1
  have b1 := F1.binds (ps := ["_law_script", "_law_k"]) fun _ _ _ _ _ _ us hl => match us, hl with | [_, _], _ => rfl
  have F2 := fun_mk (st := s__law_bytes) l2 c2 k2
  have b2 := F2.binds (ps := ["_law_script"]) fun _ _ _ _ _ _ us hl => match us, hl with | [_], _ => rfl
  have F3 := fun_mk (st := s_is_number) l3 c3 k3
  have b3 := F3.binds (ps := ["thing"]) fun _ _ _ _ _ _ us hl => match us, hl with | [_], _ => rfl
  have F4 := fun_mk (st := s_is_bytes) l4 c4 k4
  have b4 := F4.binds (ps := ["thing"]) fun _ _ _ _ _ _ us hl => match us, hl with | [_], _ => rfl
  have F5 := fun_mk (st := s_is_sign_byte) l5 c5 k5
  have b5 := F5.binds (ps := ["byte"]) fun _ _ _ _ _ _ us hl => match us, hl with | [_], _ => rfl
  have F6 := fun_mk (st := s_sign_of_byte) l6 c6 k6
  have b6 := F6.binds (ps := ["byte"]) fun _ _ _ _ _ _ us hl => match us, hl with | [_], _ => rfl
  have F7 := fun_mk (st := s_is_sign) l7 c7 k7
  have b7 := F7.binds (ps := ["sign"]) fun _ _ _ _ _ _ us hl => match us, hl with | [_], _ => rfl
  have F8 := fun_mk (st := s_is_value) l8 c8 k8
  have b8 := F8.binds (ps := ["thing"]) fun _ _ _ _ _ _ us hl => match us, hl with | [_], _ => rfl
  have F9 := fun_mk (st := s_goes_into_rows) l9 c9 k9
  have b9 := F9.binds (ps := ["word"]) fun _ _ _ _ _ _ us hl => match us, hl with | [_], _ => rfl
  have F10 := fun_mk (st := s_may_stand_plain) l10 c10 k10
  have b10 := F10.binds (ps := ["text"]) fun _ _ _ _ _ _ us hl => match us, hl with | [_], _ => rfl
  have F11 := fun_mk (st := s_four_of) l11 c11 k11
  have b11 := F11.binds (ps := ["row"]) fun _ _ _ _ _ _ us hl => match us, hl with | [_], _ => rfl
  have F12 := fun_mk (st := s_sixty_of) l12 c12 k12
  have b12 := F12.binds (ps := ["row"]) fun _ _ _ _ _ _ us hl => match us, hl with | [_], _ => rfl
  have F13 := fun_mk (st := s_word_of) l13 c13 k13
  have b13 := F13.binds (ps := ["row"]) fun _ _ _ _ _ _ us hl => match us, hl with | [_], _ => rfl
  have F14 := fun_mk (st := s_value_of) l14 c14 k14
  have b14 := F14.binds (ps := ["row"]) fun _ _ _ _ _ _ us hl => match us, hl with | [_], _ => rfl
  have F15 := fun_mk (st := s_no_text_row) l15 c15 k15
  have b15 := F15.binds (ps := ["rows"]) fun _ _ _ _ _ _ us hl => match us, hl with | [_], _ => rfl
  have F16 := fun_mk (st := s_good_signs) l16 c16 k16
  have b16 := F16.binds (ps := ["row", "may_stand"]) fun _ _ _ _ _ _ us hl => match us, hl with | [_, _], _ => rfl
  have F17 := fun_mk (st := s_first_wrong) l17 c17 k17
  have b17 := F17.binds (ps := ["rows", "may_stand", "may_end"]) fun _ _ _ _ _ _ us hl => match us, hl with | [_, _, _], _ => rfl
  have F18 := fun_mk (st := s_bits_of) l18 c18 k18
  have b18 := F18.binds (ps := ["sign"]) fun _ _ _ _ _ _ us hl => match us, hl with | [_], _ => rfl
  have F19 := fun_mk (st := s_bytes_of_four) l19 c19 k19
  have b19 := F19.binds (ps := ["signs"]) fun _ _ _ _ _ _ us hl => match us, hl with | [_], _ => rfl
  have F20 := fun_mk (st := s_may_fill) l20 c20 k20
  have b20 := F20.binds (ps := ["ahead"]) fun _ _ _ _ _ _ us hl => match us, hl with | [_], _ => rfl
  have F21 := fun_mk (st := s_may_stand) l21 c21 k21
  have b21 := F21.binds (ps := ["sign", "ahead"]) fun _ _ _ _ _ _ us hl => match us, hl with | [_, _], _ => rfl
  have F22 := fun_mk (st := s_may_end) l22 c22 k22
  have b22 := F22.binds (ps := ["row", "last"]) fun _ _ _ _ _ _ us hl => match us, hl with | [_, _], _ => rfl
  have F23 := fun_mk (st := s_bytes_of_sixty) l23 c23 k23
  have b23 := F23.binds (ps := ["rows"]) fun _ _ _ _ _ _ us hl => match us, hl with | [_], _ => rfl
  have F24 := fun_mk (st := s_bytes_of_word) l24 c24 k24
  have b24 := F24.binds (ps := ["word"]) fun _ _ _ _ _ _ us hl => match us, hl with | [_], _ => rfl
  have F25 := fun_mk (st := s_bytes_of_signs) l25 c25 k25
  have b25 := F25.binds (ps := ["text"]) fun _ _ _ _ _ _ us hl => match us, hl with | [_], _ => rfl
  have F26 := fun_mk (st := s_bytes_of_value) l26 c26 k26
  have b26 := F26.binds (ps := ["value"]) fun _ _ _ _ _ _ us hl => match us, hl with | [_], _ => rfl
  have F27 := fun_mk (st := s__law_kind) l27 c27 k27
  have b27 := F27.binds (ps := ["_law_e"]) fun _ _ _ _ _ _ us hl => match us, hl with | [_], _ => rfl
  have F28 := fun_mk (st := s__law_told) l28 c28 k28
  have b28 := F28.binds (ps := ["_law_way", "_law_thing"]) fun _ _ _ _ _ _ us hl => match us, hl with | [_, _], _ => rfl
  have F29 := fun_mk (st := s__law_is_plain) l29 c29 k29
  have b29 := F29.binds (ps := ["_law_row"]) fun _ _ _ _ _ _ us hl => match us, hl with | [_], _ => rfl
  have F30 := fun_mk (st := s__law_signs) l30 c30 k30
  have b30 := F30.binds (ps := []) fun _ _ _ _ _ _ us hl => match us, hl with | [], _ => rfl
  have F31 := fun_mk (st := s__law_bits) l31 c31 k31
  have b31 := F31.binds (ps := ["_law_number_here", "_law_many"]) fun _ _ _ _ _ _ us hl => match us, hl with | [_, _], _ => rfl
  have F32 := fun_mk (st := s__law_number) l32 c32 k32
  have b32 := F32.binds (ps := ["_law_bits_here"]) fun _ _ _ _ _ _ us hl => match us, hl with | [_], _ => rfl
  have F33 := fun_mk (st := s__law_sixty) l33 c33 k33
  have b33 := F33.binds (ps := []) fun _ _ _ _ _ _ us hl => match us, hl with | [], _ => rfl
  have F34 := fun_mk (st := s__law_in_sixty) l34 c34 k34
  have b34 := F34.binds (ps := ["_law_row"]) fun _ _ _ _ _ _ us hl => match us, hl with | [_], _ => rfl
  have F35 := fun_mk (st := s__law_value) l35 c35 k35
  have b35 := F35.binds (ps := ["_law_row"]) fun _ _ _ _ _ _ us hl => match us, hl with | [_], _ => rfl
  have F36 := fun_mk (st := s__law_word_bytes) l36 c36 k36
  have b36 := F36.binds (ps := ["_law_word"]) fun _ _ _ _ _ _ us hl => match us, hl with | [_], _ => rfl
  have F37 := fun_mk (st := s__law_sign_bytes) l37 c37 k37
  have b37 := F37.binds (ps := ["_law_text"]) fun _ _ _ _ _ _ us hl => match us, hl with | [_], _ => rfl
  have F38 := fun_mk (st := s__law_value_bytes) l38 c38 k38
  have b38 := F38.binds (ps := ["_law_value_here"]) fun _ _ _ _ _ _ us hl => match us, hl with | [_], _ => rfl
  have F39 := fun_mk (st := s__law_whole) l39 c39 k39
  have b39 := F39.binds (ps := ["_law_found"]) fun _ _ _ _ _ _ us hl => match us, hl with | [_], _ => rfl
  have F40 := fun_mk (st := s__law_read_right) l40 c40 k40
  have b40 := F40.binds (ps := ["_law_value_here"]) fun _ _ _ _ _ _ us hl => match us, hl with | [_], _ => rfl
  have F41 := fun_mk (st := s__law_next) l41 c41 k41
  have b41 := F41.binds (ps := ["_law_number_here", "_law_k"]) fun _ _ _ _ _ _ us hl => match us, hl with | [_, _], _ => rfl
  have F42 := fun_mk (st := s__law_some_values) l42 c42 k42
  have b42 := F42.binds (ps := ["_law_row", "_law_script"]) fun _ _ _ _ _ _ us hl => match us, hl with | [_, _], _ => rfl
  have F43 := fun_mk (st := s_law) l43 c43 k43
  have T : Tx mg (fun i => [t1, t2, t3, t4, t5, t6, t7, t8, t9].getD i t1) := ⟨PySem.W.mg_none_of X G z0, PySem.W.mg_none_of X G z1, PySem.W.mg_none_of X G z2, PySem.W.mg_none_of X G z3, PySem.W.mg_none_of X G z4, PySem.W.mg_none_of X G z5, PySem.W.mg_none_of X G z6, PySem.W.mg_none_of X G z7, PySem.W.mg_none_of X G z8, PySem.W.mg_none_of X G z9, PySem.W.mg_none_of X G z10, PySem.W.mg_none_of X G z11, PySem.W.mg_none_of X G z12, PySem.W.mg_none_of X G z13, PySem.W.mg_none_of X G z14, PySem.W.mg_of X G v0, PySem.W.mg_of X G v1, PySem.W.mg_of X G v2, PySem.W.mg_of X G v3, PySem.W.mg_of X G v4, PySem.W.mg_of X G v5, PySem.W.mg_of X G v6, PySem.W.mg_of X G v7, PySem.W.mg_of X G v8⟩
  have E : Ex K mg (fun i => [e0, e1, e2, e3, e4, e5, e6, e7, e8, e9, e10, e11, e12, e13, e14, e15, e16, e17, e18, e19].getD i e0) := ⟨PySem.W.mg_of X G m0, PySem.W.mg_of X G m1, PySem.W.mg_of X G m2, PySem.W.mg_of X G m3, PySem.W.mg_of X G m4, PySem.W.mg_of X G m5, PySem.W.mg_of X G m6, PySem.W.mg_of X G m7, PySem.W.mg_of X G m8, PySem.W.mg_of X G m9, PySem.W.mg_of X G m10, PySem.W.mg_of X G m11, PySem.W.mg_of X G m12, PySem.W.mg_of X G m13, PySem.W.mg_of X G m14, PySem.W.mg_of X G m15, PySem.W.mg_of X G m16, PySem.W.mg_of X G m17, PySem.W.mg_of X G m18, PySem.W.mg_of X G m19, ⟨⟨x0_1, x1_1, x2_1, x3_1, x4_1, x5_1, x6_1, x7_1⟩, exm_ref hb0 ic0 tp0 fi1, kit_base ba1⟩, ⟨rfl, fun j hj => match j, hj with | 0, _ => kit_ref ic1 tp1 ki1_0 (.inr rfl) | 1, _ => kit_ref ic2 tp2 ki1_1 (.inl nq1_1) | 2, _ => kit_ref ic3 tp3 ki1_2 (.inl nq1_2) | 3, _ => kit_ref ic4 tp4 ki1_3 (.inl nq1_3) | 4, _ => kit_ref ic5 tp5 ki1_4 (.inl nq1_4) | 5, _ => kit_ref ic6 tp6 ki1_5 (.inl nq1_5) | 6, _ => kit_ref ic7 tp7 ki1_6 (.inl nq1_6) | 7, _ => kit_ref ic8 tp8 ki1_7 (.inl nq1_7) | 8, _ => kit_ref ic9 tp9 ki1_8 (.inl nq1_8) | 9, _ => kit_ref ic10 tp10 ki1_9 (.inl nq1_9) | 10, _ => kit_ref ic11 tp11 ki1_10 (.inl nq1_10) | 11, _ => kit_ref ic12 tp12 ki1_11 (.inl nq1_11) | 12, _ => kit_ref ic13 tp13 ki1_12 (.inl nq1_12) | 13, _ => kit_ref ic14 tp14 ki1_13 (.inl nq1_13) | 14, _ => kit_ref ic15 tp15 ki1_14 (.inl nq1_14) | 15, _ => kit_ref ic16 tp16 ki1_15 (.inl nq1_15) | 16, _ => kit_ref ic17 tp17 ki1_16 (.inl nq1_16) | 17, _ => kit_ref ic18 tp18 ki1_17 (.inl nq1_17) | 18, _ => kit_ref ic19 tp19 ki1_18 (.inl nq1_18) | n + 19, h => absurd h (by omega)⟩, ⟨⟨x0_3, x1_3, x2_3, x3_3, x4_3, x5_3, x6_3, x7_3⟩, exm_ref hb0 ic0 tp0 fi3, kit_base ba3⟩, ⟨rfl, fun j hj => match j, hj with | 0, _ => kit_ref ic1 tp1 ki3_0 (.inl nq3_0) | 1, _ => kit_ref ic2 tp2 ki3_1 (.inl nq3_1) | 2, _ => kit_ref ic3 tp3 ki3_2 (.inr rfl) | 3, _ => kit_ref ic4 tp4 ki3_3 (.inl nq3_3) | 4, _ => kit_ref ic5 tp5 ki3_4 (.inl nq3_4) | 5, _ => kit_ref ic6 tp6 ki3_5 (.inl nq3_5) | 6, _ => kit_ref ic7 tp7 ki3_6 (.inl nq3_6) | 7, _ => kit_ref ic8 tp8 ki3_7 (.inl nq3_7) | 8, _ => kit_ref ic9 tp9 ki3_8 (.inl nq3_8) | 9, _ => kit_ref ic10 tp10 ki3_9 (.inl nq3_9) | 10, _ => kit_ref ic11 tp11 ki3_10 (.inl nq3_10) | 11, _ => kit_ref ic12 tp12 ki3_11 (.inl nq3_11) | 12, _ => kit_ref ic13 tp13 ki3_12 (.inl nq3_12) | 13, _ => kit_ref ic14 tp14 ki3_13 (.inl nq3_13) | 14, _ => kit_ref ic15 tp15 ki3_14 (.inl nq3_14) | 15, _ => kit_ref ic16 tp16 ki3_15 (.inl nq3_15) | 16, _ => kit_ref ic17 tp17 ki3_16 (.inl nq3_16) | 17, _ => kit_ref ic18 tp18 ki3_17 (.inl nq3_17) | 18, _ => kit_ref ic19 tp19 ki3_18 (.inl nq3_18) | n + 19, h => absurd h (by omega)⟩, exm_ref sb13 ic13 tp13 se13⟩
  have WC_BadBytes : HeC l.prog K mg "BadBytes" e1 e0 fH ccH cdaH "badbytes" := ⟨(⟨yx1, yo1, ys1, yt1, x3_1, yy, ⟨_, _, _, _, _, _, _, _, ⟨r0, r1, r2, r3, r4, r5, r6, r7, r8, r9, r10, r11, r12, r13, r14, r15, r16, u0h⟩, _, _, _, _, yl, yc, yq1, yq2, yT, rfl⟩, ⟨_, _, _, _, _, _, yd, ye, yf⟩, ⟨_, _, _, yg⟩, ic0, yv1, yj, yk, ym, yw1, ba1, ⟨x0_1, x1_1, x2_1, x3_1, x4_1, x5_1, x6_1, x7_1⟩, ic1, yr1, yn1, ⟨_, _, _, _, _, yz1, yza1, yzb1, yzc1⟩⟩ : HeTxt l.prog K e1 e0 fH ccH cdaH "badbytes"), yj1, PySem.W.mg_of X G m1, kp1, sb1, ty1⟩
  have WC_BadValue : HeC l.prog K mg "BadValue" e3 e0 fH ccH cdaH "badvalue" := ⟨(⟨yx3, yo3, ys3, yt3, x3_3, yy, ⟨_, _, _, _, _, _, _, _, ⟨r0, r1, r2, r3, r4, r5, r6, r7, r8, r9, r10, r11, r12, r13, r14, r15, r16, u0h⟩, _, _, _, _, yl, yc, yq1, yq2, yT, rfl⟩, ⟨_, _, _, _, _, _, yd, ye, yf⟩, ⟨_, _, _, yg⟩, ic0, yv3, yj, yk, ym, yw3, ba3, ⟨x0_3, x1_3, x2_3, x3_3, x4_3, x5_3, x6_3, x7_3⟩, ic3, yr3, yn3, ⟨_, _, _, _, _, yz3, yza3, yzb3, yzc3⟩⟩ : HeTxt l.prog K e3 e0 fH ccH cdaH "badvalue"), yj3, PySem.W.mg_of X G m3, kp3, sb3, ty3⟩
  have KR_BadSixty : KitRow K (fun i => [e0, e1, e2, e3, e4, e5, e6, e7, e8, e9, e10, e11, e12, e13, e14, e15, e16, e17, e18, e19].getD i e0) e13 [false, false, false, false, false, false, false, false, false, false, true, false, true, false, false, false, false, false, false] := ⟨rfl, fun j hj => match j, hj with | 0, _ => kit_ref ic1 tp1 ki13_0 (.inl nq13_0) | 1, _ => kit_ref ic2 tp2 ki13_1 (.inl nq13_1) | 2, _ => kit_ref ic3 tp3 ki13_2 (.inl nq13_2) | 3, _ => kit_ref ic4 tp4 ki13_3 (.inl nq13_3) | 4, _ => kit_ref ic5 tp5 ki13_4 (.inl nq13_4) | 5, _ => kit_ref ic6 tp6 ki13_5 (.inl nq13_5) | 6, _ => kit_ref ic7 tp7 ki13_6 (.inl nq13_6) | 7, _ => kit_ref ic8 tp8 ki13_7 (.inl nq13_7) | 8, _ => kit_ref ic9 tp9 ki13_8 (.inl nq13_8) | 9, _ => kit_ref ic10 tp10 ki13_9 (.inl nq13_9) | 10, _ => kit_ref ic11 tp11 ki13_10 (.inr rfl) | 11, _ => kit_ref ic12 tp12 ki13_11 (.inl nq13_11) | 12, _ => kit_ref ic13 tp13 ki13_12 (.inr rfl) | 13, _ => kit_ref ic14 tp14 ki13_13 (.inl nq13_13) | 14, _ => kit_ref ic15 tp15 ki13_14 (.inl nq13_14) | 15, _ => kit_ref ic16 tp16 ki13_15 (.inl nq13_15) | 16, _ => kit_ref ic17 tp17 ki13_16 (.inl nq13_16) | 17, _ => kit_ref ic18 tp18 ki13_17 (.inl nq13_17) | 18, _ => kit_ref ic19 tp19 ki13_18 (.inl nq13_18) | n + 19, h => absurd h (by omega)⟩
  have WC_BadSixty : WrC l.prog K mg "BadSixty" e13 e11 fI cc cda e0 fH ccH cdaH "badsixty" := ⟨⟨(⟨yx13, yo13, ys13, yt13, x3_13, yy, ⟨_, _, _, _, _, _, _, _, ⟨r0, r1, r2, r3, r4, r5, r6, r7, r8, r9, r10, r11, r12, r13, r14, r15, r16, u0h⟩, _, _, _, _, yl, yc, yq1, yq2, yT, rfl⟩, ⟨_, _, _, _, _, _, yd, ye, yf⟩, ⟨_, _, _, yg⟩, ic0, yv13, yj, yk, ym, yw13, ba13, ⟨x0_13, x1_13, x2_13, x3_13, x4_13, x5_13, x6_13, x7_13⟩, ic13, yr13, yn13, ⟨_, _, _, _, _, yz13, yza13, yzb13, yzc13⟩⟩ : HeTxt l.prog K e13 e0 fH ccH cdaH "badsixty"), wi13, wx13, wo13, ws13, wt13, wu13, x3_13, wn, ⟨_, _, _, _, _, _, _, ⟨q0, q1, q2, q3, q4, q5, q6, q7, q8, q9, q10, q11, q12, q13, q14, q15, q16, q17, q18, q19, q20, q21, q22, u0, u1⟩, wl, wc, wq⟩, ⟨_, _, _, _, _, _, wd, we, wf⟩, ⟨_, _, _, wg⟩, wh, wv13, wj, wk, wm, ww13, yfn, ba13⟩, PySem.W.mg_of X G m13, kp13, sb13, ty13⟩
  refine ⟨PySem.W.fnOf "law" "law" (defArgs s_law) (defBody s_law) (defScope s_law) .none kV43 dc43 pm43 an43 cd43 ct43, fun s v => .of_eq rfl, fun base _ _ => ?_⟩
  have D0 : Def l.prog w K mg base "_law_mixed" 1 f0 _ ["_law_cell_here", "_law_k"] sp_mixed := ⟨ok_mixed F0, PySem.W.mg_of X G a0, F0.kp, b0⟩
  have D1 : Def l.prog w K mg base "_law_cell" 1 f1 _ ["_law_script", "_law_k"] (sp_cell K) := ⟨ok_cell F1 T, PySem.W.mg_of X G a1, F1.kp, b1⟩
  have D2 : Def l.prog w K mg base "_law_bytes" 2 f2 _ ["_law_script"] (sp_lbytes K) := ⟨ok_lbytes F2 T D0 D1, PySem.W.mg_of X G a2, F2.kp, b2⟩
  have D3 : Def l.prog w K mg base "is_number" 1 f3 _ ["thing"] sp_is_number := ⟨ok_is_number F3 T, PySem.W.mg_of X G a3, F3.kp, b3⟩
  have D4 : Def l.prog w K mg base "is_bytes" 2 f4 _ ["thing"] (sp_is_bytesG K) := ⟨ok_is_bytesG F4 T D3, PySem.W.mg_of X G a4, F4.kp, b4⟩
  have DR4 : Def l.prog w K mg base "is_bytes" 2 f4 _ ["thing"] sp_is_bytes := ⟨ok_is_bytes D4.ok, PySem.W.mg_of X G a4, F4.kp, b4⟩
  have D5 : Def l.prog w K mg base "is_sign_byte" 1 f5 _ ["byte"] sp_sign_byte := ⟨ok_sign_byte F5 T, PySem.W.mg_of X G a5, F5.kp, b5⟩
  have D6 : Def l.prog w K mg base "sign_of_byte" 1 f6 _ ["byte"] sp_sign_of := ⟨ok_sign_of F6 T, PySem.W.mg_of X G a6, F6.kp, b6⟩
  have D7 : Def l.prog w K mg base "is_sign" 1 f7 _ ["sign"] sp_is_sign := ⟨ok_is_sign F7 T, PySem.W.mg_of X G a7, F7.kp, b7⟩
  have D8 : Def l.prog w K mg base "is_value" 2 f8 _ ["thing"] (sp_value K) := ⟨ok_value F8 T D7, PySem.W.mg_of X G a8, F8.kp, b8⟩
  have D9 : Def l.prog w K mg base "goes_into_rows" 1 f9 _ ["word"] sp_goes := ⟨ok_goes F9 T, PySem.W.mg_of X G a9, F9.kp, b9⟩
  have D10 : Def l.prog w K mg base "may_stand_plain" 3 f10 _ ["text"] sp_plain := ⟨ok_plain F10 T D8 D9, PySem.W.mg_of X G a10, F10.kp, b10⟩
  have D11 : Def l.prog w K mg base "four_of" 1 f11 _ ["row"] sp_four_of := ⟨ok_four_of F11 T, PySem.W.mg_of X G a11, F11.kp, b11⟩
  have D12 : Def l.prog w K mg base "sixty_of" 3 f12 _ ["row"] (sp_sixty_of ptext) := ⟨ok_sixty_of F12 T D4 D11, PySem.W.mg_of X G a12, F12.kp, b12⟩
  have D13 : Def l.prog w K mg base "word_of" 4 f13 _ ["row"] sp_word_of := ⟨ok_word_of F13 T D12, PySem.W.mg_of X G a13, F13.kp, b13⟩
  have D14 : Def l.prog w K mg base "value_of" 5 f14 _ ["row"] sp_value_of := ⟨ok_value_of F14 T DR4 D5 D6 D10 D13, PySem.W.mg_of X G a14, F14.kp, b14⟩
  have DX14 : DefX l.prog w K mg base "value_of" 5 f14 _ ["row"] (sp_valA K (fun i => [e0, e1, e2, e3, e4, e5, e6, e7, e8, e9, e10, e11, e12, e13, e14, e15, e16, e17, e18, e19].getD i e0)) := ⟨fn_or (ok_value_ofX (ca := (fun i => [e0, e1, e2, e3, e4, e5, e6, e7, e8, e9, e10, e11, e12, e13, e14, e15, e16, e17, e18, e19].getD i e0)) F14 T WC_BadBytes D4 D5 D6 D10 D13) (fn_toX (ok_value_of F14 T DR4 D5 D6 D10 D13)), PySem.W.mg_of X G a14, F14.kp, b14⟩
  have D15 : Def l.prog w K mg base "no_text_row" 1 f15 _ ["rows"] (sp_no_textX K) := ⟨ok_no_textX F15 T, PySem.W.mg_of X G a15, F15.kp, b15⟩
  have D16 : Def l.prog w K mg base "good_signs" 4 f16 _ ["row", "may_stand"] (sp_good l.prog w K mg base) := ⟨ok_good F16 T, PySem.W.mg_of X G a16, F16.kp, b16⟩
  have D17 : Def l.prog w K mg base "first_wrong" 5 f17 _ ["rows", "may_stand", "may_end"] (sp_first l.prog w K mg base) := ⟨ok_first F17 T D15 D16, PySem.W.mg_of X G a17, F17.kp, b17⟩
  have D18 : Def l.prog w K mg base "bits_of" 1 f18 _ ["sign"] sp_bits := ⟨ok_bits F18 T, PySem.W.mg_of X G a18, F18.kp, b18⟩
  have D19 : Def l.prog w K mg base "bytes_of_four" 2 f19 _ ["signs"] sp_four := ⟨ok_four F19 T D18, PySem.W.mg_of X G a19, F19.kp, b19⟩
  have D20 : Def l.prog w K mg base "may_fill" 2 f20 _ ["ahead"] sp_fill := ⟨ok_fill F20 T D18, PySem.W.mg_of X G a20, F20.kp, b20⟩
  have D21 : Def l.prog w K mg base "may_stand" 3 f21 _ ["sign", "ahead"] sp_stand := ⟨ok_stand F21 T D20, PySem.W.mg_of X G a21, F21.kp, b21⟩
  have D22 : Def l.prog w K mg base "may_end" 1 f22 _ ["row", "last"] sp_end := ⟨ok_end F22 T, PySem.W.mg_of X G a22, F22.kp, b22⟩
  have DX23 : DefX l.prog w K mg base "bytes_of_sixty" 6 f23 _ ["rows"] (sp_sixtyX K ((fun i => [e0, e1, e2, e3, e4, e5, e6, e7, e8, e9, e10, e11, e12, e13, e14, e15, e16, e17, e18, e19].getD i e0) 13)) := ⟨ok_sixtyX (ca := (fun i => [e0, e1, e2, e3, e4, e5, e6, e7, e8, e9, e10, e11, e12, e13, e14, e15, e16, e17, e18, e19].getD i e0)) F23 T WC_BadSixty D17 D19 D21 D22, PySem.W.mg_of X G a23, F23.kp, b23⟩
  have D24 : Def l.prog w K mg base "bytes_of_word" 7 f24 _ ["word"] sp_bword := ⟨ok_bword (ca := (fun i => [e0, e1, e2, e3, e4, e5, e6, e7, e8, e9, e10, e11, e12, e13, e14, e15, e16, e17, e18, e19].getD i e0)) F24 T E DX23, PySem.W.mg_of X G a24, F24.kp, b24⟩
  have D25 : Def l.prog w K mg base "bytes_of_signs" 1 f25 _ ["text"] sp_bsigns := ⟨ok_bsigns F25 T, PySem.W.mg_of X G a25, F25.kp, b25⟩
  have D26 : Def l.prog w K mg base "bytes_of_value" 8 f26 _ ["value"] sp_bvalue := ⟨ok_bvalue F26 T D8 D24 D25, PySem.W.mg_of X G a26, F26.kp, b26⟩
  have DX26 : DefX l.prog w K mg base "bytes_of_value" 8 f26 _ ["value"] (sp_bvA K (fun i => [e0, e1, e2, e3, e4, e5, e6, e7, e8, e9, e10, e11, e12, e13, e14, e15, e16, e17, e18, e19].getD i e0)) := ⟨fn_or (ok_bvalueX (ca := (fun i => [e0, e1, e2, e3, e4, e5, e6, e7, e8, e9, e10, e11, e12, e13, e14, e15, e16, e17, e18, e19].getD i e0)) F26 T WC_BadValue D8 D24 D25) (fn_toX (ok_bvalue F26 T D8 D24 D25)), PySem.W.mg_of X G a26, F26.kp, b26⟩
  have D27 : Def l.prog w K mg base "_law_kind" 1 f27 _ ["_law_e"] (sp_kind K (fun i => [e0, e1, e2, e3, e4, e5, e6, e7, e8, e9, e10, e11, e12, e13, e14, e15, e16, e17, e18, e19].getD i e0)) := ⟨ok_kind (ca := (fun i => [e0, e1, e2, e3, e4, e5, e6, e7, e8, e9, e10, e11, e12, e13, e14, e15, e16, e17, e18, e19].getD i e0)) F27 T E, PySem.W.mg_of X G a27, F27.kp, b27⟩
  have D28 : Def l.prog w K mg base "_law_told" 9 f28 _ ["_law_way", "_law_thing"] (sp_told K) := ⟨ok_told (ca := (fun i => [e0, e1, e2, e3, e4, e5, e6, e7, e8, e9, e10, e11, e12, e13, e14, e15, e16, e17, e18, e19].getD i e0)) F28 T E DX14 DX26 D27, PySem.W.mg_of X G a28, F28.kp, b28⟩
  have D29 : Def l.prog w K mg base "_law_is_plain" 1 f29 _ ["_law_row"] sp_lplain := ⟨ok_lplain F29 T, PySem.W.mg_of X G a29, F29.kp, b29⟩
  have D30 : Def l.prog w K mg base "_law_signs" 1 f30 _ [] sp_signs := ⟨ok_signs F30, PySem.W.mg_of X G a30, F30.kp, b30⟩
  have D31 : Def l.prog w K mg base "_law_bits" 1 f31 _ ["_law_number_here", "_law_many"] sp_lbits := ⟨ok_lbits F31 T, PySem.W.mg_of X G a31, F31.kp, b31⟩
  have D32 : Def l.prog w K mg base "_law_number" 1 f32 _ ["_law_bits_here"] sp_lnumber := ⟨ok_lnumber F32 T, PySem.W.mg_of X G a32, F32.kp, b32⟩
  have D33 : Def l.prog w K mg base "_law_sixty" 1 f33 _ [] sp_lsixty := ⟨ok_lsixty F33, PySem.W.mg_of X G a33, F33.kp, b33⟩
  have D34 : Def l.prog w K mg base "_law_in_sixty" 2 f34 _ ["_law_row"] sp_in_sixty := ⟨ok_in_sixty F34 T D31 D32 D33, PySem.W.mg_of X G a34, F34.kp, b34⟩
  have D35 : Def l.prog w K mg base "_law_value" 3 f35 _ ["_law_row"] sp_lvalue := ⟨ok_lvalue F35 T D29 D30 D34, PySem.W.mg_of X G a35, F35.kp, b35⟩
  have D36 : Def l.prog w K mg base "_law_word_bytes" 2 f36 _ ["_law_word"] sp_lword := ⟨ok_lword F36 T D33 D31 D32, PySem.W.mg_of X G a36, F36.kp, b36⟩
  have D37 : Def l.prog w K mg base "_law_sign_bytes" 2 f37 _ ["_law_text"] sp_lsignb := ⟨ok_lsignb F37 T D30, PySem.W.mg_of X G a37, F37.kp, b37⟩
  have D38 : Def l.prog w K mg base "_law_value_bytes" 3 f38 _ ["_law_value_here"] sp_lvalb := ⟨ok_lvalb F38 T D36 D37, PySem.W.mg_of X G a38, F38.kp, b38⟩
  have D39 : Def l.prog w K mg base "_law_whole" 1 f39 _ ["_law_found"] sp_whole := ⟨ok_whole F39 T, PySem.W.mg_of X G a39, F39.kp, b39⟩
  have D40 : Def l.prog w K mg base "_law_read_right" 10 f40 _ ["_law_value_here"] sp_rright := ⟨ok_rright F40 T D38 D28 D39, PySem.W.mg_of X G a40, F40.kp, b40⟩
  have D41 : Def l.prog w K mg base "_law_next" 1 f41 _ ["_law_number_here", "_law_k"] sp_next := ⟨ok_next F41, PySem.W.mg_of X G a41, F41.kp, b41⟩
  have D42 : Def l.prog w K mg base "_law_some_values" 3 f42 _ ["_law_row", "_law_script"] (sp_lsome K) := ⟨ok_lsome F42 T D0 D41 D34, PySem.W.mg_of X G a42, F42.kp, b42⟩
  exact ok_law F43 T D2 D0 D1 D28 D35 D38 D40 D42
end K09
open PySem PySem.W PyProof.Rows
set_option maxHeartbeats 0 in
theorem PySem.Challenge.cw_letterhouse_k09_values_of_bytes_holds : PySem.Challenge.rw_letterhouse_k09_values_of_bytes.Holds := by
  w_on; o_law; k_head; (case hw => w_witness2)
  k_fill
  refine L2.walk_of (l := PySem.Challenge.rw_letterhouse_k09_values_of_bytes) (n := 63) (k := 11) (x := "_law_script") (CX := fun _ => L2.CX0) (sp := fun w => K09.spLaw _) rfl (by decide) rfl ⟨rfl, by decide, by decide⟩ (fun w h Y => PySem.W.kIn_of Y) ?F (fun _ _ a ns hl _ hS => ⟨a, ns, rfl, hS, hl, fun _ => rfl⟩) (fun _ _ _ _ _ h => h)
  case F =>
    intro w mg fa h KX G hmg
    refine' K09.all_mk KX G hmg ?a0 ?l0 ?c0 ?k0 ?a1 ?l1 ?c1 ?k1 ?a2 ?l2 ?c2 ?k2 ?a3 ?l3 ?c3 ?k3 ?a4 ?l4 ?c4 ?k4 ?a5 ?l5 ?c5 ?k5 ?a6 ?l6 ?c6 ?k6 ?a7 ?l7 ?c7 ?k7 ?a8 ?l8 ?c8 ?k8 ?a9 ?l9 ?c9 ?k9 ?a10 ?l10 ?c10 ?k10 ?a11 ?l11 ?c11 ?k11 ?a12 ?l12 ?c12 ?k12 ?a13 ?l13 ?c13 ?k13 ?a14 ?l14 ?c14 ?k14 ?a15 ?l15 ?c15 ?k15 ?a16 ?l16 ?c16 ?k16 ?a17 ?l17 ?c17 ?k17 ?a18 ?l18 ?c18 ?k18 ?a19 ?l19 ?c19 ?k19 ?a20 ?l20 ?c20 ?k20 ?a21 ?l21 ?c21 ?k21 ?a22 ?l22 ?c22 ?k22 ?a23 ?l23 ?c23 ?k23 ?a24 ?l24 ?c24 ?k24 ?a25 ?l25 ?c25 ?k25 ?a26 ?l26 ?c26 ?k26 ?a27 ?l27 ?c27 ?k27 ?a28 ?l28 ?c28 ?k28 ?a29 ?l29 ?c29 ?k29 ?a30 ?l30 ?c30 ?k30 ?a31 ?l31 ?c31 ?k31 ?a32 ?l32 ?c32 ?k32 ?a33 ?l33 ?c33 ?k33 ?a34 ?l34 ?c34 ?k34 ?a35 ?l35 ?c35 ?k35 ?a36 ?l36 ?c36 ?k36 ?a37 ?l37 ?c37 ?k37 ?a38 ?l38 ?c38 ?k38 ?a39 ?l39 ?c39 ?k39 ?a40 ?l40 ?c40 ?k40 ?a41 ?l41 ?c41 ?k41 ?a42 ?l42 ?c42 ?k42 ?a43 ?l43 ?c43 ?k43 ?m0 ?m1 ?m2 ?m3 ?m4 ?m5 ?m6 ?m7 ?m8 ?m9 ?m10 ?m11 ?m12 ?m13 ?m14 ?m15 ?m16 ?m17 ?m18 ?m19 ?ic0 ?tp0 ?ic1 ?tp1 ?ic2 ?tp2 ?ic3 ?tp3 ?ic4 ?tp4 ?ic5 ?tp5 ?ic6 ?tp6 ?ic7 ?tp7 ?ic8 ?tp8 ?ic9 ?tp9 ?ic10 ?tp10 ?ic11 ?tp11 ?ic12 ?tp12 ?ic13 ?tp13 ?ic14 ?tp14 ?ic15 ?tp15 ?ic16 ?tp16 ?ic17 ?tp17 ?ic18 ?tp18 ?ic19 ?tp19 ?se13 ?hb0 ?kp1 ?sb1 ?ty1 ?x0_1 ?x1_1 ?x2_1 ?x3_1 ?x4_1 ?x5_1 ?x6_1 ?x7_1 ?fi1 ?ba1 ?ki1_0 ?ki1_1 ?nq1_1 ?ki1_2 ?nq1_2 ?ki1_3 ?nq1_3 ?ki1_4 ?nq1_4 ?ki1_5 ?nq1_5 ?ki1_6 ?nq1_6 ?ki1_7 ?nq1_7 ?ki1_8 ?nq1_8 ?ki1_9 ?nq1_9 ?ki1_10 ?nq1_10 ?ki1_11 ?nq1_11 ?ki1_12 ?nq1_12 ?ki1_13 ?nq1_13 ?ki1_14 ?nq1_14 ?ki1_15 ?nq1_15 ?ki1_16 ?nq1_16 ?ki1_17 ?nq1_17 ?ki1_18 ?nq1_18 ?kp3 ?sb3 ?ty3 ?x0_3 ?x1_3 ?x2_3 ?x3_3 ?x4_3 ?x5_3 ?x6_3 ?x7_3 ?fi3 ?ba3 ?ki3_0 ?nq3_0 ?ki3_1 ?nq3_1 ?ki3_2 ?ki3_3 ?nq3_3 ?ki3_4 ?nq3_4 ?ki3_5 ?nq3_5 ?ki3_6 ?nq3_6 ?ki3_7 ?nq3_7 ?ki3_8 ?nq3_8 ?ki3_9 ?nq3_9 ?ki3_10 ?nq3_10 ?ki3_11 ?nq3_11 ?ki3_12 ?nq3_12 ?ki3_13 ?nq3_13 ?ki3_14 ?nq3_14 ?ki3_15 ?nq3_15 ?ki3_16 ?nq3_16 ?ki3_17 ?nq3_17 ?ki3_18 ?nq3_18 ?kp13 ?sb13 ?ty13 ?x0_13 ?x1_13 ?x2_13 ?x3_13 ?x4_13 ?x5_13 ?x6_13 ?x7_13 ?fi13 ?ba13 ?ki13_0 ?nq13_0 ?ki13_1 ?nq13_1 ?ki13_2 ?nq13_2 ?ki13_3 ?nq13_3 ?ki13_4 ?nq13_4 ?ki13_5 ?nq13_5 ?ki13_6 ?nq13_6 ?ki13_7 ?nq13_7 ?ki13_8 ?nq13_8 ?ki13_9 ?nq13_9 ?ki13_10 ?ki13_11 ?nq13_11 ?ki13_12 ?ki13_13 ?nq13_13 ?ki13_14 ?nq13_14 ?ki13_15 ?nq13_15 ?ki13_16 ?nq13_16 ?ki13_17 ?nq13_17 ?ki13_18 ?nq13_18 ?nl13 ?np13 ?yi ?yl ?yc ?yq1 ?yq2 ?yT ?yd ?ye ?yf ?yg ?yy ?yfn ?yj ?yk ?ym ?yj1 ?yx1 ?yo1 ?ys1 ?yt1 ?yv1 ?yw1 ?yr1 ?yn1 ?yz1 ?yza1 ?yzb1 ?yzc1 ?yj3 ?yx3 ?yo3 ?ys3 ?yt3 ?yv3 ?yw3 ?yr3 ?yn3 ?yz3 ?yza3 ?yzb3 ?yzc3 ?yx13 ?yo13 ?ys13 ?yt13 ?yv13 ?yw13 ?yr13 ?yn13 ?yz13 ?yza13 ?yzb13 ?yzc13 ?wi ?wl ?wc ?wq ?wd ?we ?wf ?wg ?wh ?wj ?wk ?wm ?wn ?wi13 ?wx13 ?wo13 ?ws13 ?wt13 ?wu13 ?wv13 ?ww13 ?z0 ?z1 ?z2 ?z3 ?z4 ?z5 ?z6 ?z7 ?z8 ?z9 ?z10 ?z11 ?z12 ?z13 ?z14 ?v0 ?v1 ?v2 ?v3 ?v4 ?v5 ?v6 ?v7 ?v8
    (case a0 => k_is); (case l0 => k_is); (case c0 => k_is); (case k0 => k_is); (case a1 => k_is); (case l1 => k_is); (case c1 => k_is); (case k1 => k_is); (case a2 => k_is); (case l2 => k_is); (case c2 => k_is); (case k2 => k_is); (case a3 => k_is); (case l3 => k_is); (case c3 => k_is); (case k3 => k_is); (case a4 => k_is); (case l4 => k_is); (case c4 => k_is); (case k4 => k_is); (case a5 => k_is); (case l5 => k_is); (case c5 => k_is); (case k5 => k_is); (case a6 => k_is); (case l6 => k_is); (case c6 => k_is); (case k6 => k_is); (case a7 => k_is); (case l7 => k_is); (case c7 => k_is); (case k7 => k_is); (case a8 => k_is); (case l8 => k_is); (case c8 => k_is); (case k8 => k_is); (case a9 => k_is); (case l9 => k_is); (case c9 => k_is); (case k9 => k_is); (case a10 => k_is); (case l10 => k_is); (case c10 => k_is); (case k10 => k_is); (case a11 => k_is); (case l11 => k_is); (case c11 => k_is); (case k11 => k_is); (case a12 => k_is); (case l12 => k_is); (case c12 => k_is); (case k12 => k_is); (case a13 => k_is); (case l13 => k_is); (case c13 => k_is); (case k13 => k_is); (case a14 => k_is); (case l14 => k_is); (case c14 => k_is); (case k14 => k_is); (case a15 => k_is); (case l15 => k_is); (case c15 => k_is); (case k15 => k_is); (case a16 => k_is); (case l16 => k_is); (case c16 => k_is); (case k16 => k_is); (case a17 => k_is); (case l17 => k_is); (case c17 => k_is); (case k17 => k_is); (case a18 => k_is); (case l18 => k_is); (case c18 => k_is); (case k18 => k_is); (case a19 => k_is); (case l19 => k_is); (case c19 => k_is); (case k19 => k_is); (case a20 => k_is); (case l20 => k_is); (case c20 => k_is); (case k20 => k_is); (case a21 => k_is); (case l21 => k_is); (case c21 => k_is); (case k21 => k_is); (case a22 => k_is); (case l22 => k_is); (case c22 => k_is); (case k22 => k_is); (case a23 => k_is); (case l23 => k_is); (case c23 => k_is); (case k23 => k_is); (case a24 => k_is); (case l24 => k_is); (case c24 => k_is); (case k24 => k_is); (case a25 => k_is); (case l25 => k_is); (case c25 => k_is); (case k25 => k_is); (case a26 => k_is); (case l26 => k_is); (case c26 => k_is); (case k26 => k_is); (case a27 => k_is); (case l27 => k_is); (case c27 => k_is); (case k27 => k_is); (case a28 => k_is); (case l28 => k_is); (case c28 => k_is); (case k28 => k_is); (case a29 => k_is); (case l29 => k_is); (case c29 => k_is); (case k29 => k_is); (case a30 => k_is); (case l30 => k_is); (case c30 => k_is); (case k30 => k_is); (case a31 => k_is); (case l31 => k_is); (case c31 => k_is); (case k31 => k_is); (case a32 => k_is); (case l32 => k_is); (case c32 => k_is); (case k32 => k_is); (case a33 => k_is); (case l33 => k_is); (case c33 => k_is); (case k33 => k_is); (case a34 => k_is); (case l34 => k_is); (case c34 => k_is); (case k34 => k_is); (case a35 => k_is); (case l35 => k_is); (case c35 => k_is); (case k35 => k_is); (case a36 => k_is); (case l36 => k_is); (case c36 => k_is); (case k36 => k_is); (case a37 => k_is); (case l37 => k_is); (case c37 => k_is); (case k37 => k_is); (case a38 => k_is); (case l38 => k_is); (case c38 => k_is); (case k38 => k_is); (case a39 => k_is); (case l39 => k_is); (case c39 => k_is); (case k39 => k_is); (case a40 => k_is); (case l40 => k_is); (case c40 => k_is); (case k40 => k_is); (case a41 => k_is); (case l41 => k_is); (case c41 => k_is); (case k41 => k_is); (case a42 => k_is); (case l42 => k_is); (case c42 => k_is); (case k42 => k_is); (case a43 => k_is); (case l43 => k_is); (case c43 => k_is); (case k43 => k_is); (case m0 => k_is); (case m1 => k_is); (case m2 => k_is); (case m3 => k_is); (case m4 => k_is); (case m5 => k_is); (case m6 => k_is); (case m7 => k_is); (case m8 => k_is); (case m9 => k_is); (case m10 => k_is); (case m11 => k_is); (case m12 => k_is); (case m13 => k_is); (case m14 => k_is); (case m15 => k_is); (case m16 => k_is); (case m17 => k_is); (case m18 => k_is); (case m19 => k_is); (case ic0 => k_is); (case tp0 => k_is); (case ic1 => k_is); (case tp1 => k_is); (case ic2 => k_is); (case tp2 => k_is); (case ic3 => k_is); (case tp3 => k_is); (case ic4 => k_is); (case tp4 => k_is); (case ic5 => k_is); (case tp5 => k_is); (case ic6 => k_is); (case tp6 => k_is); (case ic7 => k_is); (case tp7 => k_is); (case ic8 => k_is); (case tp8 => k_is); (case ic9 => k_is); (case tp9 => k_is); (case ic10 => k_is); (case tp10 => k_is); (case ic11 => k_is); (case tp11 => k_is); (case ic12 => k_is); (case tp12 => k_is); (case ic13 => k_is); (case tp13 => k_is); (case ic14 => k_is); (case tp14 => k_is); (case ic15 => k_is); (case tp15 => k_is); (case ic16 => k_is); (case tp16 => k_is); (case ic17 => k_is); (case tp17 => k_is); (case ic18 => k_is); (case tp18 => k_is); (case ic19 => k_is); (case tp19 => k_is); (case se13 => k_is); (case hb0 => k_is); (case kp1 => k_is); (case sb1 => k_is); (case ty1 => k_is); (case x0_1 => k_is); (case x1_1 => k_is); (case x2_1 => k_is); (case x3_1 => k_is); (case x4_1 => k_is); (case x5_1 => k_is); (case x6_1 => k_is); (case x7_1 => k_is); (case fi1 => k_is); (case ba1 => k_is); (case ki1_0 => k_is); (case ki1_1 => k_is); (case nq1_1 => exact rfl); (case ki1_2 => k_is); (case nq1_2 => exact rfl); (case ki1_3 => k_is); (case nq1_3 => exact rfl); (case ki1_4 => k_is); (case nq1_4 => exact rfl); (case ki1_5 => k_is); (case nq1_5 => exact rfl); (case ki1_6 => k_is); (case nq1_6 => exact rfl); (case ki1_7 => k_is); (case nq1_7 => exact rfl); (case ki1_8 => k_is); (case nq1_8 => exact rfl); (case ki1_9 => k_is); (case nq1_9 => exact rfl); (case ki1_10 => k_is); (case nq1_10 => exact rfl); (case ki1_11 => k_is); (case nq1_11 => exact rfl); (case ki1_12 => k_is); (case nq1_12 => exact rfl); (case ki1_13 => k_is); (case nq1_13 => exact rfl); (case ki1_14 => k_is); (case nq1_14 => exact rfl); (case ki1_15 => k_is); (case nq1_15 => exact rfl); (case ki1_16 => k_is); (case nq1_16 => exact rfl); (case ki1_17 => k_is); (case nq1_17 => exact rfl); (case ki1_18 => k_is); (case nq1_18 => exact rfl); (case kp3 => k_is); (case sb3 => k_is); (case ty3 => k_is); (case x0_3 => k_is); (case x1_3 => k_is); (case x2_3 => k_is); (case x3_3 => k_is); (case x4_3 => k_is); (case x5_3 => k_is); (case x6_3 => k_is); (case x7_3 => k_is); (case fi3 => k_is); (case ba3 => k_is); (case ki3_0 => k_is); (case nq3_0 => exact rfl); (case ki3_1 => k_is); (case nq3_1 => exact rfl); (case ki3_2 => k_is); (case ki3_3 => k_is); (case nq3_3 => exact rfl); (case ki3_4 => k_is); (case nq3_4 => exact rfl); (case ki3_5 => k_is); (case nq3_5 => exact rfl); (case ki3_6 => k_is); (case nq3_6 => exact rfl); (case ki3_7 => k_is); (case nq3_7 => exact rfl); (case ki3_8 => k_is); (case nq3_8 => exact rfl); (case ki3_9 => k_is); (case nq3_9 => exact rfl); (case ki3_10 => k_is); (case nq3_10 => exact rfl); (case ki3_11 => k_is); (case nq3_11 => exact rfl); (case ki3_12 => k_is); (case nq3_12 => exact rfl); (case ki3_13 => k_is); (case nq3_13 => exact rfl); (case ki3_14 => k_is); (case nq3_14 => exact rfl); (case ki3_15 => k_is); (case nq3_15 => exact rfl); (case ki3_16 => k_is); (case nq3_16 => exact rfl); (case ki3_17 => k_is); (case nq3_17 => exact rfl); (case ki3_18 => k_is); (case nq3_18 => exact rfl); (case kp13 => k_is); (case sb13 => k_is); (case ty13 => k_is); (case x0_13 => k_is); (case x1_13 => k_is); (case x2_13 => k_is); (case x3_13 => k_is); (case x4_13 => k_is); (case x5_13 => k_is); (case x6_13 => k_is); (case x7_13 => k_is); (case fi13 => k_is); (case ba13 => k_is); (case ki13_0 => k_is); (case nq13_0 => exact rfl); (case ki13_1 => k_is); (case nq13_1 => exact rfl); (case ki13_2 => k_is); (case nq13_2 => exact rfl); (case ki13_3 => k_is); (case nq13_3 => exact rfl); (case ki13_4 => k_is); (case nq13_4 => exact rfl); (case ki13_5 => k_is); (case nq13_5 => exact rfl); (case ki13_6 => k_is); (case nq13_6 => exact rfl); (case ki13_7 => k_is); (case nq13_7 => exact rfl); (case ki13_8 => k_is); (case nq13_8 => exact rfl); (case ki13_9 => k_is); (case nq13_9 => exact rfl); (case ki13_10 => k_is); (case ki13_11 => k_is); (case nq13_11 => exact rfl); (case ki13_12 => k_is); (case ki13_13 => k_is); (case nq13_13 => exact rfl); (case ki13_14 => k_is); (case nq13_14 => exact rfl); (case ki13_15 => k_is); (case nq13_15 => exact rfl); (case ki13_16 => k_is); (case nq13_16 => exact rfl); (case ki13_17 => k_is); (case nq13_17 => exact rfl); (case ki13_18 => k_is); (case nq13_18 => exact rfl); (case nl13 => k_is); (case np13 => k_is); (case yi => k_is); (case yl => k_is); (case yc => k_is); (case yq1 => exact rfl); (case yq2 => exact rfl); (case yT => k_is); (case yd => k_is); (case ye => exact rfl); (case yf => decide +kernel); (case yg => k_is); (case yy => k_is); (case yfn => k_is); (case yj => k_is); (case yk => decide +kernel); (case ym => k_is); (case yj1 => k_is); (case yx1 => kx_is); (case yo1 => kx_is); (case ys1 => k_is); (case yt1 => k_is); (case yv1 => k_is); (case yw1 => ks_is); (case yr1 => k_is); (case yn1 => k_is); (case yz1 => k_is); (case yza1 => exact rfl); (case yzb1 => decide +kernel); (case yzc1 => decide +kernel); (case yj3 => k_is); (case yx3 => kx_is); (case yo3 => kx_is); (case ys3 => k_is); (case yt3 => k_is); (case yv3 => k_is); (case yw3 => ks_is); (case yr3 => k_is); (case yn3 => k_is); (case yz3 => k_is); (case yza3 => exact rfl); (case yzb3 => decide +kernel); (case yzc3 => decide +kernel); (case yx13 => kx_is); (case yo13 => kx_is); (case ys13 => k_is); (case yt13 => k_is); (case yv13 => k_is); (case yw13 => ks_is); (case yr13 => k_is); (case yn13 => k_is); (case yz13 => k_is); (case yza13 => exact rfl); (case yzb13 => decide +kernel); (case yzc13 => decide +kernel); (case wi => k_is); (case wl => k_is); (case wc => k_is); (case wq => exact rfl); (case wd => k_is); (case we => exact rfl); (case wf => decide +kernel); (case wg => k_is); (case wh => k_is); (case wj => k_is); (case wk => decide +kernel); (case wm => k_is); (case wn => k_is); (case wi13 => k_is); (case wx13 => kx_is); (case wo13 => kx_is); (case ws13 => k_is); (case wt13 => k_is); (case wu13 => k_is); (case wv13 => k_is); (case ww13 => ks_is); (case z0 => k_is); (case z1 => k_is); (case z2 => k_is); (case z3 => k_is); (case z4 => k_is); (case z5 => k_is); (case z6 => k_is); (case z7 => k_is); (case z8 => k_is); (case z9 => k_is); (case z10 => k_is); (case z11 => k_is); (case z12 => k_is); (case z13 => k_is); (case z14 => k_is); (case v0 => k_is); (case v1 => k_is); (case v2 => k_is); (case v3 => k_is); (case v4 => k_is); (case v5 => k_is); (case v6 => k_is); (case v7 => k_is); (case v8 => k_is)

