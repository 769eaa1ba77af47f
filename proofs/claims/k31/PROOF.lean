import PyProof.Rows.All
import Wide.All
import OpenK.AllK
import Wide.FinOn
import HandS.ForMost
import HandS.Walk
import HandS.IsInst
import HandS.TupAny
import KE.KTupSum
import HandS.StrMore
import HandS.FStr
import PyProof.Rows.StrIntSpec
import PyProof.FString3
import KE.KxField
import KE.GoesMore
import HandS.MapJoin
import HandS.Style
import HandS.Codes
import HandS.Deep
import HandS.Replace
import PyProof.RulesMatch
import HandS.ReplaceLit
import PyProof.ToksMono
import HandS.ForExc
import HandS.ExcIs
import HandS.ReplaceList
import HandS.ReplaceDef
import HandS.Defaults
import HandS.StrSplit
import PySem.Challenge.RW_letterhouse_k31_rules_read
set_option Elab.async false
set_option linter.all false
set_option maxRecDepth 100000
namespace LH
open PySem PySem.Spec PyProof.Rows L2
/-! ### heaps -/
theorem same_upd {H : Hp} {p : Addr} {o : HO} (h : H p = none) : Same H (upd H p o) := fun b x e => by
  rw [upd_ne (ne_of_none e h)]
  exact e
theorem seqT {K : PySem.W.Frag} {H H' : Hp} {a : Addr} {xs : List V} (e : Same H H') (h : SqT K H a xs) : SqT K H' a xs := by
  rcases h with (h | ⟨o, h⟩) | h
  · exact .inl (.inl (e _ _ h))
  · exact .inl (.inr ⟨o, e _ _ h⟩)
  · exact .inr h
/-- a list that is told new, in a heap that keeps all that stood -/
def New (H : Hp) (xs : List V) (Q : VK) : Prop := ∀ H' p, Same H H' → H p = none → H' p = some (.lst xs) → Q (.ref p) H'
/-- a value that is told in a heap that keeps all that stood -/
def Tell (H : Hp) (v : V) (Q : VK) : Prop := ∀ H', Same H H' → Q v H'
/-! ### a comprehension over anything that yields xs 0 .. xs (n - 1), its element f i -/
theorem lc_pure {J : It} {n : Nat} {G : Hp → Prop} {te : TE} {c : Nat} {σ : L2.St} {H1 : Hp} {D : Addr} {Qd : Hp → Prop} (xs f : Nat → V) (w : Walk J n G (YFn xs)) (hG : ∀ H, Same H1 H → G H) (hD : H1 D = none) (hn : n ≤ sizeLine)
    (he : ∀ i H Q, i < n → Same H1 H → Tell H (f i) Q → te ((σ.set c none).set c (some (xs i))) H Q)
    (hd : ∀ H, Same H1 H → H D = some (.lst ((List.range n).map f)) → Qd H) :
    ∃ W : Nat → Nat → Hp → Prop, (∃ m, W 0 m (upd H1 D (.lst []))) ∧ ∀ i m H, W i m H →
      (J.stop i H ∧ Qd H) ∨ (J.go i H ∧ ∃ Nx : Hp → Prop, (∀ H', Nx H' → ∃ m', m' < m ∧ W (i + 1) m' H') ∧ ∀ x H', J.yld i H x H' → gName c x (wipe σ [c]) H' fun σ2 H2 => wipe σ2 [c] = wipe σ [c] ∧ tYes σ2 H2 fun b H3 =>
        if b = true then te σ2 H3 fun y H4 => ∃ acc, H4 D = some (.lst acc) ∧ acc.length < sizeLine ∧ Nx (upd H4 D (.lst (acc ++ [y]))) else Nx H3) := by
  refine lc_it w (fun i H => Same H1 H ∧ H D = some (.lst ((List.range i).map f))) ⟨same_upd hD, upd_same⟩ (fun i H _ h => hG H h.1) (fun i x H H' hi hP hy => ?_) (fun H h => hd H h.1 h.2)
  obtain ⟨sm, eD⟩ := hP
  obtain ⟨rfl, rfl⟩ := hy
  refine ⟨?_, ?_⟩
  rotate_left
  · show (if true = true then te ((σ.set c none).set c (some (xs i))) H' fun y H4 => ∃ acc, H4 D = some (.lst acc) ∧ acc.length < sizeLine ∧ Same H1 (upd H4 D (.lst (acc ++ [y]))) ∧ upd H4 D (.lst (acc ++ [y])) D = some (.lst ((List.range (i + 1)).map f)) else (Same H1 H' ∧ H' D = some (.lst ((List.range (i + 1)).map f))))
    rw [if_pos rfl]
    refine he i H' _ hi sm fun H2 s2 => ⟨_, s2 _ _ eD, ?_, ?_, ?_⟩
    · rw [List.length_map, List.length_range]
      omega
    · intro b o hb
      rw [upd_ne (ne_of_none hb hD)]
      exact s2 _ _ (sm _ _ hb)
    · rw [upd_same, List.range_succ, List.map_append]
      rfl
  · show (((σ.set c none).set c (some (xs i))).set c none) = σ.set c none
    rw [List.set_set, List.set_set]
/-! ### a def as its callers see it -/
structure Def (P : Program) (w : World) (K : PySem.W.Frag) (mg : Str → Option Value) (base : Heap) (x : Str) (k : Nat) (f : Addr) (fd : FuncData) (ps : List Str) (sp : Sp) : Prop where
  ok : FnOk P w K mg base CX0 k f fd ps sp
  mg : mg x = some (.ref f)
  kp : PySem.W.keepIn K (.ref f) = true
  bd : Binds K fd ps []
section
variable {X : Cx} {x : Str} {k j : Nat} {f : Addr} {fd : FuncData} {ps : List Str} {sp : Sp} {e : Expr} {es : List Expr} {t : TA} {p pos : Pos}
theorem pe_def (D : Def X.prog X.w X.K X.mg X.base x k f fd ps sp) (hr : Room k X.A) (ha : PA X (e :: es) t) (hg : Gl X x := by rfl) (hdb : (x == ("__debug__" : Str)) = false := by decide)
    (he : starEach (e :: es) X.env = (false, eval e X.env) :: starEach es X.env := by rfl) (hpl : (backTo pos (starEach es X.env)).any (·.1) = false := by rfl) : PE X (.Call (.Name x p) (e :: es) [] pos) (tCall sp [] E0 t) :=
  pe_call D.ok hr hg D.mg D.kp D.bd .nil pass0 ha hdb he hpl
theorem pe_def0 (D : Def X.prog X.w X.K X.mg X.base x k f fd ps sp) (hr : Room k X.A) (hg : Gl X x := by rfl) (hdb : (x == ("__debug__" : Str)) = false := by decide) : PE X (.Call (.Name x p) [] [] pos) (tCall sp [] E0 tNil) :=
  pe_call0 D.ok hr hg D.mg D.kp D.bd .nil pass0 hdb
end
/-! ### a text times a number -/
section
variable {X : Cx}
def repS (x : Str) (n : Int) : Str := ⟨(List.replicate n.toNat x.cps.toList).flatten.toArray⟩
theorem foldl_app (l : List (Array Nat)) : ∀ a : Array Nat, (l.foldl (· ++ ·) a).toList = a.toList ++ (l.map (·.toList)).flatten := by
  induction l with
  | nil => intro a; simp
  | cons x r ih => intro a; simp [ih]
theorem mul_rep (x : Str) (n : Int) : Txt.mul x n = repS x n := by
  unfold Txt.mul repS
  by_cases h : n < 1
  · rw [if_pos h, show n.toNat = 0 by omega]
    rfl
  · rw [if_neg h]
    by_cases h2 : (n == 1 || x.length == 0) = true
    · rw [if_pos h2]
      refine TL.ext_tl ?_
      show x.cps.toList = (List.replicate n.toNat x.cps.toList).flatten
      rcases (Bool.or_eq_true _ _).mp h2 with e | e
      · have : n = 1 := eq_of_beq e
        subst this
        simp
      · have : x.cps.toList = [] := by
          have e' : x.length = 0 := eq_of_beq e
          have e3 : x.cps.toList.length = 0 := by simpa [Str.length] using e'
          exact List.length_eq_zero_iff.mp e3
        rw [this]
        simp
    · rw [if_neg h2]
      refine TL.ext_tl ?_
      show ((List.replicate n.toNat x.cps).foldl (· ++ ·) #[]).toList = (List.replicate n.toNat x.cps.toList).flatten
      rw [foldl_app]
      simp
theorem op_mul_str : OpR X (binaryOp .Mult) (fun x y H Q => ∃ z n, x = .str z ∧ y = .int n ∧ -(2 ^ 63) ≤ n ∧ n ≤ 4096 ∧ z.length ≤ 4096 ∧ Q (.str (repS z n)) H) := by
  intro pins s σ H x y v u Q I rx ry h
  obtain ⟨z, n, rfl, rfl, h0, h1, h2, q⟩ := h
  obtain ⟨t, rfl⟩ := rx
  obtain ⟨t', rfl⟩ := ry
  refine SB.mul (mulOk_of 4096 4096 h2 (by exact_mod_cast h1) h0 (by decide) (by decide)) fun t2 k => ?_
  rw [mul_rep]
  exact ⟨.str (repS z n), H, I.tok _, ⟨_, rfl⟩, q⟩
end
/-! ### chunks -/
def chunks {α : Type} (k : Nat) (t : List α) : List (List α) := (List.range ((t.length + (k - 1)) / k)).map fun i => (t.drop (i * k)).take k
theorem chunks_nil {α : Type} {k : Nat} (hk : 0 < k) : chunks k ([] : List α) = [] := by
  unfold chunks
  rw [show (([] : List α).length + (k - 1)) / k = 0 from Nat.div_eq_of_lt (by simp; omega)]
  rfl
theorem chunks_cons {α : Type} {k : Nat} (hk : 0 < k) {t : List α} (ht : t ≠ []) : chunks k t = t.take k :: chunks k (t.drop k) := by
  unfold chunks
  have hl : 0 < t.length := List.length_pos_iff.mpr ht
  have e : (t.length + (k - 1)) / k = ((t.drop k).length + (k - 1)) / k + 1 := by
    rw [List.length_drop]
    by_cases h : t.length ≤ k
    · rw [show t.length - k = 0 by omega, show (0 + (k - 1)) / k = 0 from Nat.div_eq_of_lt (by omega)]
      exact Nat.div_eq_of_lt_le (by omega) (by omega)
    · rw [show t.length + (k - 1) = (t.length - k + (k - 1)) + k by omega, Nat.add_div_right _ hk]
  rw [e, List.range_succ_eq_map, List.map_cons, List.map_map]
  congr 1
  · simp
  · refine List.map_congr_left fun i _ => ?_
    show (t.drop ((i + 1) * k)).take k = ((t.drop k).drop (i * k)).take k
    rw [List.drop_drop, Nat.succ_mul, Nat.add_comm]
/-! ### slices and ranges -/
theorem cutS_at (z : Str) (a b : Nat) : cutS z (some (a : Int)) (some (b : Int)) = ⟨((TL.tl z).drop a |>.take (b - a)).toArray⟩ := by
  unfold cutS
  rw [HT.sIx_nat, HT.sIx_nat]
  refine TL.ext_tl ?_
  show ((TL.tl z).drop (min a z.length)).take (min b z.length - min a z.length) = ((TL.tl z).drop a).take (b - a)
  have hz : z.length = (TL.tl z).length := TL.len_tl z
  rw [hz]
  generalize TL.tl z = l
  by_cases h : a ≤ l.length
  · rw [Nat.min_eq_left h]
    by_cases h2 : b ≤ l.length
    · rw [Nat.min_eq_left h2]
    · rw [Nat.min_eq_right (by omega), List.take_of_length_le (by rw [List.length_drop]; omega), List.take_of_length_le (by rw [List.length_drop]; omega)]
  · have h' : l.length ≤ a := by omega
    rw [Nat.min_eq_right h', List.drop_of_length_le (Nat.le_refl _), List.drop_of_length_le h']
    simp
theorem cutV_at (z : List V) (a b : Nat) : cutV z (some (a : Int)) (some (b : Int)) = (z.drop a).take (b - a) := by
  unfold cutV
  rw [HT.sIx_nat, HT.sIx_nat]
  by_cases h : a ≤ z.length
  · rw [Nat.min_eq_left h]
    by_cases h2 : b ≤ z.length
    · rw [Nat.min_eq_left h2]
    · rw [Nat.min_eq_right (by omega), List.take_of_length_le (by rw [List.length_drop]; omega), List.take_of_length_le (by rw [List.length_drop]; omega)]
  · have h' : z.length ≤ a := by omega
    rw [Nat.min_eq_right h', List.drop_of_length_le (Nat.le_refl _), List.drop_of_length_le h']
    simp
theorem cutV_to (z : List V) (b : Nat) : cutV z none (some (b : Int)) = z.take b := by
  unfold cutV
  rw [HT.sIx_nat, HT.sIx_none]
  by_cases h2 : b ≤ z.length
  · rw [Nat.min_eq_left h2]; simp
  · rw [Nat.min_eq_right (by omega), List.take_of_length_le (by simp), List.take_of_length_le (by omega)]; simp
theorem cutS_to (z : Str) (b : Nat) : cutS z none (some (b : Int)) = ⟨((TL.tl z).take b).toArray⟩ := by
  have := cutS_at z 0 b
  have e : cutS z none (some (b : Int)) = cutS z (some ((0 : Nat) : Int)) (some (b : Int)) := by
    unfold cutS
    rw [HT.sIx_none, HT.sIx_nat, HT.sIx_nat, Nat.zero_min]
  rw [e, this]
  simp
theorem cutS_from (z : Str) (a : Nat) : cutS z (some (a : Int)) none = ⟨((TL.tl z).drop a).toArray⟩ := by
  have e : cutS z (some (a : Int)) none = cutS z (some (a : Int)) (some ((z.length : Nat) : Int)) := by
    unfold cutS
    rw [HT.sIx_none, HT.sIx_nat, HT.sIx_nat]
    simp
  rw [e, cutS_at, TL.len_tl, List.take_of_length_le (by simp)]
theorem rgC (n k : Nat) (hk : 0 < k) (hk2 : k < 1000) (hn : n < 2 ^ 40) : RgC 0 (n : Int) (k : Int) ((n + (k - 1)) / k) := by
  refine ⟨by omega, by omega, ?_, ?_⟩
  · have e := rangeSize_pos (len := (n : Int)) (c := (k : Int)) (by omega) (by omega)
    have q : ((n : Int) + (k : Int) - 1) / (k : Int) ≤ (n : Int) + (k : Int) - 1 := Int.ediv_le_self _ (by omega)
    have q0 : 0 ≤ ((n : Int) + (k : Int) - 1) / (k : Int) := Int.ediv_nonneg (by omega) (by omega)
    unfold Builtin.Range.small
    rw [e]
    simp only [Builtin.Range.rangeFitsLong, Bool.and_eq_true, Bool.or_eq_true, decide_eq_true_eq, beq_iff_eq, show ((k : Int) > 0) by omega, if_true]
    have p1 : (0:Int) < 2 ^ 63 := by decide
    omega
  · rw [rangeSize_pos (by omega) (by omega)]
    rw [show (n : Int) + (k : Int) - 1 = ((n + (k - 1) : Nat) : Int) by omega]
    exact (Int.natCast_ediv _ _).symm
end LH
namespace LH
open PySem PySem.Spec PyProof.Rows L2
theorem walk_listF {K : PySem.W.Frag} {a : Addr} {xs : List V} : Walk (Itl K a) xs.length (fun H => SqL K H a xs) (YFn fun i => xs.getD i .non) :=
  walk_list.mono (fun _ h => h) fun i H x H' hi _ y => ⟨y.1, by show x = xs.getD i .non; rw [List.getD_eq_getElem?_getD, y.2]; rfl⟩
theorem walk_tupF {K : PySem.W.Frag} {a : Addr} {xs : List V} : Walk (Itt K a) xs.length (fun H => SqT K H a xs) (YFn fun i => xs.getD i .non) :=
  walk_tup.mono (fun _ h => h) fun i H x H' hi _ y => ⟨y.1, by show x = xs.getD i .non; rw [List.getD_eq_getElem?_getD, y.2]; rfl⟩
theorem getD_map_int (bs : List Int) (i : Nat) (h : i < bs.length) : (bs.map V.int).getD i .non = .int (bs.getD i 0) := by
  rw [List.getD_eq_getElem?_getD, List.getElem?_map, List.getElem?_eq_getElem h, List.getD_eq_getElem?_getD, List.getElem?_eq_getElem h]
  rfl
theorem range_getD {α : Type} (xs : List α) (d : α) : (List.range xs.length).map (fun i => xs.getD i d) = xs := by
  apply List.ext_getElem?
  intro i
  rw [List.getElem?_map]
  by_cases h : i < xs.length
  · rw [List.getElem?_range h]
    show some (xs.getD i d) = _
    rw [List.getD_eq_getElem?_getD, List.getElem?_eq_getElem h]
    rfl
  · rw [List.getElem?_eq_none (by rw [List.length_range]; omega), List.getElem?_eq_none (by omega)]
    rfl
section
variable {X : Cx}
theorem ixL (K : PySem.W.Frag) (h : X.K = K := by rfl) : IxR X (rIxL K) := h ▸ ix_list
theorem ixT (K : PySem.W.Frag) (h : X.K = K := by rfl) : IxR X (rIxT K) := h ▸ ix_tup
theorem slL (K : PySem.W.Frag) (h : X.K = K := by rfl) : SlR X (rSlL K) := h ▸ sl_list
theorem slT (K : PySem.W.Frag) (h : X.K = K := by rfl) : SlR X (rSlT K) := h ▸ sl_tup
theorem cIsi (K : PySem.W.Frag) (h : X.K = K := by rfl) : CallR X (.builtin "isinstance") (rIsi K) := h ▸ call_isi
def rLenS (K : PySem.W.Frag) : List V → Hp → VK → Prop := fun xs H Q => ∃ p ys, xs = [.ref p] ∧ (SqL K H p ys ∨ SqT K H p ys) ∧ Q (.int ys.length) H
theorem cLen (K : PySem.W.Frag) (h : X.K = K := by rfl) : CallR X (.builtin "len") (rLenS K) := h ▸ call_len_seq
theorem cAll (K : PySem.W.Frag) (h : X.K = K := by rfl) (hc : X.calm = true := by rfl) : CallR X (.builtin "all") (rAll K) := h ▸ cr_all hc
theorem cAny (K : PySem.W.Frag) (h : X.K = K := by rfl) (hc : X.calm = true := by rfl) : CallR X (.builtin "any") (rAny K) := h ▸ cr_any hc
theorem oIn (K : PySem.W.Frag) (h : X.K = K := by rfl) : OpR X (compareOp .In) (rIn K false) := h ▸ op_in_seq
theorem oNotIn (K : PySem.W.Frag) (h : X.K = K := by rfl) : OpR X (compareOp .NotIn) (rIn K true) := h ▸ op_notIn_seq
theorem oEqD (K : PySem.W.Frag) (hu : X.A.units + 64 < cLine) (h : X.K = K := by rfl) : OpR X (compareOp .Eq) (rEqD K) := h ▸ op_eqD hu
theorem oNeD (K : PySem.W.Frag) (hu : X.A.units + 64 < cLine) (h : X.K = K := by rfl) : OpR X (compareOp .NotEq) (rNeD K) := h ▸ op_neD hu
end
end LH
namespace LH
open PySem PySem.Spec PyProof.Rows L2
/-! ### data: flat lists compared -/
def OkS (x : Str) : Prop := ∀ c ∈ TL.tl x, c < 1114112
theorem strOk_of (x : Str) (h : OkS x) : PyData.strOk x = true := by
  unfold PyData.strOk
  rw [Array.all_eq_true']
  intro c hc
  exact decide_eq_true (h c (Array.mem_toList_iff.mpr hc))
theorem dpAll_ints {K : PySem.W.Frag} {H : Hp} : ∀ bs : List Int, DpAll K H (bs.map V.int) (bs.map PyData.int)
  | [] => .nil
  | b :: r => .cons (.int b) (dpAll_ints r)
theorem dpAll_strs {K : PySem.W.Frag} {H : Hp} : ∀ bs : List Str, DpAll K H (bs.map V.str) (bs.map PyData.str)
  | [] => .nil
  | b :: r => .cons (.str b) (dpAll_strs r)
theorem dp_ints {K : PySem.W.Frag} {H : Hp} {a : Addr} {bs : List Int} (h : SqL K H a (bs.map V.int)) : Dp K H (.ref a) (.list (bs.map PyData.int)) := .lst h (dpAll_ints bs)
theorem dp_strs {K : PySem.W.Frag} {H : Hp} {a : Addr} {bs : List Str} (h : SqL K H a (bs.map V.str)) : Dp K H (.ref a) (.list (bs.map PyData.str)) := .lst h (dpAll_strs bs)
theorem lay_strs : ∀ bs : List Str, (∀ x ∈ bs, OkS x) → PyData.canLayAll0 (bs.map PyData.str) = true
  | [], _ => by simp [PyData.canLayAll0]
  | b :: r, h => by simp [PyData.canLayAll0, PyData.canLay0, strOk_of b (h b (by simp)), lay_strs r fun x hx => h x (by simp [hx])]
theorem depth_strs : ∀ bs : List Str, PyData.depthAll (bs.map PyData.str) = 0
  | [] => rfl
  | _ :: r => by simp [PyData.depthAll, PyData.depth, depth_strs r]
theorem shaped_strs (bs : List Str) (h : ∀ x ∈ bs, OkS x) : SeqAt.shaped (.list (bs.map PyData.str)) = true := by
  simp [SeqAt.shaped, PyData.canLay0, PyData.depth, lay_strs bs h, depth_strs]
theorem shaped_intsL (bs : List Int) : SeqAt.shaped (.list (bs.map PyData.int)) = true := PySem.W.ke_shaped_ints bs
theorem eqv_ints : ∀ bs cs : List Int, PyData.eqvAll (bs.map PyData.int) (cs.map PyData.int) = decide (bs = cs)
  | [], [] => by simp [PyData.eqvAll]
  | [], _ :: _ => by simp [PyData.eqvAll]
  | _ :: _, [] => by simp [PyData.eqvAll]
  | b :: r, c :: q => by
    rw [List.map_cons, List.map_cons, PyData.eqvAll, PyData.eqv, eqv_ints r q]
    by_cases h : b = c <;> simp [h]
theorem eqv_strs : ∀ bs cs : List Str, PyData.eqvAll (bs.map PyData.str) (cs.map PyData.str) = decide (bs = cs)
  | [], [] => by simp [PyData.eqvAll]
  | [], _ :: _ => by simp [PyData.eqvAll]
  | _ :: _, [] => by simp [PyData.eqvAll]
  | b :: r, c :: q => by
    rw [List.map_cons, List.map_cons, PyData.eqvAll, PyData.eqv, eqv_strs r q]
    by_cases h : b = c <;> simp [h]
theorem eqv_intsL (bs cs : List Int) : PyData.eqv (.list (bs.map PyData.int)) (.list (cs.map PyData.int)) = decide (bs = cs) := by rw [PyData.eqv, eqv_ints]
theorem eqv_strsL (bs cs : List Str) : PyData.eqv (.list (bs.map PyData.str)) (.list (cs.map PyData.str)) = decide (bs = cs) := by rw [PyData.eqv, eqv_strs]
theorem map_true {α : Type} (l : List α) : (l.map fun _ => true).all id = true := by
  induction l with
  | nil => rfl
  | cons x r ih => simpa using ih
end LH

namespace LH
open PySem PySem.Spec PyProof.Rows L2
/-! ### the sum of a tuple of whole numbers; a slice of a tuple, the whole of it too -/
def rSumT (K : PySem.W.Frag) : List V → Hp → VK → Prop := fun vs H Q => ∃ (a : Addr) (ns : List Int), vs = [V.ref a] ∧ SqT K H a (ns.map V.int) ∧ Q (.int ns.sum) H
theorem cr_sumT {X : Cx} (hc : X.calm = true) : CallR X (.builtin "sum") (rSumT X.K) := by
  intro pins s σ H vs us Q I r h
  obtain ⟨a, ns, rfl, hs, q⟩ := h
  obtain ⟨its, rv, hl, _⟩ := I.tuple hs
  rw [Vals.ref1 r]
  obtain ⟨xs, e⟩ := rv.ints.allInts.items
  have hn : numsOf (intItems xs).toList = ns := by rw [← e]; exact rv.ints.numsOf
  rw [nums_intItems] at hn
  rw [e] at hl
  refine PySem.W.ktm_sumG (I.ok.hd hc) hl fun h' tk t' hk => ?_
  have : preSum (numAt xs) xs.size = ns.sum := by rw [preSum_eq, List.take_of_length_le (by simp), hn]
  rw [this]
  exact ⟨.int _, H, I.kept hk, ⟨_, rfl⟩, q⟩
theorem sumT (K : PySem.W.Frag) {X : Cx} (hc : X.calm = true) (h : X.K = K := by rfl) : CallR X (.builtin "sum") (rSumT K) := h ▸ cr_sumT hc
theorem slA (K : PySem.W.Frag) {X : Cx} (h : X.K = K := by rfl) : SlR X (rSlA K) := h ▸ sl_tupA
end LH

namespace LH
open PySem PySem.Spec PyProof.Rows L2 Builtin Builtin.Str PySem.StrLaws
/-! ### a text of which nothing is left when some signs are taken from its ends -/
theorem has_mem (y : Str) (c : Nat) : y.cps.contains c = decide (c ∈ TL.tl y) := by
  show y.cps.contains c = decide (c ∈ y.cps.toList)
  simp
theorem strip_none (x y : Str) : (Txt.stripChars x y = ⟨#[]⟩) ↔ (TL.tl x).all (fun c => decide (c ∈ TL.tl y)) = true := by
  have hl : x.cps.toList.length = x.length := by simp [Str.length]
  unfold Txt.stripChars
  rw [stripBy_eq]
  obtain ⟨l1, l2, l3⟩ := lo_facts y.cps.contains x
  obtain ⟨h1, h2, h3, h4⟩ := hi_facts y.cps.contains x (stripLo y.cps.contains true x) l1
  generalize stripLo y.cps.contains true x = lo at *
  generalize stripHi y.cps.contains true x lo = hi at *
  have hs : (strSub x lo hi).cps.toList = (x.cps.toList.drop lo).take (hi - lo) := strSub_toList ..
  have hg : ∀ k, k < x.length → (x.cps.getD k 0) ∈ x.cps.toList := fun k hk => by
    rw [← getD_list, List.getD_eq_getElem?_getD, List.getElem?_eq_getElem (by rw [hl]; exact hk)]
    exact List.getElem_mem _
  rw [List.all_eq_true]
  constructor
  · intro e c hc
    have e0 : (x.cps.toList.drop lo).take (hi - lo) = [] := by rw [← hs, e]
    have e1 : hi = lo := by
      have := congrArg List.length e0
      rw [List.length_take, List.length_drop, hl, List.length_nil] at this
      omega
    have hc' : c ∈ x.cps.toList := hc
    obtain ⟨k, hk, e2⟩ := List.getElem_of_mem hc'
    have ek : c = x.cps.getD k 0 := by
      rw [← getD_list, List.getD_eq_getElem?_getD, List.getElem?_eq_getElem hk, ← e2]; rfl
    rw [hl] at hk
    rw [← has_mem, ek]
    by_cases hkl : k < lo
    · exact l2 k hkl
    · exact h3 k (by omega) hk
  · intro ha
    have hb : ∀ k, k < x.length → y.cps.contains (x.cps.getD k 0) = true := fun k hk => by rw [has_mem]; exact ha _ (hg k hk)
    have : lo = x.length := by
      rcases l3 with h | h
      · exact h
      · by_cases hlt : lo < x.length
        · rw [hb lo hlt] at h; cases h
        · omega
    have e : (x.cps.toList.drop lo).take (hi - lo) = [] := by
      apply List.eq_nil_of_length_eq_zero
      rw [List.length_take, List.length_drop, hl]; omega
    apply TL.ext_tl
    show (strSub x lo hi).cps.toList = []
    rw [hs, e]
theorem strip_eq (x y : Str) : decide (V.str (Txt.stripChars x y) = V.str (Str.ofString "")) = (TL.tl x).all (fun c => decide (c ∈ TL.tl y)) := by
  have e0 : (Str.ofString "") = ⟨#[]⟩ := by decide +kernel
  rw [e0]
  by_cases h : (TL.tl x).all (fun c => decide (c ∈ TL.tl y)) = true
  · rw [h, decide_eq_true (congrArg V.str ((strip_none x y).mpr h))]
  · rw [Bool.not_eq_true] at h
    rw [h, decide_eq_false (fun e => by rw [(strip_none x y).mp (V.str.inj e)] at h; cases h)]
end LH

namespace LH
open PySem PySem.Spec PyProof.Rows L2
/-! ### a comprehension with a test -/
theorem lc_filt {J : It} {n : Nat} {G : Hp → Prop} {tt : TT} {te : TE} {c : Nat} {σ : L2.St} {H1 : Hp} {D : Addr} {Qd : Hp → Prop} (xs f : Nat → V) (b : Nat → Bool) (w : Walk J n G (YFn xs)) (hG : ∀ H, Same H1 H → G H) (hD : H1 D = none) (hn : n ≤ sizeLine)
    (ht : ∀ (i : Nat) (H : Hp) (Q : Bool → Hp → Prop), i < n → Same H1 H → (∀ H', Same H H' → Q (b i) H') → tt ((σ.set c none).set c (some (xs i))) H Q)
    (he : ∀ i H Q, i < n → Same H1 H → b i = true → Tell H (f i) Q → te ((σ.set c none).set c (some (xs i))) H Q)
    (hd : ∀ H, Same H1 H → H D = some (.lst (((List.range n).filter b).map f)) → Qd H) :
    ∃ W : Nat → Nat → Hp → Prop, (∃ m, W 0 m (upd H1 D (.lst []))) ∧ ∀ i m H, W i m H →
      (J.stop i H ∧ Qd H) ∨ (J.go i H ∧ ∃ Nx : Hp → Prop, (∀ H', Nx H' → ∃ m', m' < m ∧ W (i + 1) m' H') ∧ ∀ x H', J.yld i H x H' → gName c x (wipe σ [c]) H' fun σ2 H2 => wipe σ2 [c] = wipe σ [c] ∧ tt σ2 H2 fun b H3 =>
        if b = true then te σ2 H3 fun y H4 => ∃ acc, H4 D = some (.lst acc) ∧ acc.length < sizeLine ∧ Nx (upd H4 D (.lst (acc ++ [y]))) else Nx H3) := by
  refine lc_it w (fun i H => Same H1 H ∧ H D = some (.lst (((List.range i).filter b).map f))) ⟨same_upd hD, upd_same⟩ (fun i H _ h => hG H h.1) (fun i x H H' hi hP hy => ?_) (fun H h => hd H h.1 h.2)
  obtain ⟨sm, eD⟩ := hP
  obtain ⟨rfl, rfl⟩ := hy
  refine ⟨?_, ?_⟩
  rotate_left
  · refine ht i H' _ hi sm fun H2 s2 => ?_
    cases hb : b i with
    | true =>
      rw [if_pos rfl]
      refine he i H2 _ hi (sm.trans s2) hb fun H3 s3 => ⟨_, s3 _ _ (s2 _ _ eD), ?_, ?_, ?_⟩
      · rw [List.length_map]
        have := List.length_filter_le b (List.range i)
        rw [List.length_range] at this
        omega
      · intro b' o hb'
        rw [upd_ne (ne_of_none hb' hD)]
        exact s3 _ _ (s2 _ _ (sm _ _ hb'))
      · rw [upd_same, List.range_succ, List.filter_append, List.map_append]
        simp [hb]
    | false =>
      rw [if_neg Bool.false_ne_true]
      refine ⟨sm.trans s2, ?_⟩
      rw [s2 _ _ eD, List.range_succ, List.filter_append, List.map_append]
      simp [hb]
  · show (((σ.set c none).set c (some (xs i))).set c none) = σ.set c none
    rw [List.set_set, List.set_set]
/-! ### the signs of a text -/
theorem walk_strF {z : Str} : Walk (Its z) (TL.tl z).length (fun _ => True) (YFn fun i => .str ⟨#[(TL.tl z).getD i 0]⟩) := by
  have e : (TL.tl z).length = z.cps.size := Array.length_toList
  rw [e]
  refine walk_str.mono (fun _ h => h) fun i H x H' hi _ y => ⟨y.1, ?_⟩
  obtain ⟨_, c, hc, rfl⟩ := y
  show V.str ⟨#[c]⟩ = .str ⟨#[(TL.tl z).getD i 0]⟩
  have : (TL.tl z)[i]? = some c := by rw [← hc]; exact Array.getElem?_toList
  rw [List.getD_eq_getElem?_getD, this]
  rfl
theorem lall_range {α : Type} (l : List α) (d : α) (p : α → Bool) : ((List.range l.length).map fun i => p (l.getD i d)).all id = l.all p := by
  have e : ((List.range l.length).map fun i => p (l.getD i d)) = ((List.range l.length).map fun i => l.getD i d).map p := by rw [List.map_map]; rfl
  rw [e, range_getD, List.all_map]
  rfl
/-! ### one sign's split -/
def splitL (s : Nat) : List Nat → List (List Nat)
  | [] => [[]]
  | c :: r => if c = s then [] :: splitL s r else (c :: (splitL s r).headD []) :: (splitL s r).tail
theorem splitL_ne (s : Nat) (l : List Nat) : splitL s l ≠ [] := by
  cases l with
  | nil => simp [splitL]
  | cons c r => unfold splitL; split <;> simp
theorem splitL_eta (s : Nat) (l : List Nat) : splitL s l = (splitL s l).headD [] :: (splitL s l).tail := by
  cases h : splitL s l with
  | nil => exact absurd h (splitL_ne s l)
  | cons x r => rfl
theorem spl_one (s : Nat) : ∀ (l acc : List Nat), TL.spl [s] 0 acc l = (acc ++ (splitL s l).headD []) :: (splitL s l).tail
  | [], acc => by rw [TL.spl_nil]; simp [splitL]
  | c :: r, acc => by
    by_cases h : c = s
    · subst h
      rw [TL.spl_hit (show TL.pre [c] (c :: r) = true by simp [TL.pre])]
      show acc :: TL.spl [c] 0 [] r = _
      rw [spl_one c r []]
      have e : splitL c (c :: r) = [] :: splitL c r := by
        conv => lhs; unfold splitL
        rw [if_pos rfl]
      rw [e]
      simp only [List.headD_cons, List.tail_cons, List.append_nil, List.nil_append]
      rw [← splitL_eta]
    · rw [TL.spl_miss (show TL.pre [s] (c :: r) = false by simp [TL.pre]; exact h), spl_one s r]
      conv => rhs; unfold splitL
      rw [if_neg h]
      simp
theorem split_tl {x y : Str} {s : Nat} (hy : TL.tl y = [s]) (hs : s < 256) : (Txt.split x y).map TL.tl = splitL s (TL.tl x) := by
  rw [TL.split_spl x y (by rw [hy]; simp) (TL.kind_ok ?_), hy, spl_one, List.nil_append, ← splitL_eta]
  rw [Array.all_eq_true']
  intro c hc
  have : c ∈ TL.tl y := Array.mem_toList_iff.mpr hc
  rw [hy] at this
  exact decide_eq_true (by rw [List.mem_singleton.mp this]; exact hs)
theorem splitL_len (s : Nat) : ∀ l : List Nat, (splitL s l).length ≤ l.length + 1
  | [] => Nat.le_refl _
  | c :: r => by
    have ih := splitL_len s r
    unfold splitL
    split
    · simp only [List.length_cons]; omega
    · have := splitL_eta s r
      have h2 := congrArg List.length this
      simp only [List.length_cons] at h2 ⊢
      omega
theorem splitL_mem (s : Nat) : ∀ (l : List Nat) (w : List Nat), w ∈ splitL s l → ∀ c ∈ w, c ∈ l
  | [], w, h, c, hc => by
    simp [splitL] at h
    rw [h] at hc
    cases hc
  | d :: r, w, h, c, hc => by
    unfold splitL at h
    have e := splitL_eta s r
    split at h
    · rcases List.mem_cons.mp h with rfl | h
      · cases hc
      · exact List.mem_cons_of_mem _ (splitL_mem s r w h c hc)
    · rcases List.mem_cons.mp h with rfl | h
      · rcases List.mem_cons.mp hc with rfl | hc
        · exact List.mem_cons_self
        · exact List.mem_cons_of_mem _ (splitL_mem s r _ (by rw [e]; exact List.mem_cons_self) c hc)
      · exact List.mem_cons_of_mem _ (splitL_mem s r w (by rw [e]; exact List.mem_cons_of_mem _ h) c hc)
theorem splitL_le (s : Nat) : ∀ (l : List Nat) (w : List Nat), w ∈ splitL s l → w.length ≤ l.length
  | [], w, h => by
    simp [splitL] at h
    rw [h]
    exact Nat.le_refl _
  | d :: r, w, h => by
    unfold splitL at h
    have e := splitL_eta s r
    have mem1 : (splitL s r).headD [] ∈ splitL s r := by rw [e]; exact List.mem_cons_self
    have mem2 : ∀ x ∈ (splitL s r).tail, x ∈ splitL s r := fun x hx => by rw [e]; exact List.mem_cons_of_mem _ hx
    split at h
    · rcases List.mem_cons.mp h with rfl | h
      · exact Nat.zero_le _
      · exact Nat.le_succ_of_le (splitL_le s r w h)
    · rcases List.mem_cons.mp h with rfl | h
      · exact Nat.succ_le_succ (splitL_le s r _ mem1)
      · exact Nat.le_succ_of_le (splitL_le s r w (mem2 w h))
theorem mk_len (l : List Nat) : (⟨l.toArray⟩ : Str).length = l.length := by rw [TL.len_tl]
theorem str_eq_iff (x y : Str) : x = y ↔ TL.tl x = TL.tl y := ⟨fun h => by rw [h], TL.ext_tl⟩
end LH
namespace LH
open PySem PySem.Spec PyProof.Rows L2
/-! ### an empty part in a split: a sign at an end, or two side by side -/
def Gap (s : Nat) (l : List Nat) : Prop := ∃ i, l[i]? = some s ∧ (l[i + 1]? = none ∨ l[i + 1]? = some s)
theorem gap_nil (s : Nat) : ¬ Gap s [] := fun ⟨i, h, _⟩ => by simp at h
theorem gap_cons (s c : Nat) (r : List Nat) : Gap s (c :: r) ↔ (c = s ∧ (r = [] ∨ r[0]? = some s)) ∨ Gap s r := by
  constructor
  · rintro ⟨i, h1, h2⟩
    cases i with
    | zero =>
      left
      have : c = s := by simpa using h1
      refine ⟨this, ?_⟩
      rcases h2 with h2 | h2
      · left
        have : r[0]? = none := by simpa using h2
        cases r with
        | nil => rfl
        | cons x r => simp at this
      · right; simpa using h2
    | succ i => exact .inr ⟨i, by simpa using h1, by simpa using h2⟩
  · rintro (⟨rfl, h⟩ | ⟨i, h1, h2⟩)
    · refine ⟨0, by simp, ?_⟩
      rcases h with rfl | h
      · left; rfl
      · right; simpa using h
    · exact ⟨i + 1, by simpa using h1, by simpa using h2⟩
theorem split_head (s : Nat) (l : List Nat) : (splitL s l).headD [] = [] ↔ l = [] ∨ l[0]? = some s := by
  cases l with
  | nil => simp [splitL]
  | cons c r =>
    unfold splitL
    by_cases h : c = s
    · rw [if_pos h]; simp [h]
    · rw [if_neg h]; simp [h]
theorem split_tail (s : Nat) : ∀ l : List Nat, [] ∈ (splitL s l).tail ↔ Gap s l
  | [] => by simp [splitL, gap_nil]
  | c :: r => by
    rw [gap_cons, ← split_tail s r]
    by_cases h : c = s
    · have e : splitL s (c :: r) = [] :: splitL s r := by
        conv => lhs; unfold splitL
        rw [if_pos h]
      rw [e, List.tail_cons, splitL_eta s r, List.mem_cons, eq_comm, split_head]
      simp [h]
    · have e : splitL s (c :: r) = (c :: (splitL s r).headD []) :: (splitL s r).tail := by
        conv => lhs; unfold splitL
        rw [if_neg h]
      rw [e, List.tail_cons]
      simp [h]
theorem split_gap (s : Nat) (l : List Nat) : [] ∈ splitL s l ↔ l = [] ∨ l[0]? = some s ∨ Gap s l := by
  rw [splitL_eta s l, List.mem_cons, eq_comm, split_head, split_tail, or_assoc]
theorem joinL_nil (l : List (List Nat)) : TL.joinL [] l = l.flatten := by
  induction l with
  | nil => rfl
  | cons x r ih =>
    cases r with
    | nil => simp [TL.joinL]
    | cons y r => rw [TL.joinL, ih]; simp
theorem tl_empty : TL.tl (Str.ofString "") = [] := by decide +kernel
theorem tl_join0 (ys : List Str) : TL.tl (Txt.join (Str.ofString "") ys) = (ys.map TL.tl).flatten := by
  rw [TL.join_eq, TL.tl_join, tl_empty, joinL_nil]
theorem flatten_le {α : Type} {k : Nat} : ∀ l : List (List α), (∀ x ∈ l, x.length ≤ k) → l.flatten.length ≤ k * l.length
  | [], _ => Nat.le_refl _
  | x :: r, h => by
    have ih := flatten_le r fun y hy => h y (List.mem_cons_of_mem _ hy)
    have hx := h x (by simp)
    rw [List.flatten_cons, List.length_append, List.length_cons, Nat.mul_succ]
    omega
theorem chunks_len {α : Type} (k : Nat) (t : List α) : (chunks k t).length = (t.length + (k - 1)) / k := by
  unfold chunks
  rw [List.length_map, List.length_range]
theorem sum_len (ys : List Str) : (ys.map (·.length)).sum = ((ys.map TL.tl).flatten).length := by
  rw [List.length_flatten, List.map_map]
  rfl
/-! ### texts and their signs -/
theorem okS_app {x y : Str} (hx : OkS x) (hy : OkS y) : OkS (x ++ y) := fun c hc => by
  rw [TL.tl_append] at hc
  rcases List.mem_append.mp hc with h | h
  · exact hx c h
  · exact hy c h
theorem len_app (x y : Str) : (x ++ y).length = x.length + y.length := by
  rw [TL.len_tl, TL.tl_append, List.length_append, ← TL.len_tl, ← TL.len_tl]
theorem okS_cut {x : Str} (hx : OkS x) (lo hi : Option Int) : OkS (cutS x lo hi) := fun c hc => hx c (List.mem_of_mem_drop (List.mem_of_mem_take hc))
theorem okS_one {c : Nat} (h : c < 1114112) : OkS ⟨#[c]⟩ := fun d hd => by
  have : d = c := by simpa [TL.tl] using hd
  rw [this]; exact h
theorem joinL_mem (S : List Nat) : ∀ (ps : List (List Nat)) (c : Nat), c ∈ TL.joinL S ps → c ∈ S ∨ ∃ p ∈ ps, c ∈ p
  | [], c, h => by cases h
  | [p], c, h => .inr ⟨p, by simp, h⟩
  | p :: q :: r, c, h => by
    rw [TL.joinL] at h
    rcases List.mem_append.mp h with h | h
    · exact .inr ⟨p, by simp, h⟩
    · rcases List.mem_append.mp h with h | h
      · exact .inl h
      · rcases joinL_mem S (q :: r) c h with h | ⟨x, hx, hc⟩
        · exact .inl h
        · exact .inr ⟨x, List.mem_cons_of_mem _ hx, hc⟩
theorem joinL_len (S : List Nat) : ∀ (ps : List (List Nat)), (TL.joinL S ps).length ≤ (ps.map List.length).sum + ps.length * S.length
  | [] => by simp [TL.joinL]
  | [p] => by simp [TL.joinL]
  | p :: q :: r => by
    have ih := joinL_len S (q :: r)
    rw [TL.joinL, List.length_append, List.length_append, List.map_cons, List.sum_cons, List.length_cons, Nat.succ_mul]
    omega
theorem sum_le (k : Nat) : ∀ l : List Nat, (∀ x ∈ l, x ≤ k) → l.sum ≤ l.length * k
  | [], _ => by simp
  | x :: r, h => by
    have ih := sum_le k r fun y hy => h y (List.mem_cons_of_mem _ hy)
    have hx := h x (by simp)
    rw [List.sum_cons, List.length_cons, Nat.succ_mul]
    omega
theorem join_len_le {sep : Str} {ws : List Str} {k n : Nat} (hw : ∀ x ∈ ws, x.length ≤ k) (hn : ws.length ≤ n) : (ws.map (·.length)).sum + ws.length * sep.length ≤ n * (k + sep.length) := by
  have h1 := sum_le k (ws.map (·.length)) fun x hx => by
    obtain ⟨y, hy, rfl⟩ := List.mem_map.mp hx
    exact hw y hy
  rw [List.length_map] at h1
  calc (ws.map (·.length)).sum + ws.length * sep.length ≤ ws.length * k + ws.length * sep.length := Nat.add_le_add_right h1 _
    _ = ws.length * (k + sep.length) := (Nat.mul_add _ _ _).symm
    _ ≤ n * (k + sep.length) := Nat.mul_le_mul_right _ hn
theorem joined_len (sep : Str) (ws : List Str) : (Txt.join sep ws).length ≤ (ws.map (·.length)).sum + ws.length * sep.length := by
  rw [TL.len_tl, TL.join_eq, TL.tl_join]
  refine Nat.le_trans (joinL_len _ _) ?_
  rw [List.map_map, List.length_map, ← TL.len_tl]
  have : (ws.map (List.length ∘ TL.tl)) = ws.map (·.length) := List.map_congr_left fun x _ => (TL.len_tl x).symm
  rw [this]
  exact Nat.le_refl _
theorem okS_join {sep : Str} {ws : List Str} (hs : OkS sep) (hw : ∀ x ∈ ws, OkS x) : OkS (Txt.join sep ws) := fun c hc => by
  rw [TL.join_eq, TL.tl_join] at hc
  rcases joinL_mem _ _ c hc with h | ⟨p, hp, hc⟩
  · exact hs c h
  · obtain ⟨x, hx, rfl⟩ := List.mem_map.mp hp
    exact hw x hx c hc
/-- lists of truth values compared -/
theorem dpAll_bls {K : PySem.W.Frag} {H : Hp} : ∀ bs : List Bool, DpAll K H (bs.map V.bl) (bs.map PyData.bool)
  | [] => .nil
  | b :: r => .cons (.bl b) (dpAll_bls r)
theorem dp_bls {K : PySem.W.Frag} {H : Hp} {a : Addr} {bs : List Bool} (h : SqL K H a (bs.map V.bl)) : Dp K H (.ref a) (.list (bs.map PyData.bool)) := .lst h (dpAll_bls bs)
theorem lay_bls : ∀ bs : List Bool, PyData.canLayAll0 (bs.map PyData.bool) = true
  | [] => by simp [PyData.canLayAll0]
  | b :: r => by simp [PyData.canLayAll0, PyData.canLay0, lay_bls r]
theorem depth_bls : ∀ bs : List Bool, PyData.depthAll (bs.map PyData.bool) = 0
  | [] => rfl
  | _ :: r => by simp [PyData.depthAll, PyData.depth, depth_bls r]
theorem shaped_bls (bs : List Bool) : SeqAt.shaped (.list (bs.map PyData.bool)) = true := by
  simp [SeqAt.shaped, PyData.canLay0, PyData.depth, lay_bls bs, depth_bls]
theorem eqv_bls : ∀ bs cs : List Bool, PyData.eqvAll (bs.map PyData.bool) (cs.map PyData.bool) = decide (bs = cs)
  | [], [] => by simp [PyData.eqvAll]
  | [], _ :: _ => by simp [PyData.eqvAll]
  | _ :: _, [] => by simp [PyData.eqvAll]
  | b :: r, c :: q => by
    rw [List.map_cons, List.map_cons, PyData.eqvAll, PyData.eqv, eqv_bls r q]
    by_cases h : b = c <;> simp [h]
theorem eqv_blsL (bs cs : List Bool) : PyData.eqv (.list (bs.map PyData.bool)) (.list (cs.map PyData.bool)) = decide (bs = cs) := by rw [PyData.eqv, eqv_bls]
theorem lat_of {α : Type} {xs : List α} {z : Int} {j : Nat} {v : α} (e : z = (j : Int)) (h : xs[j]? = some v) : atI xs z = some v := by
  rw [e]
  exact atI_nat h
theorem getD_str (ws : List Str) (i : Nat) (hi : i < ws.length) : (ws.map V.str).getD i .non = .str (ws.getD i Str.empty) := by
  rw [List.getD_eq_getElem?_getD, List.getElem?_map, List.getElem?_eq_getElem hi, List.getD_eq_getElem?_getD, List.getElem?_eq_getElem hi]
  rfl
end LH
namespace LH
open PySem PySem.Spec PyProof.Rows L2
/-! ### and, or of values, each part told by its truth -/
theorem andV {ta tb : TE} {σ : L2.St} {H : Hp} {Q : VK} (c d : Bool) (ha : ∀ Q' : VK, Tell H (.bl c) Q' → ta σ H Q') (hb : c = true → ∀ (H1 : Hp) (Q' : VK), Same H H1 → Tell H1 (.bl d) Q' → tb σ H1 Q') (q : Tell H (.bl (c && d)) Q) : tAndV ta tb σ H Q := by
  refine ha _ fun H1 s1 => ⟨c, rfl, ?_⟩
  cases c with
  | true => exact iteT (hb rfl H1 Q s1 fun H2 s2 => q H2 (s1.trans s2))
  | false => exact iteF (q H1 s1)
theorem orV {ta tb : TE} {σ : L2.St} {H : Hp} {Q : VK} (c d : Bool) (ha : ∀ Q' : VK, Tell H (.bl c) Q' → ta σ H Q') (hb : c = false → ∀ (H1 : Hp) (Q' : VK), Same H H1 → Tell H1 (.bl d) Q' → tb σ H1 Q') (q : Tell H (.bl (c || d)) Q) : tOrV ta tb σ H Q := by
  refine ha _ fun H1 s1 => ⟨c, rfl, ?_⟩
  cases c with
  | true => exact iteT (q H1 s1)
  | false => exact iteF (hb rfl H1 Q s1 fun H2 s2 => q H2 (s1.trans s2))
/-- two blanks side by side -/
def dbl (s : Nat) (l : List Nat) : Bool := (List.range l.length).any fun i => decide (l[i]? = some s) && decide (l[i + 1]? = some s)
theorem dbl_iff (s : Nat) (l : List Nat) : dbl s l = true ↔ ∃ i, l[i]? = some s ∧ l[i + 1]? = some s := by
  unfold dbl
  rw [List.any_eq_true]
  constructor
  · rintro ⟨i, _, h⟩
    rw [Bool.and_eq_true, decide_eq_true_eq, decide_eq_true_eq] at h
    exact ⟨i, h⟩
  · rintro ⟨i, h1, h2⟩
    refine ⟨i, List.mem_range.mpr (List.getElem?_eq_some_iff.mp h1).1, ?_⟩
    rw [Bool.and_eq_true, decide_eq_true_eq, decide_eq_true_eq]
    exact ⟨h1, h2⟩
theorem take2 (s : Nat) : ∀ (l : List Nat) (i : Nat), (l.drop i).take 2 = [s, s] ↔ l[i]? = some s ∧ l[i + 1]? = some s
  | [], i => by simp
  | c :: r, 0 => by cases r <;> simp
  | c :: r, i + 1 => by simpa using take2 s r i
theorem in_two {x y : Str} {s : Nat} (hy : TL.tl y = [s, s]) : (!(Builtin.Str.occurrences x y 0 x.length 1).isEmpty) = dbl s (TL.tl x) := by
  rw [Bool.eq_iff_iff, PySem.StrLaws.found_iff, dbl_iff]
  have hyl : y.length = 2 := by rw [TL.len_tl, hy]; rfl
  constructor
  · rintro ⟨i, h1, h2⟩
    rw [PySem.StrLaws.subAt_eq, hyl] at h2
    exact ⟨i, (take2 s _ i).mp ((eq_of_beq h2).trans hy)⟩
  · rintro ⟨i, h⟩
    have hl := (List.getElem?_eq_some_iff.mp h.2).1
    refine ⟨i, by rw [hyl, TL.len_tl]; omega, ?_⟩
    rw [PySem.StrLaws.subAt_eq, hyl]
    refine beq_iff_eq.mpr ?_
    rw [show x.cps.toList = TL.tl x from rfl, (take2 s _ i).mpr h]
    exact hy.symm
theorem take1 (s : Nat) (l : List Nat) : l.take 1 = [s] ↔ l[0]? = some s := by cases l <;> simp
theorem dropL (s : Nat) (l : List Nat) : l.drop (l.length - 1) = [s] ↔ ∃ i, l[i]? = some s ∧ l[i + 1]? = none := by
  constructor
  · intro h
    refine ⟨l.length - 1, ?_, ?_⟩
    · have := congrArg (fun m : List Nat => m[0]?) h
      simpa using this
    · rw [List.getElem?_eq_none_iff]; omega
  · rintro ⟨i, h1, h2⟩
    obtain ⟨hl, e⟩ := List.getElem?_eq_some_iff.mp h1
    have hl2 := List.getElem?_eq_none_iff.mp h2
    have : i = l.length - 1 := by omega
    subst this
    rw [List.drop_eq_getElem_cons hl, e, List.drop_of_length_le (by omega)]
theorem blanks_iff (s : Nat) (l : List Nat) (h0 : l ≠ []) : (decide (l.take 1 = [s]) || (decide (l.drop (l.length - 1) = [s]) || dbl s l)) = decide ([] ∈ splitL s l) := by
  rw [Bool.eq_iff_iff, Bool.or_eq_true, Bool.or_eq_true, decide_eq_true_eq, decide_eq_true_eq, dbl_iff, decide_eq_true_eq, split_gap, take1, dropL]
  constructor
  · rintro (h | ⟨i, h1, h2⟩ | ⟨i, h1, h2⟩)
    · exact .inr (.inl h)
    · exact .inr (.inr ⟨i, h1, .inl h2⟩)
    · exact .inr (.inr ⟨i, h1, .inr h2⟩)
  · rintro (h | h | ⟨i, h1, h2 | h2⟩)
    · exact absurd h h0
    · exact .inl h
    · exact .inr (.inl ⟨i, h1, h2⟩)
    · exact .inr (.inr ⟨i, h1, h2⟩)
theorem cutS_last (z : Str) : TL.tl (cutS z (some (-1)) none) = (TL.tl z).drop ((TL.tl z).length - 1) := by
  unfold cutS
  rw [HT.sIx_none]
  have e : HT.sIx z.length 0 (some (-1)) = z.length - 1 := by
    show (if (-1 : Int) < 0 then (-1 + ((z.length : Nat) : Int)).toNat else min (-1 : Int).toNat z.length) = _
    rw [if_pos (by decide)]
    omega
  rw [e]
  show ((TL.tl z).drop (z.length - 1)).take (z.length - (z.length - 1)) = _
  rw [TL.len_tl]
  exact List.take_of_length_le (by rw [List.length_drop]; exact Nat.le_refl _)
end LH
namespace LH
open PySem PySem.Spec PyProof.Rows L2
theorem pickL {α : Type} (xs : List α) (m : Int) (h0 : 0 ≤ m) (h1 : m < xs.length) : ∃ x, x ∈ xs ∧ atI xs m = some x := by
  obtain ⟨j, rfl⟩ : ∃ j : Nat, m = (j : Int) := ⟨m.toNat, by omega⟩
  have hj : j < xs.length := by omega
  exact ⟨xs[j], List.getElem_mem hj, atI_nat (List.getElem?_eq_getElem hj)⟩
/-- a thing that is no text -/
def Odd (H : Hp) (x : V) : Prop := x = .non ∨ (∃ i, x = .int i) ∨ (∃ b, x = .bl b) ∨ ∃ a, x = .ref a ∧ ((∃ xs, H a = some (.lst xs)) ∨ (∃ xs, H a = some (.tup xs)) ∨ ∃ kvs, H a = some (.dK kvs))
theorem Odd.same {H H' : Hp} {x : V} (s : Same H H') (h : Odd H x) : Odd H' x := by
  rcases h with h | h | h | ⟨a, e, h⟩
  · exact .inl h
  · exact .inr (.inl h)
  · exact .inr (.inr (.inl h))
  · refine .inr (.inr (.inr ⟨a, e, ?_⟩))
    rcases h with ⟨xs, h⟩ | ⟨xs, h⟩ | ⟨xs, h⟩
    · exact .inl ⟨xs, s _ _ h⟩
    · exact .inr (.inl ⟨xs, s _ _ h⟩)
    · exact .inr (.inr ⟨xs, s _ _ h⟩)
theorem Odd.ty {K : PySem.W.Frag} {H : Hp} {x : V} (h : Odd H x) : ∃ t, TyX K H x t ∧ PySem.W.kitOne K t (.type "str") = some false := by
  rcases h with rfl | ⟨i, rfl⟩ | ⟨b, rfl⟩ | ⟨a, rfl, ⟨xs, h⟩ | ⟨xs, h⟩ | ⟨xs, h⟩⟩
  · exact ⟨_, .base .non, kit_ty (by decide +kernel)⟩
  · exact ⟨_, .base (.int i), kit_ty (by decide +kernel)⟩
  · exact ⟨_, .base (.bl b), kit_ty (by decide +kernel)⟩
  · exact ⟨_, .base (.lst h), kit_ty (by decide +kernel)⟩
  · exact ⟨_, .base (.tup h), kit_ty (by decide +kernel)⟩
  · exact ⟨_, .base (.dK h), kit_ty (by decide +kernel)⟩
end LH

namespace LH
open PySem PySem.Spec PySem.Calls PyProof.Rows L2 Builtin Builtin.Str Builtin.Int Builtin.Float
/-! ### a number by a written form -/
def FmtI (sp : Str) (i : Int) (y : Str) : Prop := ∀ (prog : Program) (w : World) (A : Around) (E : Value → Shared → Prop) (s : Shared) (t : Tok) (Q : Value → Shared → Prop), (∀ t' k, Q (.str y t') { s with toks := k }) → wpAny (model prog w) A (formatField (.int i t) sp) Q E s
def hexF : FormatSpec := { fill := 48, align := 61, width := some 2, type := some 88 }
def hexT (i : Int) : Str := intField' hexF (decide (i < 0)) [] ((Nat.toDigits 16 i.natAbs).map fun c => (if (88 : Nat) == 88 then c.toUpper else c).toNat) [] 4
theorem hex_parse : parseFormatSpec (Str.ofString "02X").cps.toList "int" 62 = .ok hexF := by kernel_rfl
def hexDig (n : Nat) : Nat := if n < 10 then 48 + n else 55 + n
theorem hexT_eq {b : Nat} (h : b < 256) : hexT (b : Nat) = ⟨#[hexDig (b / 16), hexDig (b % 16)]⟩ := by
  have : ∀ d : Fin 256, (hexT (d.val : Nat)).cps.toList = [hexDig (d.val / 16), hexDig (d.val % 16)] := by decide +kernel
  exact TL.ext_tl (this ⟨b, h⟩)
set_option maxHeartbeats 4000000 in
theorem fmt_hex {b : Nat} (h : b < 256) : FmtI (Str.ofString "02X") (b : Nat) ⟨#[hexDig (b / 16), hexDig (b % 16)]⟩ := by
  intro prog w A E s t Q q
  have hlen : (hexT (b : Nat)).length ≤ sizeLine := by rw [hexT_eq h, sizeLine_eq]; show 2 ≤ 16777216; decide
  rw [← hexT_eq h] at q
  refine PySem.W.KXf.field_int (spec' := Str.ofString "02X") (y := hexT (b : Nat)) rfl (by decide +kernel) (by decide +kernel) ?_ q
  intro _
  apply PySem.W.KPc.meets_of
  intro _ _ _ _ _ _ _
  unfold Builtin.«int.__format__»
  refine wpAny_bind (wpAny_of_eq (a := (_, _)) rfl ?_)
  refine wpAny_bind (wpAny_of_eq (a := _) rfl ?_)
  kxf_if
  refine wpAny_bind (wpAny_typeNameOf (T := "str") (typeIs_str _ _ _) (by decide) fun _ => ?_)
  refine wpAny_bind (wpAny_of_eq (a := some _) rfl ?_)
  kxf_if
  kxf_if
  refine wpAny_bind (wpAny_typeNameOfCut_int ?_)
  simp only [hex_parse, hexF]
  (repeat kxf_if)
  refine PySem.W.KXf.ret_text (T := hexT (b : Nat)) rfl hlen ?_
  assumption
/-! ### a number by figures, noughts ahead -/
def decF (k : Nat) : FormatSpec := { fill := 48, align := 61, width := some k, type := some 100 }
def decT (k : Nat) (i : Int) : Str := intField' (decF k) (decide (i < 0)) [] ((Nat.toDigits 10 i.natAbs).map fun c => (if (100 : Nat) == 88 then c.toUpper else c).toNat) [] 3
theorem dec2_parse : parseFormatSpec (Str.ofString "02d").cps.toList "int" 62 = .ok (decF 2) := by kernel_rfl
theorem dec4_parse : parseFormatSpec (Str.ofString "04d").cps.toList "int" 62 = .ok (decF 4) := by kernel_rfl
theorem dec2_eq {b : Nat} (h : b < 100) : decT 2 (b : Nat) = ⟨#[48 + b / 10, 48 + b % 10]⟩ := by
  have : ∀ d : Fin 100, (decT 2 (d.val : Nat)).cps.toList = [48 + d.val / 10, 48 + d.val % 10] := by decide +kernel
  exact TL.ext_tl (this ⟨b, h⟩)
section
variable {X : Cx}
def tFmtS (te : TE) (sp : Str) : TE := fun σ H Q => te σ H fun x H1 => ∃ i y, x = .int i ∧ FmtI sp i y ∧ Q (.str y) H1
theorem pe_fmtS {e spec : Expr} {te : TE} {sp : Str} {pos : Pos} (he : PE X e te) (hs : PE X spec (tC (.str sp))) : PE X (.FormattedValue e (-1) (some spec) pos) (tFmtS te sp) := by
  refine ⟨fun pins s σ H Q I h => ?_⟩
  refine wpAny_FormattedValue_spec (thn (he.run pins s σ H _ I h) fun v s1 hv => ?_)
  obtain ⟨x, H1, I1, r1, i, y, rfl, hf, q⟩ := hv
  obtain ⟨t, rfl⟩ := r1
  refine thn (hs.run pins s1 σ H1 (fun z H2 => z = .str sp ∧ Q (.str y) H2) I1 ⟨rfl, q⟩) fun v2 s2 hv => ?_
  obtain ⟨z, H2, I2, r2, rfl, q2⟩ := hv
  obtain ⟨t2, rfl⟩ := r2
  exact ⟨sp, t2, rfl, hf _ _ _ _ _ _ _ fun t' k => ⟨.str y, H2, I2.tok _, ⟨_, rfl⟩, q2⟩⟩
end
end LH

namespace LH
open PySem PySem.Spec PySem.Calls PyProof.Rows L2
/-! ### enumerate(text) -/
/-- the signs of x, each in a new pair with its number -/
def ItES (x : Str) : It :=
  ⟨fun i _ => i < x.cps.size, fun i H v H' => ∃ T c, v = .ref T ∧ H T = none ∧ H' = upd H T (.tup [.int (i : Nat), .str ⟨#[c]⟩]) ∧ x.cps[i]? = some c, fun i _ => x.cps.size = i⟩
theorem turn_enumS {P : Program} {w : World} {K : PySem.W.Frag} {elts : List Expr} {kk : Nat} {tpos : Pos} (x : Str) (t : Tok) (e it : Addr) :
    Turn P w K (.Tuple elts kk tpos) (ItES x) [e, it] e (fun i h => (∃ old, IsEnum h e it ((i : Nat) : Int) old) ∧ h.IsStrIter it (strIterType x) x t i ∧ e ≠ it) where
  mem := by simp
  obj := fun i h st b hb => by
    obtain ⟨⟨old, he⟩, ⟨o, ho, hc, hd⟩, _⟩ := st
    have e' : b = e ∨ b = it := by simpa using hb
    rcases e' with z | z
    · rw [z]; exact ⟨_, he, fun v q => nomatch q⟩
    · rw [z]; exact ⟨o, ho, fun v q => by rw [hd] at q; cases q⟩
  keep := fun i h h' st k => let ⟨⟨old, he⟩, ⟨o, ho, r⟩, hne⟩ := st; ⟨⟨old, k e (by simp) _ he⟩, ⟨o, k it (by simp) o ho, r⟩, hne⟩
  item := by
    intro X hP hw hK hc i pins s σ H E I hf st hg
    subst hP hw hK
    obtain ⟨⟨old, he⟩, hit, hne⟩ := st
    have hel : e < s.heap.objs.size := Heap.lt_size he
    have hil : it < s.heap.objs.size := by obtain ⟨_, q, _⟩ := hit; exact Heap.lt_size q
    refine wpAny_pyNext_enum_itemD (Draws.text (A := X.A.in1) (I.ok.hd hc) it x t) he hit hg hne (by simpa using hne) fun v h' tk hv ho hit' hT hsz hk => ?_
    obtain ⟨c, u, hcx, rfl⟩ := hv
    refine ⟨_, rfl, wpAny_letOwnedTupleGo_enum (s := { s with heap := h', toks := tk + 1 }) ho fun h'' he' sb => ?_⟩
    have hT2 : h''.get? s.heap.objs.size = some { cls := .type "tuple", data := .seq #[.int i tk, .str ⟨#[c]⟩ u] } := (sb.2 _ (Nat.ne_of_gt hel)).trans hT
    have new : ObjOk X.prog X.w (upd H s.heap.objs.size (.tup [.int (i : Nat), .str ⟨#[c]⟩])) h'' s.heap.objs.size (.tup [.int (i : Nat), .str ⟨#[c]⟩]) :=
      ⟨by show 2 ≤ sizeLine; decide, [.int i tk, .str ⟨#[c]⟩ u], .cons ⟨_, rfl⟩ (.cons ⟨_, rfl⟩ .nil), ⟨_, hT2, rfl, _, rfl⟩⟩
    have I1 : Inv X pins σ (upd H s.heap.objs.size (.tup [.int (i : Nat), .str ⟨#[c]⟩])) { s with heap := h'', toks := tk + 1 } :=
      I.turnedNew (ch := [e, it]) (fun b ob hb q => (sb.2 b (fun z => hb (by simp [z]))).trans (hk b ob (fun z => hb (by simp [z])) (fun z => hb (by simp [z])) q)) hf (Nat.le_refl _) new
    refine ⟨.ref s.heap.objs.size, _, I1, rfl, ⟨_, c, rfl, I.hok.fresh (Nat.le_refl _), rfl, hcx⟩, ⟨⟨.str ⟨#[c]⟩ u, ?_⟩, ?_, hne⟩, fun b hb => ?_⟩
    · have e1 : ((i + 1 : Nat) : Int) = (i : Int) + 1 := by omega
      rw [e1]; exact he'
    · obtain ⟨o, ho', r⟩ := hit'
      exact ⟨o, (sb.2 it (Ne.symm hne)).trans ho', r⟩
    · have hb' : b < s.heap.objs.size := by
        have e' : b = e ∨ b = it := by simpa using hb
        rcases e' with z | z
        · rw [z]; exact hel
        · rw [z]; exact hil
      rw [upd_ne (Nat.ne_of_lt hb')]
      exact (hf b hb).1
  done := by
    intro X hP hw hK hc i pins s σ H E I hf st hg
    subst hP hw hK
    obtain ⟨⟨old, he⟩, hit, hne⟩ := st
    obtain ⟨f0, f1, f2, f3, f4, f5⟩ := hf it (by simp)
    have heq : x.cps.size = i := hg
    subst heq
    exact wpAny_pyNext_enum_endD (Draws.text (A := X.A.in1) (I.ok.hd hc) it x t) he hit fun h' eb => ⟨rfl, I.turned (t' := s.toks) (fun b o hb q => eb b o hb q) f0 f1 f3 f4 f5⟩
  self := fun A i s Q E st h => let ⟨⟨_, he⟩, _⟩ := st; wpAny_pyIter_enum he h
def iEnumS (ta : TA) : TI := fun σ H R => ta σ H fun vs H1 => ∃ x, vs = [.str x] ∧ R (ItES x) H1
theorem pi_enumS {X : Cx} {e : Expr} {ta : TA} {p pos tpos : Pos} {elts : List Expr} {kk : Nat} (hg : Gl X "enumerate") (hm : X.mg "enumerate" = none) (ha : PA X [e] ta) (hs : starEach [e] X.env = [(false, eval e X.env)] := by rfl) :
    PI X (.Tuple elts kk tpos) (.Call (.Name "enumerate" p) [e] [] pos) (iEnumS ta) := by
  refine ⟨fun pins s σ H R I h => ?_⟩
  refine Call_ (ld_blt I hg hm boot_enumerate (PyProof.Rows.callWith_type1 (thn (ha.run pos pins s σ H _ I h) fun us s1 ⟨vs, H1, I1, r1, q1⟩ => ?_) hs rfl))
  obtain ⟨x, ex, q⟩ := q1
  subst ex
  cases r1 with
  | cons r rr =>
    cases rr
    obtain ⟨t, rfl⟩ := r
    refine call_enumerate_str fun h' he hit hsz hk => wpAny_pyIter_enum he ?_
    have I2 : Inv X pins σ H1 { s1 with heap := h' } := I1.kept (t' := s1.toks) hk
    refine ⟨s1.heap.objs.size + 1, [s1.heap.objs.size + 1, s1.heap.objs.size], _, _, H1, rfl, I2, turn_enumS x t (s1.heap.objs.size + 1) s1.heap.objs.size, ⟨⟨.none, he⟩, hit, Nat.succ_ne_self _⟩, fun b hb => ?_, q⟩
    have e' : b = s1.heap.objs.size + 1 ∨ b = s1.heap.objs.size := by simpa using hb
    have hle : s1.heap.objs.size ≤ b := by
      rcases e' with z | z
      · rw [z]; exact Nat.le_add_right _ _
      · rw [z]; exact Nat.le_refl _
    exact I1.fpOk hle (I1.hok.fresh hle)
theorem walk_enumS {x : Str} : Walk (ItES x) (TL.tl x).length (fun _ => True) (YPair (fun i => some (.int (i : Nat))) (fun i => some (.str ⟨#[(TL.tl x).getD i 0]⟩))) := by
  have e : (TL.tl x).length = x.cps.size := Array.length_toList
  rw [e]
  refine ⟨fun i _ hi q => hi, fun _ q => rfl, fun i H v H' _ q y => ?_⟩
  obtain ⟨T, c, h1, h2, h3, h4⟩ := y
  have : (TL.tl x)[i]? = some c := by rw [← h4]; exact Array.getElem?_toList
  exact ⟨T, .int (i : Nat), .str ⟨#[c]⟩, h1, h2, h3, rfl, by show some (V.str ⟨#[(TL.tl x).getD i 0]⟩) = _; rw [List.getD_eq_getElem?_getD, this]; rfl⟩
end LH

namespace LH
open PySem PySem.Spec PyProof.Rows L2
/-! ### o[i] op= e of a list -/
def rGetL (K : PySem.W.Frag) : V → V → Hp → VK → Prop := fun o i H Q => ∃ p xs k v, o = .ref p ∧ i = .int k ∧ SqL K H p xs ∧ atI xs k = some v ∧ Q v H
theorem get_list {X : Cx} : PGet X (rGetL X.K) := by
  intro pins s σ H x y v u Q I rx ry h
  obtain ⟨p, xs, i, z, rfl, rfl, hq, he, q⟩ := h
  cases rx
  obtain ⟨t, rfl⟩ := ry
  obtain ⟨its, r, pl, hz⟩ := I.list hq
  obtain ⟨j, h1, h2, h3, h4, h5⟩ := atI_get he
  obtain ⟨w, ew, rw'⟩ := r.get h2
  have hl := r.length
  have hn := line63
  have fin : EP X pins σ Q w s := ⟨z, H, I, rw', q⟩
  by_cases h0 : 0 ≤ i
  · have hj : i.toNat = j := by
      rw [seqIndex_of h0 h5] at h1
      exact Option.some.inj h1
    exact wpAny_getItem_list pl.isList h0 (by omega) (by rw [hj]; simpa using ew) fin
  · have hj : (i + (its.toArray.size : Int)).toNat = j := by
      rw [seqIndex_neg (by omega) h4] at h1
      rw [List.size_toArray, ← hl]
      exact Option.some.inj h1
    exact wpAny_getItem_list_neg pl.isList (by omega) (by rw [List.size_toArray] <;> omega) (by omega) (by rw [hj]; simpa using ew) fin
theorem get_listK {X : Cx} (K : PySem.W.Frag) (h : X.K = K := by rfl) : PGet X (rGetL K) := h ▸ get_list
theorem ixN_last {α : Type} (xs : List α) (v : α) : ixN (xs ++ [v]).length (-1) = some xs.length := by
  have hl : (xs ++ [v]).length = xs.length + 1 := by simp
  unfold ixN
  rw [hl, if_neg (by decide), if_pos (by omega)]
  congr 1
  omega
theorem set_last {α : Type} (xs : List α) (v u : α) : (xs ++ [v]).set xs.length u = xs ++ [u] := by
  rw [List.set_append_right _ _ (Nat.le_refl _), Nat.sub_self]
  rfl
/-! ### small letters made great -/
def Sm (l : List Nat) : Prop := ∀ c ∈ l, 97 ≤ c ∧ c ≤ 122
def cap : List Nat → List Nat
  | [] => []
  | c :: r => (c - 32) :: r
theorem title_small {c : Nat} (h : 97 ≤ c ∧ c ≤ 122) : Unicode.titleOf c = [c - 32] := by
  have : ∀ d : Fin 26, Unicode.titleOf (97 + d.val) = [97 + d.val - 32] := by decide +kernel
  have e := this ⟨c - 97, by omega⟩
  rwa [show 97 + (c - 97) = c by omega] at e
theorem upper_small {c : Nat} (h : 97 ≤ c ∧ c ≤ 122) : Unicode.upperOf c = [c - 32] := by
  have : ∀ d : Fin 26, Unicode.upperOf (97 + d.val) = [97 + d.val - 32] := by decide +kernel
  have e := this ⟨c - 97, by omega⟩
  rwa [show 97 + (c - 97) = c by omega] at e
theorem lower_small {c : Nat} (h : 97 ≤ c ∧ c ≤ 122) : Unicode.lowerOf c = [c] := by
  have : ∀ d : Fin 26, Unicode.lowerOf (97 + d.val) = [97 + d.val] := by decide +kernel
  have e := this ⟨c - 97, by omega⟩
  rwa [show 97 + (c - 97) = c by omega] at e
theorem tl_placed (x : Str) (f : Nat → Nat → List Nat) : TL.tl ⟨placed x f⟩ = ((TL.tl x).mapIdx f).flatten := by
  unfold placed TL.tl
  simp only [Array.toList_flatten, Array.toList_mapIdx]
  congr 1
  apply List.ext_getElem?
  intro i
  rw [List.getElem?_map, List.getElem?_mapIdx, List.getElem?_mapIdx]
  cases x.cps.toList[i]? <;> rfl
theorem mapIdx_same {f g : Nat → Nat → List Nat} : ∀ l : List Nat, (∀ i c, l[i]? = some c → f i c = g i c) → l.mapIdx f = l.mapIdx g := fun l h => by
  apply List.ext_getElem?
  intro i
  rw [List.getElem?_mapIdx, List.getElem?_mapIdx]
  cases e : l[i]? with
  | none => rfl
  | some c => exact congrArg some (h i c e)
theorem flat_one : ∀ l : List Nat, (l.mapIdx fun _ c => [c]).flatten = l := by
  intro l
  rw [List.mapIdx_eq_zipIdx_map]
  induction l with
  | nil => rfl
  | cons c r ih =>
    have : ∀ (l : List Nat) (n : Nat), ((l.zipIdx n).map fun (p : Nat × Nat) => [p.1]).flatten = l := by
      intro l
      induction l with
      | nil => intro n; rfl
      | cons c r ih => intro n; rw [List.zipIdx_cons, List.map_cons, List.flatten_cons, ih]; rfl
    exact this _ 0
theorem cap_eq (x : Str) (h : Sm (TL.tl x)) : TL.tl (Txt.capitalize x) = cap (TL.tl x) := by
  unfold Txt.capitalize
  by_cases h0 : (x.length == 0) = true
  · rw [if_pos h0]
    have : TL.tl x = [] := by
      have e := eq_of_beq h0
      rw [TL.len_tl] at e
      exact List.length_eq_zero_iff.mp e
    rw [this]
    rfl
  · rw [if_neg h0]
    unfold Txt.capitalized
    rw [tl_placed, mapIdx_same (g := fun i c => if i = 0 then [c - 32] else [c]) _ fun i c hc => ?_]
    · cases e : TL.tl x with
      | nil => rfl
      | cons c r =>
        rw [List.mapIdx_cons, List.flatten_cons]
        show [c - 32] ++ _ = (c - 32) :: r
        have : (r.mapIdx fun i c => if i + 1 = 0 then [c - 32] else [c]) = r.mapIdx fun _ c => [c] := mapIdx_same r fun i c _ => if_neg (by omega)
        rw [this, flat_one]
        rfl
    · have hm := h c (List.mem_of_getElem? hc)
      by_cases hi : i = 0
      · subst hi
        exact title_small hm
      · have hb : (i == 0) = false := by simpa using hi
        rw [if_neg hi]
        show (if (i == 0) = true then Unicode.titleOf c else Unicode.lowerAt x.cps i) = [c]
        rw [hb, if_neg Bool.false_ne_true]
        unfold Unicode.lowerAt
        have ec : x.cps[i]? = some c := by rw [← hc]; exact Array.getElem?_toList.symm
        rw [ec]
        show (if (c == 0x3A3 && Unicode.endsWord x.cps i) = true then [0x3C2] else Unicode.lowerOf c) = [c]
        have hb2 : (c == 0x3A3) = false := by simp; omega
        rw [hb2, Bool.false_and, if_neg Bool.false_ne_true]
        exact lower_small hm
theorem upper_eq (x : Str) (h : Sm (TL.tl x)) : TL.tl (Txt.upper x) = (TL.tl x).map fun c => c - 32 := by
  unfold Txt.upper
  rw [tl_placed, mapIdx_same (g := fun _ c => [c - 32]) _ fun i c hc => upper_small (h c (List.mem_of_getElem? hc))]
  generalize TL.tl x = l
  have : (l.mapIdx fun _ c => [c - 32]) = (l.map fun c => c - 32).mapIdx fun _ c => [c] := by
    apply List.ext_getElem?
    intro i
    rw [List.getElem?_mapIdx, List.getElem?_mapIdx, List.getElem?_map]
    cases l[i]? <;> rfl
  rw [this, flat_one]
theorem upper_cap (x : Str) (h : Sm (TL.tl x)) : TL.tl (Txt.upper (cutS x none (some 1)) ++ cutS x (some 1) none) = cap (TL.tl x) := by
  have e1 : TL.tl (cutS x none (some 1)) = (TL.tl x).take 1 := by rw [show (1 : Int) = ((1 : Nat) : Int) from rfl, cutS_to]
  have e2 : TL.tl (cutS x (some 1) none) = (TL.tl x).drop 1 := by rw [show (1 : Int) = ((1 : Nat) : Int) from rfl, cutS_from]
  rw [TL.tl_append, upper_eq _ (by rw [e1]; exact fun c hc => h c (List.mem_of_mem_take hc)), e1, e2]
  cases TL.tl x with
  | nil => rfl
  | cons c r => simp [cap]
theorem cap_len (l : List Nat) : (cap l).length = l.length := by cases l <;> rfl
/-! ### words of a text -/
/-- a word's signs: none of them a blank -/
def WordL (l : List Nat) : Prop := l ≠ [] ∧ ∀ c ∈ l, 33 ≤ c ∧ c ≤ 126 ∧ c ≠ 37
theorem space_no {c : Nat} (h : 33 ≤ c ∧ c ≤ 126) : Unicode.isSpace c = false := by
  have : ∀ d : Fin 94, Unicode.isSpace (33 + d.val) = false := by decide +kernel
  have e := this ⟨c - 33, by omega⟩
  rwa [show 33 + (c - 33) = c by omega] at e
theorem words_join (ws : List Str) (h : ∀ x ∈ ws, WordL (TL.tl x)) (sp : Str) (hs : TL.tl sp = [32]) : Txt.words (Txt.join sp ws) = ws := by
  refine TL.map_tl_inj ?_
  rw [TL.words_tl, TL.join_eq, TL.tl_join, hs]
  cases ws with
  | nil => rfl
  | cons x r =>
    rw [TL.wfold_join _ _ (by simp) fun p hp => ?_, List.nil_append]
    obtain ⟨y, hy, rfl⟩ := List.mem_map.mp hp
    exact ⟨(h y hy).1, fun c hc => space_no ⟨((h y hy).2 c hc).1, ((h y hy).2 c hc).2.1⟩⟩
/-! ### joined by a sign and split there again -/
theorem splitL_app (s : Nat) (w r : List Nat) (hw : s ∉ w) : splitL s (w ++ s :: r) = w :: splitL s r := by
  induction w with
  | nil => simp [splitL]
  | cons c w ih =>
    have hc : c ≠ s := fun h => hw (by rw [h]; exact List.mem_cons_self)
    have ih' := ih fun h => hw (List.mem_cons_of_mem _ h)
    show splitL s (c :: (w ++ s :: r)) = _
    rw [splitL, if_neg hc, ih']
    rfl
theorem splitL_self (s : Nat) (w : List Nat) (hw : s ∉ w) : splitL s w = [w] := by
  induction w with
  | nil => rfl
  | cons c w ih =>
    have hc : c ≠ s := fun h => hw (by rw [h]; exact List.mem_cons_self)
    rw [splitL, if_neg hc, ih fun h => hw (List.mem_cons_of_mem _ h)]
    rfl
theorem splitL_join (s : Nat) : ∀ ps : List (List Nat), ps ≠ [] → (∀ p ∈ ps, s ∉ p) → splitL s (TL.joinL [s] ps) = ps
  | [], h, _ => absurd rfl h
  | [p], _, h => splitL_self s p (h p (by simp))
  | p :: q :: r, _, h => by
    rw [TL.joinL]
    show splitL s (p ++ s :: TL.joinL [s] (q :: r)) = _
    rw [splitL_app s p _ (h p (by simp)), splitL_join s (q :: r) (by simp) fun x hx => h x (List.mem_cons_of_mem _ hx)]
/-! ### a header's rows -/
def hstep (st : List (List Nat) × List Nat) (w : List Nat) : List (List Nat) × List Nat :=
  if 60 < st.2.length + 1 + w.length then (st.1 ++ [st.2], 32 :: w) else (st.1, st.2 ++ 32 :: w)
def great (l : List Nat) : List Nat := TL.joinL [45] ((splitL 45 l).map cap)
def hfold (l : List Nat) (ws : List (List Nat)) : List (List Nat) × List Nat := ws.foldl hstep ([], great l ++ [58])
def hrows (l : List Nat) (ws : List (List Nat)) : List (List Nat) := (hfold l ws).1 ++ [(hfold l ws).2]
def strL (ls : List (List Nat)) : List Str := ls.map fun l => ⟨l.toArray⟩
theorem strL_app (a b : List (List Nat)) : strL (a ++ b) = strL a ++ strL b := by unfold strL; rw [List.map_append]
theorem hfold_snoc (l : List Nat) (ws : List (List Nat)) (w : List Nat) : hfold l (ws ++ [w]) = hstep (hfold l ws) w := by
  unfold hfold
  rw [List.foldl_append]
  rfl
theorem foldl_rev_ind {P : List (List Nat) → Prop} (h0 : P []) (hs : ∀ ws w, P ws → P (ws ++ [w])) : ∀ ws, P ws := by
  intro ws
  have key : ∀ r : List (List Nat), P r.reverse := by
    intro r
    induction r with
    | nil => exact h0
    | cons w r ih => rw [List.reverse_cons]; exact hs _ _ ih
  have := key ws.reverse
  rwa [List.reverse_reverse] at this
theorem hfold_len (l : List Nat) (hl : (great l).length ≤ 59) : ∀ ws : List (List Nat), (∀ w ∈ ws, w.length ≤ 59) → (hfold l ws).2.length ≤ 60 ∧ (∀ r ∈ (hfold l ws).1, r.length ≤ 60) ∧ (hfold l ws).1.length ≤ ws.length := by
  refine foldl_rev_ind (P := fun ws => (∀ w ∈ ws, w.length ≤ 59) → (hfold l ws).2.length ≤ 60 ∧ (∀ r ∈ (hfold l ws).1, r.length ≤ 60) ∧ (hfold l ws).1.length ≤ ws.length) ?_ ?_
  · intro _
    refine ⟨?_, (fun r hr => by cases hr), Nat.le_refl _⟩
    show (great l ++ [58]).length ≤ 60
    rw [List.length_append, List.length_singleton]
    omega
  · intro ws w ih h
    obtain ⟨h1, h2, h3⟩ := ih fun x hx => h x (by simp [hx])
    have hw := h w (by simp)
    rw [hfold_snoc]
    unfold hstep
    split
    · refine ⟨by simp only [List.length_cons]; omega, fun r hr => ?_, by simp only [List.length_append, List.length_singleton]; omega⟩
      rcases List.mem_append.mp hr with hr | hr
      · exact h2 r hr
      · rw [List.mem_singleton.mp hr]; exact h1
    · refine ⟨by simp only [List.length_append, List.length_cons]; omega, h2, by simp only [List.length_append, List.length_singleton]; omega⟩
theorem hfold_ok (l : List Nat) (hl : ∀ c ∈ great l, c < 1114112) : ∀ ws : List (List Nat), (∀ w ∈ ws, ∀ c ∈ w, c < 1114112) → (∀ c ∈ (hfold l ws).2, c < 1114112) ∧ ∀ r ∈ (hfold l ws).1, ∀ c ∈ r, c < 1114112 := by
  refine foldl_rev_ind (P := fun ws => (∀ w ∈ ws, ∀ c ∈ w, c < 1114112) → (∀ c ∈ (hfold l ws).2, c < 1114112) ∧ ∀ r ∈ (hfold l ws).1, ∀ c ∈ r, c < 1114112) ?_ ?_
  · intro _
    refine ⟨fun c hc => ?_, fun r hr => by cases hr⟩
    rcases List.mem_append.mp (show c ∈ great l ++ [58] from hc) with h | h
    · exact hl c h
    · rw [List.mem_singleton.mp h]; decide
  · intro ws w ih h
    obtain ⟨h1, h2⟩ := ih fun x hx => h x (by simp [hx])
    have hw := h w (by simp)
    have hw' : ∀ c ∈ 32 :: w, c < 1114112 := fun c hc => by
      rcases List.mem_cons.mp hc with rfl | hc
      · decide
      · exact hw c hc
    rw [hfold_snoc]
    unfold hstep
    split
    · refine ⟨hw', fun r hr => ?_⟩
      rcases List.mem_append.mp hr with hr | hr
      · exact h2 r hr
      · rw [List.mem_singleton.mp hr]; exact h1
    · refine ⟨fun c hc => ?_, h2⟩
      rcases List.mem_append.mp hc with h | h
      · exact h1 c h
      · exact hw' c h
end LH

namespace LH
open PySem PySem.Spec PySem.Calls PyProof.Rows L2
/-! ### a thing in a tuple of data -/
def rInT (K : PySem.W.Frag) : R2 := fun x y H Q => ∃ d ds, Dp K H x d ∧ Dp K H y (.tuple ds) ∧ SeqAt.shaped d = true ∧ SeqAt.shaped (.tuple ds) = true ∧ Q (.bl (ds.any fun z => PyData.eqv z d)) H
theorem op_inT {X : Cx} (K : PySem.W.Frag) (hu : X.A.units + 65 < cLine) (hK : X.K = K := by rfl) : OpR X (compareOp .In) (rInT K) := by
  subst hK
  intro pins s σ H x y v u Q I rx ry h
  obtain ⟨d, ds, hd, he, sd, se, q⟩ := h
  obtain ⟨as, r1⟩ := Dp.reads I d x v hd rx
  obtain ⟨bs, r2⟩ := Dp.reads I (.tuple ds) y u he ry
  exact SeqAt.in_tuple_reads r2 r1 (SeqAt.canLay_of_shaped se) (SeqAt.canLay_of_shaped sd) (room_in_shaped sd hu) ⟨.bl _, H, I, rfl, q⟩
theorem unit1 {k : Nat} {A : Around} (hr : Room k A) : A.units + 1 < cLine := by have := hr.un; omega
theorem room65 {k : Nat} {A : Around} (hr : Room (k + 1) A) : A.units + 65 < cLine := by have := hr.un; omega
end LH

namespace LH
open PySem PySem.Spec PyProof.Rows L2
/-! ### tests told by their truth; an if by its two branches -/
def TellB (H : Hp) (c : Bool) (k : Bool → Hp → Prop) : Prop := ∀ H1, Same H H1 → k c H1
section
variable {t u : TT} {σ : L2.St} {H : Hp} {k : Bool → Hp → Prop}
theorem orT (c d : Bool) (ha : ∀ k', TellB H c k' → t σ H k') (hb : c = false → ∀ H1 k', Same H H1 → TellB H1 d k' → u σ H1 k') (q : TellB H (c || d) k) : tOr t u σ H k := by
  refine ha _ fun H1 s1 => ?_
  cases c with
  | true => exact iteT (q H1 s1)
  | false => exact iteF (hb rfl H1 k s1 fun H2 s2 => q H2 (s1.trans s2))
theorem andT (c d : Bool) (ha : ∀ k', TellB H c k' → t σ H k') (hb : c = true → ∀ H1 k', Same H H1 → TellB H1 d k' → u σ H1 k') (q : TellB H (c && d) k) : tAnd t u σ H k := by
  refine ha _ fun H1 s1 => ?_
  cases c with
  | true => exact iteT (hb rfl H1 k s1 fun H2 s2 => q H2 (s1.trans s2))
  | false => exact iteF (q H1 s1)
theorem notT (c : Bool) (ha : ∀ k', TellB H c k' → t σ H k') (q : TellB H (!c) k) : tNot t σ H k := ha _ fun H1 s1 => q H1 s1
theorem ifT {tc : TT} {t u : TS} {D : Ends} (c : Bool) (hc : ∀ k', TellB H c k' → tc σ H k') (ht : c = true → ∀ H1, Same H H1 → t D σ H1) (hf : c = false → ∀ H1, Same H H1 → u D σ H1) : tIfS tc t u D σ H := by
  refine hc _ fun H1 s1 => ?_
  cases c with
  | true => exact iteT (ht rfl H1 s1)
  | false => exact iteF (hf rfl H1 s1)
theorem ifK {tc : TT} {t u : TS} {D : Ends} (G : ∀ D' : Ends, D' = D → tIfS tc t u D' σ H) : tIfS tc t u D σ H := G D rfl
theorem TellB.eq {c d : Bool} (h : c = d) (q : TellB H d k) : TellB H c k := h ▸ q
end
/-! ### lengths and signs of slices -/
theorem cutTo_len (z : Str) (p : Nat) : (cutS z none (some (p : Int))).length = min p z.length := by rw [cutS_to, mk_len, List.length_take, ← TL.len_tl]
theorem cutFrom_len (z : Str) (p : Nat) : (cutS z (some (p : Int)) none).length = z.length - p := by rw [cutS_from, mk_len, List.length_drop, ← TL.len_tl]
theorem mem_cut {z : Str} {lo hi : Option Int} {c : Nat} (h : c ∈ TL.tl (cutS z lo hi)) : c ∈ TL.tl z := List.mem_of_mem_drop (List.mem_of_mem_take h)
theorem cutV_from (z : List V) (a : Nat) : cutV z (some (a : Int)) none = z.drop a := by
  have e : cutV z (some (a : Int)) none = cutV z (some (a : Int)) (some ((z.length : Nat) : Int)) := by
    unfold cutV
    rw [HT.sIx_none, HT.sIx_nat, HT.sIx_nat]
    simp
  rw [e, cutV_at, List.take_of_length_le (by simp)]
theorem vint_dec (a b : Int) : decide (V.int a = V.int b) = decide (a = b) := decide_eq_decide.mpr ⟨V.int.inj, congrArg _⟩
theorem vstr_dec (a b : Str) : decide (V.str a = V.str b) = decide (a = b) := decide_eq_decide.mpr ⟨V.str.inj, congrArg _⟩
theorem or_false' {a b : Bool} (h : (a || b) = false) : a = false ∧ b = false := by cases a <;> cases b <;> simp_all
end LH
namespace LH
open PySem PySem.Spec PyProof.Rows L2
/-! ### while, its test told by its truth -/
theorem whileT {c : TT} {tb : TS} {D : Ends} {σ : L2.St} {H : Hp} (Pv : L2.St → Hp → Prop) (μ : L2.St → Hp → Nat) (h0 : Pv σ H)
    (hs : ∀ σ H, Pv σ H → ∃ b : Bool, (∀ k, TellB H b k → c σ H k) ∧ (b = true → ∀ H1, Same H H1 → tb { D with nx := fun σ' H' => Pv σ' H' ∧ μ σ' H' < μ σ H, ct := fun σ' H' => Pv σ' H' ∧ μ σ' H' < μ σ H, bk := D.nx } σ H1) ∧ (b = false → ∀ H1, Same H H1 → D.nx σ H1)) : tWhile c tb D σ H := by
  refine ⟨fun m σ H => m = μ σ H ∧ Pv σ H, ⟨_, rfl, h0⟩, ?_⟩
  rintro m σ H ⟨rfl, p⟩
  obtain ⟨b, ht, h1, h2⟩ := hs σ H p
  refine ht _ fun H1 s1 => ?_
  cases b with
  | true => exact ⟨_, fun σ' H' ⟨p', l⟩ => ⟨_, l, rfl, p'⟩, h1 rfl H1 s1⟩
  | false => exact h2 rfl H1 s1
end LH

set_option maxHeartbeats 2000000
namespace LH
open PySem PySem.Spec PySem.Calls PyProof.Rows L2 Builtin Builtin.Str Builtin.Int Builtin.Float
/-! ### a number by two or four figures -/
theorem dig_char : ∀ d : Fin 10, (Nat.digitChar d.val).toNat = 48 + d.val := by decide
def digs (n : Nat) : List Nat := (Nat.toDigits 10 n).map fun c => (if (100 : Nat) == 88 then c.toUpper else c).toNat
theorem digs_lt {n : Nat} (h : n < 10) : digs n = [48 + n] := by
  unfold digs
  rw [Nat.toDigits_of_lt_base h]
  exact congrArg (fun x => [x]) (dig_char ⟨n, h⟩)
theorem digs_ge {n : Nat} (h : 10 ≤ n) : digs n = digs (n / 10) ++ [48 + n % 10] := by
  unfold digs
  rw [Nat.toDigits_of_base_le (by decide) h, List.map_append]
  exact congrArg (fun x => _ ++ [x]) (dig_char ⟨n % 10, Nat.mod_lt _ (by decide)⟩)
theorem dec4_eq {n : Nat} (h : n < 10000) : decT 4 ((n : Nat) : Int) = ⟨#[48 + n / 1000, 48 + n / 100 % 10, 48 + n / 10 % 10, 48 + n % 10]⟩ := by
  have key : ∀ a b c d : Nat, digs n = [d] ∧ a = 48 ∧ b = 48 ∧ c = 48 ∨ digs n = [c, d] ∧ a = 48 ∧ b = 48 ∨ digs n = [b, c, d] ∧ a = 48 ∨ digs n = [a, b, c, d] → decT 4 ((n : Nat) : Int) = ⟨#[a, b, c, d]⟩ := by
    intro a b c d hk
    unfold decT
    rw [show decide (((n : Nat) : Int) < 0) = false from decide_eq_false (by omega), show ((n : Nat) : Int).natAbs = n from rfl]
    show intField' (decF 4) false [] (digs n) [] 3 = _
    rcases hk with ⟨h, rfl, rfl, rfl⟩ | ⟨h, rfl, rfl⟩ | ⟨h, rfl⟩ | h <;> rw [h] <;> rfl
  refine key _ _ _ _ ?_
  by_cases h1 : n < 10
  · exact .inl ⟨by rw [digs_lt h1, show n % 10 = n by omega], by omega, by omega, by omega⟩
  · by_cases h2 : n < 100
    · exact .inr (.inl ⟨by rw [digs_ge (by omega), digs_lt (by omega)]; simp; omega, by omega, by omega⟩)
    · by_cases h3 : n < 1000
      · refine .inr (.inr (.inl ⟨?_, by omega⟩))
        rw [digs_ge (by omega), digs_ge (by omega), digs_lt (by omega)]
        simp
        omega
      · refine .inr (.inr (.inr ?_))
        rw [digs_ge (by omega), digs_ge (by omega), digs_ge (by omega), digs_lt (by omega)]
        simp
        omega
set_option maxHeartbeats 4000000 in
theorem fmt_dec2 {n : Nat} (h : n < 100) : FmtI (Str.ofString "02d") ((n : Nat) : Int) ⟨#[48 + n / 10, 48 + n % 10]⟩ := by
  intro prog w A E s t Q q
  have hlen : (decT 2 ((n : Nat) : Int)).length ≤ sizeLine := by rw [dec2_eq h, sizeLine_eq]; show 2 ≤ 16777216; decide
  rw [← dec2_eq h] at q
  refine PySem.W.KXf.field_int (spec' := Str.ofString "02d") (y := decT 2 ((n : Nat) : Int)) rfl (by decide +kernel) (by decide +kernel) ?_ q
  intro _
  apply PySem.W.KPc.meets_of
  intro _ _ _ _ _ _ _
  unfold Builtin.«int.__format__»
  refine wpAny_bind (wpAny_of_eq (a := (_, _)) rfl ?_)
  refine wpAny_bind (wpAny_of_eq (a := _) rfl ?_)
  kxf_if
  refine wpAny_bind (wpAny_typeNameOf (T := "str") (typeIs_str _ _ _) (by decide) fun _ => ?_)
  refine wpAny_bind (wpAny_of_eq (a := some _) rfl ?_)
  kxf_if
  kxf_if
  refine wpAny_bind (wpAny_typeNameOfCut_int ?_)
  simp only [dec2_parse, decF]
  (repeat kxf_if)
  have hlog : ((n : Nat) : Int).natAbs.log2 < 1920 := by
    rw [Int.natAbs_natCast]
    by_cases h0 : n = 0
    · rw [h0]; decide
    · have : n.log2 < 20 := (Nat.log2_lt h0).mpr (by omega)
      omega
  refine wpAny_bind (m := Builtin.overDigitLimit? ((n : Nat) : Int)) (wpAny_of_eq (PySem.overDigitLimit_small hlog) ?_)
  refine PySem.W.KXf.ret_text (T := decT 2 ((n : Nat) : Int)) rfl hlen ?_
  assumption
set_option maxHeartbeats 4000000 in
theorem fmt_dec4 {n : Nat} (h : n < 10000) : FmtI (Str.ofString "04d") ((n : Nat) : Int) ⟨#[48 + n / 1000, 48 + n / 100 % 10, 48 + n / 10 % 10, 48 + n % 10]⟩ := by
  intro prog w A E s t Q q
  have hlen : (decT 4 ((n : Nat) : Int)).length ≤ sizeLine := by rw [dec4_eq h, sizeLine_eq]; show 4 ≤ 16777216; decide
  rw [← dec4_eq h] at q
  refine PySem.W.KXf.field_int (spec' := Str.ofString "04d") (y := decT 4 ((n : Nat) : Int)) rfl (by decide +kernel) (by decide +kernel) ?_ q
  intro _
  apply PySem.W.KPc.meets_of
  intro _ _ _ _ _ _ _
  unfold Builtin.«int.__format__»
  refine wpAny_bind (wpAny_of_eq (a := (_, _)) rfl ?_)
  refine wpAny_bind (wpAny_of_eq (a := _) rfl ?_)
  kxf_if
  refine wpAny_bind (wpAny_typeNameOf (T := "str") (typeIs_str _ _ _) (by decide) fun _ => ?_)
  refine wpAny_bind (wpAny_of_eq (a := some _) rfl ?_)
  kxf_if
  kxf_if
  refine wpAny_bind (wpAny_typeNameOfCut_int ?_)
  simp only [dec4_parse, decF]
  (repeat kxf_if)
  have hlog : ((n : Nat) : Int).natAbs.log2 < 1920 := by
    rw [Int.natAbs_natCast]
    by_cases h0 : n = 0
    · rw [h0]; decide
    · have : n.log2 < 20 := (Nat.log2_lt h0).mpr (by omega)
      omega
  refine wpAny_bind (m := Builtin.overDigitLimit? ((n : Nat) : Int)) (wpAny_of_eq (PySem.overDigitLimit_small hlog) ?_)
  refine PySem.W.KXf.ret_text (T := decT 4 ((n : Nat) : Int)) rfl hlen ?_
  assumption
/-! ### x in a text or a list -/
def rInBoth (K : PySem.W.Frag) : R2 := fun x y H Q => (∃ (c : Nat) (z : Str), x = .str ⟨#[c]⟩ ∧ y = .str z ∧ Q (.bl (decide (c ∈ z.cps.toList))) H) ∨ rIn K false x y H Q
theorem op_inBoth {X : Cx} (K : PySem.W.Frag) (hK : X.K = K := by rfl) : OpR X (compareOp .In) (rInBoth K) := fun pins s σ H x y v u Q I rx ry h => h.elim (fun h => op_in_sign pins s σ H x y v u Q I rx ry h) (fun h => oIn K hK pins s σ H x y v u Q I rx ry h)
/-- a method as its callers see it -/
structure DefM (P : Program) (w : World) (K : PySem.W.Frag) (mg : Str → Option Value) (base : Heap) (C : Addr) (m : Str) (k : Nat) (f : Addr) (fd : FuncData) (ps : List Str) (sp : Sp) : Prop where
  c : Cls K C
  hm : Meth K C m f
  ok : FnOk P w K mg base CX0 k f fd ps sp
  bd : Binds K fd ps []
/-- a class that is called -/
structure DefC (P : Program) (w : World) (K : PySem.W.Frag) (mg : Str → Option Value) (base : Heap) (x : Str) (C : Addr) (k : Nat) (f : Addr) (fd : FuncData) (ps : List Str) (sp : Sp) : Prop where
  make : Mk K C f
  ok : FnOk P w K mg base CX0 k f fd ps sp
  mg : mg x = some (.ref C)
  bd : Binds K fd ps []
/-- all but the object at a stays -/
def SameBut (a : Addr) (H H' : Hp) : Prop := ∀ b o, b ≠ a → H b = some o → H' b = some o
theorem SameBut.refl (a : Addr) (H : Hp) : SameBut a H H := fun _ _ _ e => e
theorem SameBut.trans {a : Addr} {H H' H2 : Hp} (h : SameBut a H H') (g : SameBut a H' H2) : SameBut a H H2 := fun b o hb e => g b o hb (h b o hb e)
theorem SameBut.of {a : Addr} {H H' : Hp} (h : Same H H') : SameBut a H H' := fun b o _ e => h b o e
theorem SameBut.upd (a : Addr) (H : Hp) (o : HO) : SameBut a H (upd H a o) := fun b u hb e => by rw [upd_ne hb]; exact e
end LH

namespace LH
open PySem PySem.Spec PyProof.Rows L2
/-! ### match over texts: literal cases, one of several, with a guard, the last one any -/
abbrev TM := V → TS
section
variable {X : Cx}
structure PM (X : Cx) (cs : List MatchCase) (t : TM) : Prop where
  run : ∀ (first : Bool) (pins : List (Addr × Obj)) (s : Shared) (σ : L2.St) (H : Hp) (D : Ends) (v : V) (u : Value), Inv X pins σ H s → RelV v u → t v D σ H → wpAny (model X.prog X.w) X.A (matchCases cs X.env u first) (SP X pins D) X.xe s
def tMatch (te : TE) (t : TM) : TS := fun D σ H => te σ H fun v H1 => t v D σ H1
theorem ps_match {e : Expr} {cs : List MatchCase} {te : TE} {t : TM} {pos : Pos} (he : PE X e te) (hc : PM X cs t) : PS X (.Match e cs pos) (tMatch te t) := by
  refine ⟨fun pins s σ H D I h => ?_⟩
  refine wpAny_Match (thn (he.run pins s σ H _ I h) fun u s1 ⟨v, H1, I1, r1, q1⟩ => ?_)
  exact hc.run true pins s1 σ H1 D v u I1 r1 q1
def mNil : TM := fun _ D σ H => D.nx σ H
theorem pm_nil : PM X [] mNil := ⟨fun first pins s σ H D v u I r h => wpAny_matchCases_nil ⟨σ, H, I, h⟩⟩
/-- a pattern of literals -/
structure PLt (X : Cx) (p : Pattern) (zs : List Str) : Prop where
  run : ∀ (pins : List (Addr × Obj)) (s : Shared) (σ : L2.St) (H : Hp) (z : Str) (u : Value) (Q : Option (List (Str × Value)) → Shared → Prop), Inv X pins σ H s → RelV (.str z) u → (∀ s', Inv X pins σ H s' → (z ∈ zs → Q (some []) s') ∧ (z ∉ zs → Q none s')) → wpAny (model X.prog X.w) X.A (matchPattern p X.env u) Q X.xe s
structure PLs (X : Cx) (ps : List Pattern) (zs : List Str) : Prop where
  run : ∀ (pins : List (Addr × Obj)) (s : Shared) (σ : L2.St) (H : Hp) (z : Str) (u : Value) (Q : Option (List (Str × Value)) → Shared → Prop), Inv X pins σ H s → RelV (.str z) u → (∀ s', Inv X pins σ H s' → (z ∈ zs → Q (some []) s') ∧ (z ∉ zs → Q none s')) → wpAny (model X.prog X.w) X.A (matchFirst ps X.env u) Q X.xe s
theorem pl_str {c : Str} {k : Nat} {p pos : Pos} : PLt X (.MatchValue (.Constant (.str c) k p) pos) [c] := by
  refine ⟨fun pins s σ H z u Q I r h => ?_⟩
  refine wpAny_matchPattern_Value (thn ((pe_str (X := X) (x := c)).run pins s σ H (fun v H' => v = .str c ∧ H' = H) I ⟨rfl, rfl⟩) fun x s1 ⟨v, H1, I1, r1, hv, hH⟩ => ?_)
  subst hv hH
  refine thn (op_eq pins s1 σ H1 (.str z) (.str c) u x (fun v H' => v = .bl (decide (V.str z = V.str c)) ∧ H' = H1) I1 r r1 ⟨rfl, rfl, rfl⟩) fun b s2 ⟨v, H2, I2, r2, hv, hH⟩ => ?_
  subst hv hH
  obtain rfl : b = .bool _ := r2
  refine wpAny_truthy_bool ?_
  have hh := h s2 I2
  by_cases e : z = c
  · rw [decide_eq_true (congrArg V.str e), if_pos rfl]
    exact hh.1 (by rw [e]; simp)
  · rw [decide_eq_false (fun h => e (V.str.inj h)), if_neg Bool.false_ne_true]
    exact hh.2 (by simpa using e)
theorem pls_nil : PLs X [] [] := ⟨fun pins s σ H z u Q I r h => wpAny_matchFirst_nil ((h s I).2 (by simp))⟩
theorem pls_cons {p : Pattern} {ps : List Pattern} {zs ys : List Str} (hp : PLt X p zs) (hs : PLs X ps ys) : PLs X (p :: ps) (zs ++ ys) := by
  refine ⟨fun pins s σ H z u Q I r h => ?_⟩
  refine wpAny_matchFirst_cons (hp.run pins s σ H z u _ I r fun s1 I1 => ⟨fun hz => ?_, fun hz => ?_⟩)
  · exact (h s1 I1).1 (List.mem_append_left _ hz)
  · refine hs.run pins s1 σ H z u Q I1 r fun s2 I2 => ⟨fun h2 => (h s2 I2).1 (List.mem_append_right _ h2), fun h2 => (h s2 I2).2 fun h3 => ?_⟩
    rcases List.mem_append.mp h3 with h3 | h3
    · exact hz h3
    · exact h2 h3
theorem pl_or {ps : List Pattern} {zs : List Str} {pos : Pos} (hs : PLs X ps zs) : PLt X (.MatchOr ps pos) zs := by
  refine ⟨fun pins s σ H z u Q I r h => ?_⟩
  refine wpAny_matchPattern_Or (hs.run pins s σ H z u _ I r fun s1 I1 => ⟨fun hz => ?_, fun hz => (h s1 I1).2 hz⟩)
  have : ((namesOfAll (ps.take 1)).filterMap fun n => (([] : List (Str × Value)).lookup n).map (n, ·)) = [] := by
    induction namesOfAll (ps.take 1) with
    | nil => rfl
    | cons x r ih => rw [List.filterMap_cons]; exact ih
  show Q (some _) s1
  rw [this]
  exact (h s1 I1).1 hz
def mLit (zs : List Str) (tb : TS) (rest : TM) : TM := fun v D σ H => ∃ z, v = .str z ∧ (z ∈ zs → tb D σ H) ∧ (z ∉ zs → rest v D σ H)
theorem pm_lit {p : Pattern} {body : List Stmt} {cs : List MatchCase} {zs : List Str} {tb : TS} {rest : TM} (hp : PLt X p zs) (hb : PSs X body tb) (hr : PM X cs rest) : PM X (⟨p, none, body⟩ :: cs) (mLit zs tb rest) := by
  refine ⟨fun first pins s σ H D v u I r h => ?_⟩
  obtain ⟨z, rfl, h1, h2⟩ := h
  refine wpAny_matchCases_cons (hp.run pins s σ H z u _ I r fun s1 I1 => ⟨fun hz => ?_, fun hz => ?_⟩)
  · exact wpAny_assignInOrder_none (hb.run pins s1 σ H D I1 (h1 hz))
  · exact hr.run false pins s1 σ H D _ u I1 r (h2 hz)
def mLitG (zs : List Str) (tg : TT) (tb : TS) (rest : TM) : TM := fun v D σ H => ∃ z, v = .str z ∧ (z ∈ zs → tg σ H fun b H1 => if b = true then tb D σ H1 else rest v D σ H1) ∧ (z ∉ zs → rest v D σ H)
theorem pm_litG {p : Pattern} {g : Expr} {body : List Stmt} {cs : List MatchCase} {zs : List Str} {tg : TT} {tb : TS} {rest : TM} (hp : PLt X p zs) (hg : PT X g tg) (hb : PSs X body tb) (hr : PM X cs rest) : PM X (⟨p, some g, body⟩ :: cs) (mLitG zs tg tb rest) := by
  refine ⟨fun first pins s σ H D v u I r h => ?_⟩
  obtain ⟨z, rfl, h1, h2⟩ := h
  refine wpAny_matchCases_cons (hp.run pins s σ H z u _ I r fun s1 I1 => ⟨fun hz => ?_, fun hz => ?_⟩)
  · refine wpAny_assignInOrder_none (thn (hg.run pins s1 σ H _ I1 (h1 hz)) fun b s2 ⟨H2, I2, q⟩ => ?_)
    cases b with
    | true => exact hb.run pins s2 σ H2 D I2 q
    | false => exact hr.run false pins s2 σ H2 D _ u I2 r q
  · exact hr.run false pins s1 σ H D _ u I1 r (h2 hz)
def mAny (tb : TS) : TM := fun _ D σ H => tb D σ H
theorem pm_any {body : List Stmt} {cs : List MatchCase} {tb : TS} {pos : Pos} (hb : PSs X body tb) : PM X (⟨.MatchAs none none pos, none, body⟩ :: cs) (mAny tb) := by
  refine ⟨fun first pins s σ H D v u I r h => ?_⟩
  refine wpAny_matchCases_cons (wpAny_matchPattern_Capture ?_)
  exact wpAny_assignInOrder_none (hb.run pins s σ H D I h)
/-- a match as its user sees it: what the text is decides -/
theorem mLit_hit {zs : List Str} {tb : TS} {rest : TM} {z : Str} {D : Ends} {σ : L2.St} {H : Hp} (hz : z ∈ zs) (h : tb D σ H) : mLit zs tb rest (.str z) D σ H := ⟨z, rfl, fun _ => h, fun n => absurd hz n⟩
theorem mLit_miss {zs : List Str} {tb : TS} {rest : TM} {z : Str} {D : Ends} {σ : L2.St} {H : Hp} (hz : z ∉ zs) (h : rest (.str z) D σ H) : mLit zs tb rest (.str z) D σ H := ⟨z, rfl, fun n => absurd n hz, fun _ => h⟩
theorem mLitG_hit {zs : List Str} {tg : TT} {tb : TS} {rest : TM} {z : Str} {D : Ends} {σ : L2.St} {H : Hp} (hz : z ∈ zs) (h : tg σ H fun b H1 => if b = true then tb D σ H1 else rest (.str z) D σ H1) : mLitG zs tg tb rest (.str z) D σ H := ⟨z, rfl, fun _ => h, fun n => absurd hz n⟩
theorem mLitG_miss {zs : List Str} {tg : TT} {tb : TS} {rest : TM} {z : Str} {D : Ends} {σ : L2.St} {H : Hp} (hz : z ∉ zs) (h : rest (.str z) D σ H) : mLitG zs tg tb rest (.str z) D σ H := ⟨z, rfl, fun n => absurd n hz, fun _ => h⟩
end
end LH

namespace LH
open PySem PySem.Spec PyProof.Rows L2
/-! ### x not in a tuple of lists; a comprehension over enumerate(list) -/
def rNotInTD (K : PySem.W.Frag) : R2 := fun x y H Q => ∃ d ds, Dp K H x d ∧ Dp K H y (.tuple ds) ∧ SeqAt.shaped d = true ∧ PyData.canLayAll0 ds = true ∧ Q (.bl (!ds.any fun z => PyData.eqv z d)) H
theorem notInTD (K : PySem.W.Frag) {X : Cx} (hu : X.A.units + 65 < cLine) (h : X.K = K := by rfl) : OpR X (compareOp .NotIn) (rNotInTD K) := by
  subst h
  intro pins s σ H x y v u Q I rx ry h
  obtain ⟨d, ds, hd, he, sd, se, q⟩ := h
  obtain ⟨as, r1⟩ := Dp.reads I d x v hd rx
  obtain ⟨bs, r2⟩ := Dp.reads I (.tuple ds) y u he ry
  exact SeqAt.notIn_tuple_reads r2 r1 se (SeqAt.canLay_of_shaped sd) (room_in_shaped sd hu) ⟨.bl _, H, I, rfl, q⟩
theorem lc_enumF {K : PySem.W.Frag} {a : Addr} {tt : TT} {te : TE} {c1 c2 : Nat} {σ : L2.St} {H1 : Hp} {D : Addr} {Qd : Hp → Prop} (xs : List V) (f : Nat → V) (b : Nat → Bool) (hne : c1 ≠ c2) (hL : SqL K H1 a xs) (hD : H1 D = none) (hn : xs.length ≤ sizeLine)
    (ht : ∀ (i : Nat) (H : Hp) (Q : Bool → Hp → Prop), i < xs.length → Same H1 H → (∀ H', Same H H' → Q (b i) H') → tt ((((σ.set c2 none).set c1 none).set c1 (some (.int (i : Nat)))).set c2 (some (xs.getD i .non))) H Q)
    (he : ∀ i H Q, i < xs.length → Same H1 H → b i = true → Tell H (f i) Q → te ((((σ.set c2 none).set c1 none).set c1 (some (.int (i : Nat)))).set c2 (some (xs.getD i .non))) H Q)
    (hd : ∀ H, Same H1 H → H D = some (.lst (((List.range xs.length).filter b).map f)) → Qd H) :
    ∃ W : Nat → Nat → Hp → Prop, (∃ m, W 0 m (upd H1 D (.lst []))) ∧ ∀ i m H, W i m H →
      ((Ite K a).stop i H ∧ Qd H) ∨ ((Ite K a).go i H ∧ ∃ Nx : Hp → Prop, (∀ H', Nx H' → ∃ m', m' < m ∧ W (i + 1) m' H') ∧ ∀ x H', (Ite K a).yld i H x H' → gTup K 2 (gCons (gName c1) (gCons (gName c2) gNil)) x (wipe σ [c1, c2]) H' fun σ2 H2 => wipe σ2 [c1, c2] = wipe σ [c1, c2] ∧ tt σ2 H2 fun b H3 =>
        if b = true then te σ2 H3 fun y H4 => ∃ acc, H4 D = some (.lst acc) ∧ acc.length < sizeLine ∧ Nx (upd H4 D (.lst (acc ++ [y]))) else Nx H3) := by
  refine lc_it walk_enum (fun i H => Same H1 H ∧ H D = some (.lst (((List.range i).filter b).map f))) ⟨same_upd hD, upd_same⟩ (fun i H _ h => h.1.seq hL) (fun i x H H' hi hP hy => ?_) (fun H h => hd H h.1 h.2)
  obtain ⟨sm, eD⟩ := hP
  obtain ⟨T, x1, x2, rfl, nT, rfl, f1, f2⟩ := hy
  obtain rfl := Option.some.inj f1
  have f2 : xs[i]? = some x2 := f2
  have ex : x2 = xs.getD i .non := by rw [List.getD_eq_getElem?_getD, f2]; rfl
  subst ex
  have sT := same_upd (o := .tup [.int (i : Nat), xs.getD i .non]) nT
  refine ⟨T, _, rfl, .inl (.inl upd_same), rfl, _, _, rfl, _, _, rfl, rfl, ?_, ?_⟩
  · show (((((σ.set c2 none).set c1 none).set c1 (some (.int (i : Nat)))).set c2 (some (xs.getD i .non))).set c2 none).set c1 none = (σ.set c2 none).set c1 none
    rw [List.set_set, List.set_set, List.set_comm _ _ hne, List.set_set, List.set_comm _ _ hne.symm, List.set_comm _ _ hne, List.set_set]
  · refine ht i _ _ hi (sm.trans sT) fun H2 s2 => ?_
    have s2 := sT.trans s2
    cases hb : b i with
    | true =>
      rw [if_pos rfl]
      refine he i H2 _ hi (sm.trans s2) hb fun H3 s3 => ⟨_, s3 _ _ (s2 _ _ eD), ?_, ?_, ?_⟩
      · rw [List.length_map]
        have := List.length_filter_le b (List.range i)
        rw [List.length_range] at this
        omega
      · intro b' o hb'
        rw [upd_ne (ne_of_none hb' hD)]
        exact s3 _ _ (s2 _ _ (sm _ _ hb'))
      · rw [upd_same, List.range_succ, List.filter_append, List.map_append]
        simp [hb]
    | false =>
      rw [if_neg Bool.false_ne_true]
      refine ⟨sm.trans s2, ?_⟩
      rw [s2 _ _ eD, List.range_succ, List.filter_append, List.map_append]
      simp [hb]
/-- 'abc'[k].replace(' ', ''): the written text's own token is out by then -/
theorem pe_replIx {X : Cx} {r : R2} {c y z : Str} {b : Expr} {tb : TE} {j j0 k : Nat} {c0 c1 p0 p1 apos pos : Pos} (hr : IxR X r) (hb : PE X b tb) (hs : PlainIx b) (hyz : (y == z) = false := by decide)
    (hst : starEach [.Constant (.str y) j c0, .Constant (.str z) k c1] X.env = [(false, eval (.Constant (.str y) j c0) X.env), (false, eval (.Constant (.str z) k c1) X.env)] := by rfl)
    (hbase : attributeBase (.Subscript (.Constant (.str c) j0 p0) b p1) "replace" X.env (eval (.Subscript (.Constant (.str c) j0 p0) b p1) X.env) = eval (.Subscript (.Constant (.str c) j0 p0) b p1) X.env := by rfl) (hline : (apos.endLine == pos.line) = true := by rfl) :
    PE X (.Call (.Attribute (.Subscript (.Constant (.str c) j0 p0) b p1) "replace" apos) [.Constant (.str y) j c0, .Constant (.str z) k c1] [] pos) (CwR.tReplC (tOp r (tC (.str c)) tb) y z) := by
  refine ⟨fun pins s σ H Q I h => ?_⟩
  refine PySem.Call_method2 hbase hst hline (Subscript_ (Calls.Constant_str ?_))
  refine wpAny_mono (PySem.wpAny_toks_of (n := 1) (by show 1 ≤ s.toks + 1; omega) (hb.run pins _ σ H _ (I.tok _) h)) (fun u s2 q => ?_) fun _ _ x => x.2
  obtain ⟨hk, yv, H2, I2, r2, q2⟩ := q
  refine wpAny_mono (PySem.wpAny_toks_of hk (hr _ _ pins s2 σ H2 (.str c) yv _ u _ I2 ⟨_, rfl⟩ r2 q2 (hs _ _))) (fun v s3 q => ?_) fun _ _ x => x.2
  obtain ⟨hk3, v', H3, I3, r3, x, e1, hb3, q⟩ := q
  subst e1
  obtain ⟨tx, rfl⟩ := r3
  refine ⟨"str", _, PySem.F.plainAttrs_str, PySem.F.slot_str_replace, PySem.F.type_str_replace, typeIs_str _ _ _, (fun _ e => nomatch e), Calls.callWith_builtin rfl (Calls.evalArgs_plain (Calls.spliced_cons (Calls.Constant_str (Calls.spliced_cons (Calls.Constant_str (Calls.spliced_nil ?_))))))⟩
  exact PySem.SC.replace (by show s3.toks ≠ 0; omega) (by show s3.toks + 1 ≠ 0; omega) (by show s3.toks ≠ s3.toks + 1; omega) hyz hb3 fun t' k => ⟨.str (Txt.replace x y z), H3, I3.tok k, ⟨t', rfl⟩, q⟩
end LH

set_option maxHeartbeats 2000000
namespace LH
open PySem PySem.Spec PyProof.Rows L2
/-! ### an exception that is caught and held as a value -/
/-- the exception object at a: its class, its own dict -/
def ExH (cls : Value) (d : Option Addr) (a : Addr) : HO := .ext fun h => ∃ (oe : Obj) (fv : Array Value), h.get? a = some oe ∧ (oe.cls = cls ∧ oe.dict = d) ∧ oe.data = .fields fv
section
variable {X : Cx} {pins : List (Addr × Obj)} {σ : L2.St} {H : Hp} {s : Shared}
theorem hold_inv {a : Addr} {oe : Obj} {fv : Array Value} {cls : Value} {d : Option Addr} (I : Inv X pins σ H s) (ha : s.heap.get? a = some oe) (hz : Zc cls d oe) (hd : oe.data = .fields fv) (na : H a = none) (nL : a ≠ X.env.locals)
    (n0 : X.s_0.heap.get? a = none) (np : ∀ p ∈ X.pn ++ pins, p.1 ≠ a) : Inv X pins σ (upd H a (ExH cls d a)) s := by
  have far : ∀ {b : Addr} {u : HO}, H b = some u → b ≠ a := fun e => ne_of_none e na
  have old : ∀ {b : Addr} {o : Obj}, X.s_0.heap.get? b = some o → b ≠ a := fun {b o} e z => by
    subst z
    rw [n0] at e
    exact nomatch e
  have noCell : ∀ {y : Str} {c : Addr}, X.env.cells.lookup y = some c → c ≠ a := fun {y c} e z => by
    obtain ⟨v, o, ho, hv⟩ := I.cell y c e
    subst z
    rw [ha] at ho
    cases ho
    rw [hd] at hv
    exact nomatch hv
  have keepU : ∀ {b : Addr} {u : HO}, H b = some u → upd H a (ExH cls d a) b = some u := fun e => (upd_ne (far e)).trans e
  have base' : Un X.fs X.ex X.H_0 (upd H a (ExH cls d a)) X.s_0.heap s.heap :=
    { keep := I.base.keep, slot := I.base.slot, there := I.base.there, free := fun b o e n hx => (upd_ne (old e)).trans (I.base.free b o e n hx), tups := fun b xs e => keepU (I.base.tups b xs e), frzs := fun b o u e => keepU (I.base.frzs b o u e),
      tbls := fun b ps e => (I.base.tbls b ps e).imp fun _ q => keepU q }
  have hok' : HOk X.prog X.w (upd H a (ExH cls d a)) s.heap := fun b ob e => by
    by_cases hb : b = a
    · subst hb
      rw [upd_same] at e
      cases e
      exact ⟨⟨oe, fv, ha, hz, hd⟩, ⟨oe, ha⟩, fun _ _ ⟨o, v, q, r⟩ k => ⟨o, v, k o q, r⟩⟩
    · rw [upd_ne hb] at e
      exact (I.hok b ob e).stay (fun _ _ _ q => q) (fun _ q => keepU q) fun _ _ q => keepU q
  exact { ok := I.ok, os := I.os, bare := I.bare, base := base', loc := I.loc, cell := I.cell, free := (upd_ne (Ne.symm nL)).trans I.free, freeC := fun y c e => (upd_ne (noCell e)).trans (I.freeC y c e),
          pin := fun p hp => ⟨(I.pin p hp).1, (upd_ne (np p hp)).trans (I.pin p hp).2.1, (I.pin p hp).2.2⟩, hok := hok', len := I.len }
/-- what such a clause wishes of the body's exception: it is of the class, and the suite's end stands with the object held -/
def wHold (K : PySem.W.Frag) (c : Value) (i : Nat) (ts : TS) (D : Ends) : WX := fun cls d σ H =>
  PySem.W.exmOne K cls c = some true ∧ ∀ a, H a = none → ts { nx := fun σ' H' => H' a = none → D.nx (σ'.set i none) (upd H' a (ExH cls d a)), rt := fun _ _ => False, bk := fun _ _ => False, ct := fun _ _ => False } (σ.set i (some (.ref a))) H
theorem ps_try_hold {x n : Str} {c : Value} {i : Nat} {body rest : List Stmt} {b0 : Stmt} {np pos pos' : Pos} {tb : WX → TS} {ts : TS} (hs : X.stack = X.env :: X.outer) (hf : X.env.frame = some X.env.locals) (hx : X.ex = []) (hN : X.N.Nodup) (hi : X.N[i]? = some n)
    (hln : X.env.kindOf n = some .local) (hc : Names X x c) (hb : ∀ (W : WX) (pn : List (Addr × Obj)) (xe : Value → Shared → Prop), Takes (X.tr pn xe) W → PassesOwn (model X.prog X.w) X.A X.env xe → PSs (X.tr pn xe) body (tb W))
    (hsu : ∀ (a : Addr) (oe : Obj) (pn : List (Addr × Obj)), PSs (X.suite a ((a, oe) :: pn)) (b0 :: rest) ts) :
    PS X (.Try body [.ExceptHandler (some (.Name x np)) (some n) (b0 :: rest) pos'] [] [] pos) (fun D σ H => tb (wHold X.K c i ts D) D σ H) := by
  constructor
  intro pins s σ H D I h
  have hok := I.ok
  have hframes : X.A.frames = some (X.env :: X.outer) := hok.frames.trans (by rw [hs])
  apply wpAny_Try_except
  refine wpAny_mono (PSs.run (hb (wHold X.K c i ts D) (X.pn ++ pins) _ (fun u s' air => ?_) PassesOwn.looking) [] s σ H D (I.toTry _) h) (fun f s1 done => ?_) (fun _ _ z => z)
  · -- an exception is in the air
    obtain ⟨a, B, sI, pins', σ1, H1, cls, d, rfl, J1, nb, up, sky, na, os, ag, fits, wish⟩ := air
    have J : Inv X pins σ1 H1 sI := Inv.ofTry J1 hok
    refine Sky.land (Z := Zc cls d) Zc.steady hframes hf (by rw [hs] at sky; exact sky) fun g fly upg => ?_
    have Jg : Inv X pins σ1 H1 { s' with heap := g } := Inv.landed J nb fly.1 (Heap.UpToSlots.trans up upg) os ag
    obtain ⟨og, fg, hog, zg, dg⟩ := HandSPX.FlyingZ.there fly
    have offFrames : a ∉ frs (X.env :: X.outer) := fun hm => by
      obtain ⟨_, o', e', hno⟩ := fly.2.2.1.mem hm
      rw [hog] at e'
      cases e'
      exact hno _ dg
    have offLocals : a ≠ X.env.locals := fun z => offFrames (List.mem_filterMap.mpr ⟨X.env, by simp, by rw [hf, z]⟩)
    have offFs : a ∉ X.fs := fun hm => by
      obtain ⟨ev, hev, q⟩ := List.mem_filterMap.mp hm
      exact offFrames (List.mem_filterMap.mpr ⟨ev, List.mem_cons_of_mem _ hev, q⟩)
    have gone : sI.heap.get? a = none := by
      cases e : sI.heap.get? a with
      | none => rfl
      | some o => exact absurd ((nb a o e (by rw [hs]; exact offFrames)).symm.trans fly.2.1) (fun z => nomatch z)
    have new0 : X.s_0.heap.get? a = none := by
      cases e : X.s_0.heap.get? a with
      | none => rfl
      | some o =>
        obtain ⟨o', e'⟩ := J.base.there a o e (by rw [hx]; exact List.not_mem_nil)
        rw [gone] at e'
        exact nomatch e'
    have offPins : ∀ p ∈ X.pn ++ pins, p.1 ≠ a := fun p hp z => by
      have e' := (J.pin p hp).1
      rw [z, gone] at e'
      exact nomatch e'
    have Sg := Inv.suite Jg hog dg na offLocals offFs
    refine wpAny_handleBy_cons (codeAny_handlers_test ?_) (fun q => nomatch q)
    have seen := PySem.W.exm_one (M := model X.prog X.w) Jg.kIn (fun A' Q' E' t k q => wpAny_typeOf_ref (k _ _ hog) (by rw [zg.1]; exact q)) fits
    have named : ∀ {Q : Value → Shared → Prop} {E : Value → Shared → Prop}, Q c { s' with heap := g } → wpAny (model X.prog X.w) (X.A.mark (some (.ref a))) (eval (.Name x np) X.env) Q E { s' with heap := g } := fun {Q E} q => by
      rcases hc with ⟨hg, hdbg, hm | ⟨hm, hv, hnn⟩⟩
      · exact ld_glob (X := X.suite a ((a, og) :: (X.pn ++ pins))) Sg hg hm q hdbg
      · exact ld_blt (X := X.suite a ((a, og) :: (X.pn ++ pins))) Sg hg hm hv q hnn hdbg
    refine named (seen.here (codeAny_handlers_suite_as (HandSPX.lands_againZ fly fun k flk upk => ?_)))
    have Jk : Inv X pins σ1 H1 { s' with heap := k } := Inv.landed J nb flk.1 (Heap.UpToSlots.trans (Heap.UpToSlots.trans up upg) upk) os ag
    obtain ⟨ok', fk, hok4, zk, dk⟩ := HandSPX.FlyingZ.there flk
    have Sk := Inv.suite Jk hok4 dk na offLocals offFs
    refine store_ok (X := X.suite a ((a, ok') :: (X.pn ++ pins))) (v := .ref a) Sk hN hi (.inl hln) rfl (fun t St' => ?_) (.inr hln)
    refine wpAny_mono ((hsu a ok' (X.pn ++ pins)).run [] t _ H1 _ St' (wish a na)) (fun fl t1 end1 => ?_) (fun _ _ z => z.elim)
    cases fl with
    | next =>
      obtain ⟨σ2, H2, S2, q2⟩ := end1
      refine gone_ok (X := X.suite a ((a, ok') :: (X.pn ++ pins))) S2 hN hi hln fun t2 S3 => ?_
      obtain ⟨e3, n3, _⟩ := S3.pin (a, ok') (by simp)
      exact ⟨_, _, hold_inv (Inv.unsuite S3 hok) e3 zk dk n3 offLocals new0 offPins, q2 n3⟩
    | brk => obtain ⟨_, _, _, q2⟩ := end1; exact q2.elim
    | cont => obtain ⟨_, _, _, q2⟩ := end1; exact q2.elim
    | ret u => obtain ⟨_, _, _, _, _, q2⟩ := end1; exact q2.elim
  · -- nothing was raised
    cases f with
    | next => obtain ⟨σ1, H1, J1, q⟩ := done; exact wpAny_execs_nil ⟨σ1, H1, Inv.ofTry J1 hok, q⟩
    | brk => obtain ⟨σ1, H1, J1, q⟩ := done; exact ⟨σ1, H1, Inv.ofTry J1 hok, q⟩
    | cont => obtain ⟨σ1, H1, J1, q⟩ := done; exact ⟨σ1, H1, Inv.ofTry J1 hok, q⟩
    | ret u => obtain ⟨v, σ1, H1, J1, r, q⟩ := done; exact ⟨v, σ1, H1, Inv.ofTry J1 hok, r, q⟩
end
end LH
namespace LH
open PySem PySem.Spec PyProof.Rows L2
/-! ### isinstance of a held exception; a walk over pairs -/
theorem getD_app_l {α : Type} (xs ys : List α) (d : α) {i : Nat} (h : i < xs.length) : (xs ++ ys).getD i d = xs.getD i d := by
  rw [List.getD_eq_getElem?_getD, List.getD_eq_getElem?_getD, List.getElem?_append_left h]
theorem getD_app_r {α : Type} (xs ys : List α) (d : α) {i : Nat} (h : xs.length ≤ i) : (xs ++ ys).getD i d = ys.getD (i - xs.length) d := by
  rw [List.getD_eq_getElem?_getD, List.getD_eq_getElem?_getD, List.getElem?_append_right h]
/-- isinstance(e, c), e a held exception of the class at D without an own dict -/
def rIsH (K : PySem.W.Frag) : List V → Hp → VK → Prop := fun xs H Q => ∃ (a D : Addr) (c : V) (cv : Value) (b : Bool), xs = [.ref a, c] ∧ H a = some (ExH (.ref D) none a) ∧ ExcC K D ∧ (∀ u, RelV c u → u = cv) ∧ PySem.W.kitOne K (.ref D) cv = some b ∧ Q (.bl b) H
theorem call_isH {X : Cx} : CallR X (.builtin "isinstance") (rIsH X.K) := by
  intro pins s σ H xs us Q I r h
  obtain ⟨a, D, c, cv, b, rfl, ha, C, hcv, e, q⟩ := h
  obtain ⟨u1, u2, rfl, r1, r2⟩ := vals2 r
  cases (show u1 = Value.ref a from r1)
  obtain rfl := hcv _ r2
  obtain ⟨⟨oe, fv, hget, ⟨h1, h2⟩, h3⟩, _, _⟩ := (show ObjOk X.prog X.w H s.heap a (ExH (.ref D) none a) from I.hok a _ ha)
  have J : PySem.W.InstAt s.heap a oe D none := by
    obtain ⟨oc, od, oda, osl⟩ := oe
    dsimp only at h1 h2 h3
    subst h1 h2 h3
    exact ⟨hget, rfl, rfl, trivial⟩
  exact PySem.W.kia_one (PySem.W.handS_kitx_exc C.hg C.hk C.hs C.hd C.ha C.hn C.ht C.hm) I.kIn J e (fun z => nomatch z) fun tk => ⟨.bl b, H, I.kept (t' := tk) fun _ _ z => z, rfl, q⟩
theorem cIsH {X : Cx} (K : PySem.W.Frag) (h : X.K = K := by rfl) : CallR X (.builtin "isinstance") (rIsH K) := h ▸ call_isH
/-- a comprehension with a test over a list of pairs (tuples that stand), its element f i -/
theorem lc_pairs {K : PySem.W.Frag} {a : Addr} {ts : List Addr} {ps : Nat → V × V} {tt : TT} {te : TE} {c1 c2 : Nat} {σ : L2.St} {H1 : Hp} {D : Addr} {Qd : Hp → Prop} (f : Nat → V) (b : Nat → Bool) (hne : c1 ≠ c2) (hL : SqL K H1 a (ts.map V.ref)) (hT : ∀ i, i < ts.length → SqT K H1 (ts.getD i 0) [(ps i).1, (ps i).2])
    (hD : H1 D = none) (hn : ts.length ≤ sizeLine)
    (ht : ∀ (i : Nat) (H : Hp) (Q : Bool → Hp → Prop), i < ts.length → Same H1 H → (∀ H', Same H H' → Q (b i) H') → tt ((((σ.set c2 none).set c1 none).set c1 (some (ps i).1)).set c2 (some (ps i).2)) H Q)
    (he : ∀ i H Q, i < ts.length → Same H1 H → b i = true → Tell H (f i) Q → te ((((σ.set c2 none).set c1 none).set c1 (some (ps i).1)).set c2 (some (ps i).2)) H Q)
    (hd : ∀ H, Same H1 H → H D = some (.lst (((List.range ts.length).filter b).map f)) → Qd H) :
    ∃ W : Nat → Nat → Hp → Prop, (∃ m, W 0 m (upd H1 D (.lst []))) ∧ ∀ i m H, W i m H →
      ((Itl K a).stop i H ∧ Qd H) ∨ ((Itl K a).go i H ∧ ∃ Nx : Hp → Prop, (∀ H', Nx H' → ∃ m', m' < m ∧ W (i + 1) m' H') ∧ ∀ x H', (Itl K a).yld i H x H' → gTup K 2 (gCons (gName c1) (gCons (gName c2) gNil)) x (wipe σ [c1, c2]) H' fun σ2 H2 => wipe σ2 [c1, c2] = wipe σ [c1, c2] ∧ tt σ2 H2 fun b H3 =>
        if b = true then te σ2 H3 fun y H4 => ∃ acc, H4 D = some (.lst acc) ∧ acc.length < sizeLine ∧ Nx (upd H4 D (.lst (acc ++ [y]))) else Nx H3) := by
  have hm : (ts.map V.ref).length = ts.length := List.length_map ..
  refine lc_it walk_list (fun i H => Same H1 H ∧ H D = some (.lst (((List.range i).filter b).map f))) ⟨same_upd hD, upd_same⟩ (fun i H _ h => h.1.seq hL) (fun i x H H' hi hP hy => ?_) (fun H h => hd H h.1 (by rw [← hm]; exact h.2))
  obtain ⟨sm, eD⟩ := hP
  obtain ⟨rfl, hx⟩ := hy
  rw [hm] at hi
  rw [List.getElem?_map, List.getElem?_eq_getElem hi] at hx
  obtain rfl := Option.some.inj hx
  have hTi := hT i hi
  rw [List.getD_eq_getElem?_getD, List.getElem?_eq_getElem hi] at hTi
  refine ⟨ts[i], _, rfl, seqT sm hTi, rfl, _, _, rfl, _, _, rfl, rfl, ?_, ?_⟩
  · show (((((σ.set c2 none).set c1 none).set c1 (some (ps i).1)).set c2 (some (ps i).2)).set c2 none).set c1 none = (σ.set c2 none).set c1 none
    rw [List.set_set, List.set_set, List.set_comm _ _ hne, List.set_set, List.set_comm _ _ hne.symm, List.set_comm _ _ hne, List.set_set]
  · refine ht i H' _ hi sm fun H2 s2 => ?_
    cases hb : b i with
    | true =>
      rw [if_pos rfl]
      refine he i H2 _ hi (sm.trans s2) hb fun H3 s3 => ⟨_, s3 _ _ (s2 _ _ eD), ?_, ?_, ?_⟩
      · rw [List.length_map]
        have := List.length_filter_le b (List.range i)
        rw [List.length_range] at this
        omega
      · intro b' o hb'
        rw [upd_ne (ne_of_none hb' hD)]
        exact s3 _ _ (s2 _ _ (sm _ _ hb'))
      · rw [upd_same, List.range_succ, List.filter_append, List.map_append]
        simp [hb]
    | false =>
      rw [if_neg Bool.false_ne_true]
      refine ⟨sm.trans s2, ?_⟩
      rw [s2 _ _ eD, List.range_succ, List.filter_append, List.map_append]
      simp [hb]
end LH
namespace LH
open PySem PySem.Spec PyProof.Rows L2
section
variable {P : Program} {w : World} {K : PySem.W.Frag} {mg : Str → Option Value} {base : Heap} {k : Nat} {f : Addr} {fd : FuncData} {ps : List Str} {sp sp' : Sp} {CX : CXT}
/-- what lets nothing out may stand where something may be let out -/
theorem fn_toX (F : FnOk P w K mg base CX0 k f fd ps sp) : FnOk P w K mg base CX k f fd ps sp :=
  ⟨F.len, fun A outer s H args us vs Q E hr he hb hv hs => codeAny_mono (F.run A outer s H args us vs Q E hr he hb hv hs) fun r s' h => by
    cases r with
    | ok r => cases r <;> exact h
    | error e => exact h.elim⟩
/-- two promises of one def -/
theorem fn_or (F : FnOk P w K mg base CX k f fd ps sp) (G : FnOk P w K mg base CX k f fd ps sp') : FnOk P w K mg base CX k f fd ps (fun vs H Q E => sp vs H Q E ∨ sp' vs H Q E) :=
  ⟨fun vs H Q E h => h.elim (F.len vs H Q E) (G.len vs H Q E), fun A outer s H args us vs Q E hr he hb hv hs => hs.elim (F.run A outer s H args us vs Q E hr he hb hv) (G.run A outer s H args us vs Q E hr he hb hv)⟩
end
end LH

namespace LH
open PySem PySem.Spec PyProof.Rows L2
/-! ### small letters of great ones -/
def lowC (c : Nat) : Nat := if 65 ≤ c ∧ c ≤ 90 then c + 32 else c
theorem lower_C {c : Nat} (h : c < 128) : Unicode.lowerOf c = [lowC c] := by
  have : ∀ d : Fin 128, Unicode.lowerOf d.val = [lowC d.val] := by decide +kernel
  exact this ⟨c, h⟩
theorem lower_eq (x : Str) (h : ∀ c ∈ TL.tl x, c < 128) : TL.tl (Txt.lower x) = (TL.tl x).map lowC := by
  unfold Txt.lower
  rw [tl_placed, mapIdx_same (g := fun _ c => [lowC c]) _ fun i c hc => ?_]
  · generalize TL.tl x = l
    have : (l.mapIdx fun _ c => [lowC c]) = (l.map lowC).mapIdx fun _ c => [c] := by
      apply List.ext_getElem?
      intro i
      rw [List.getElem?_mapIdx, List.getElem?_mapIdx, List.getElem?_map]
      cases l[i]? <;> rfl
    rw [this, flat_one]
  · have hm := h c (List.mem_of_getElem? hc)
    unfold Unicode.lowerAt
    have ec : x.cps[i]? = some c := by rw [← hc]; exact Array.getElem?_toList.symm
    rw [ec]
    show (if (c == 0x3A3 && Unicode.endsWord x.cps i) = true then [0x3C2] else Unicode.lowerOf c) = [lowC c]
    have hb2 : (c == 0x3A3) = false := by simp; omega
    rw [hb2, Bool.false_and, if_neg Bool.false_ne_true]
    exact lower_C hm
theorem low_small {c : Nat} (h : 97 ≤ c ∧ c ≤ 122) : lowC c = c := by
  unfold lowC
  rw [if_neg (by omega)]
theorem low_cap : ∀ l : List Nat, Sm l → (cap l).map lowC = l
  | [], _ => rfl
  | c :: r, h => by
    have hc := h c (by simp)
    show lowC (c - 32) :: r.map lowC = c :: r
    have e : lowC (c - 32) = c := by unfold lowC; rw [if_pos (by omega)]; omega
    have er : r.map lowC = r := by
      have : ∀ l : List Nat, Sm l → l.map lowC = l := by
        intro l
        induction l with
        | nil => intro _; rfl
        | cons d r ih => intro h; rw [List.map_cons, low_small (h d (by simp)), ih fun x hx => h x (by simp [hx])]
      exact this r fun x hx => h x (by simp [hx])
    rw [e, er]
theorem joinL_map (f : Nat → Nat) (S : List Nat) : ∀ ps : List (List Nat), (TL.joinL S ps).map f = TL.joinL (S.map f) (ps.map fun p => p.map f)
  | [] => rfl
  | [p] => rfl
  | p :: q :: r => by
    have ih := joinL_map f S (q :: r)
    rw [TL.joinL, List.map_append, List.map_append, ih]
    rfl
theorem joinL_split (s : Nat) : ∀ l : List Nat, TL.joinL [s] (splitL s l) = l
  | [] => rfl
  | c :: r => by
    have ih := joinL_split s r
    have e := splitL_eta s r
    unfold splitL
    by_cases h : c = s
    · rw [if_pos h]
      generalize splitL s r = w at *
      cases w with
      | nil => exact nomatch e
      | cons x t =>
        rw [TL.joinL, ih, h]
        rfl
    · rw [if_neg h]
      generalize splitL s r = w at *
      cases w with
      | nil => exact nomatch e
      | cons x t =>
        show TL.joinL [s] ((c :: x) :: t) = c :: r
        rw [← ih]
        cases t with
        | nil => rfl
        | cons y t => rw [TL.joinL, TL.joinL]; rfl
theorem low_great {l : List Nat} (h : ∀ x ∈ splitL 45 l, Sm x) : (great l).map lowC = l := by
  unfold great
  rw [joinL_map, List.map_map]
  have e : (splitL 45 l).map ((fun p => p.map lowC) ∘ cap) = splitL 45 l := by
    have : ∀ ws : List (List Nat), (∀ x ∈ ws, Sm x) → ws.map ((fun p => p.map lowC) ∘ cap) = ws := by
      intro ws
      induction ws with
      | nil => intro _; rfl
      | cons x r ih => intro h; rw [List.map_cons, ih fun y hy => h y (by simp [hy])]; exact congrArg (· :: r) (low_cap x (h x (by simp)))
    exact this _ h
  rw [e]
  exact joinL_split 45 l
theorem great_length {l : List Nat} (h : ∀ x ∈ splitL 45 l, Sm x) : (great l).length = l.length := by
  have := congrArg List.length (low_great h)
  rwa [List.length_map] at this
/-! ### the beginning of a row that may be a name -/
def isLet (c : Nat) : Bool := (decide (97 ≤ c) && decide (c ≤ 122)) || (decide (65 ≤ c) && decide (c ≤ 90))
def nsig : Nat → Nat → List Nat → Nat
  | _, _, [] => 0
  | w, k, c :: r => if c = 45 ∧ 0 < k ∧ w < 3 then 1 + nsig (w + 1) 0 r else if isLet c = true ∧ k < 8 then 1 + nsig w (k + 1) r else 0
theorem let_no_dash {c : Nat} (h : isLet c = true) : c ≠ 45 ∧ c ≠ 58 ∧ c < 128 := by
  unfold isLet at h
  simp only [Bool.or_eq_true, Bool.and_eq_true, decide_eq_true_eq] at h
  omega
theorem nsig_word : ∀ (p r : List Nat) (w k : Nat), (∀ c ∈ p, isLet c = true) → k + p.length ≤ 8 → nsig w k (p ++ r) = p.length + nsig w (k + p.length) r
  | [], r, w, k, _, _ => by simp
  | c :: p, r, w, k, h, hl => by
    have hc := h c (by simp)
    have hd := let_no_dash hc
    rw [List.length_cons] at hl
    rw [List.cons_append, nsig, if_neg (fun z => hd.1 z.1), if_pos ⟨hc, by omega⟩, nsig_word p r w (k + 1) (fun x hx => h x (by simp [hx])) (by omega), List.length_cons, show k + 1 + p.length = k + (p.length + 1) by omega]
    omega
theorem nsig_join (r : List Nat) : ∀ (ps : List (List Nat)) (w : Nat), ps ≠ [] → w + ps.length ≤ 4 → (∀ p ∈ ps, (∀ c ∈ p, isLet c = true) ∧ 1 ≤ p.length ∧ p.length ≤ 8) → nsig w 0 (TL.joinL [45] ps ++ 58 :: r) = (TL.joinL [45] ps).length
  | [], _, h, _, _ => absurd rfl h
  | [p], w, _, _, h => by
    have hp := h p (by simp)
    show nsig w 0 (p ++ 58 :: r) = p.length
    rw [nsig_word p _ w 0 hp.1 (by omega), nsig, if_neg (fun z => absurd z.1 (by decide)), if_neg (fun z => absurd z.1 (by decide))]
    rfl
  | p :: q :: t, w, _, hl, h => by
    have hp := h p (by simp)
    rw [List.length_cons, List.length_cons] at hl
    have ih := nsig_join r (q :: t) (w + 1) (by simp) (by rw [List.length_cons]; omega) fun x hx => h x (List.mem_cons_of_mem _ hx)
    rw [TL.joinL, List.append_assoc, nsig_word p _ w 0 hp.1 (by omega)]
    show p.length + nsig w (0 + p.length) (45 :: (TL.joinL [45] (q :: t) ++ 58 :: r)) = (p ++ 45 :: TL.joinL [45] (q :: t)).length
    rw [nsig, if_pos ⟨rfl, by omega, by omega⟩, ih, List.length_append, List.length_cons]
    omega
/-! ### words each behind a blank -/
def spw (us : List (List Nat)) : List Nat := (us.map fun u => 32 :: u).flatten
theorem spw_app (a b : List (List Nat)) : spw (a ++ b) = spw a ++ spw b := by unfold spw; rw [List.map_append, List.flatten_append]
theorem spw_join (u : List Nat) : ∀ us : List (List Nat), spw (u :: us) = 32 :: TL.joinL [32] (u :: us)
  | [] => by simp [spw, TL.joinL]
  | v :: us => by
    have ih := spw_join v us
    have e : spw (u :: v :: us) = (32 :: u) ++ spw (v :: us) := by unfold spw; rw [List.map_cons, List.flatten_cons]
    rw [e, ih, TL.joinL]
    rfl
theorem words_spw (x : Str) (us : List (List Nat)) (hx : TL.tl x = spw us) (h : ∀ u ∈ us, WordL u) : (Txt.words x).map TL.tl = us := by
  rw [TL.words_tl, hx]
  cases us with
  | nil => rfl
  | cons u us =>
    rw [spw_join, List.foldl_cons]
    have e : TL.wstep ([], []) 32 = ([], []) := by
      unfold TL.wstep
      rw [if_pos (by decide +kernel), if_pos rfl]
    rw [e, TL.wfold_join _ _ (by simp) fun p hp => ⟨(h p hp).1, fun c hc => space_no ⟨((h p hp).2 c hc).1, ((h p hp).2 c hc).2.1⟩⟩, List.nil_append]
/-! ### a header's rows by their words -/
/-- the rows of a header: its first words behind the name, then rows of at least one word -/
def rowsBy (l : List Nat) (us0 : List (List Nat)) (uss : List (List (List Nat))) : List (List Nat) := (great l ++ 58 :: spw us0) :: uss.map spw
theorem hrows_by (l : List Nat) : ∀ ws : List (List Nat), ∃ us0 uss, hrows l ws = rowsBy l us0 uss ∧ us0 ++ uss.flatten = ws ∧ ∀ us ∈ uss, us ≠ [] := by
  refine foldl_rev_ind (P := fun ws => ∃ us0 uss, hrows l ws = rowsBy l us0 uss ∧ us0 ++ uss.flatten = ws ∧ ∀ us ∈ uss, us ≠ []) ⟨[], [], rfl, rfl, fun _ h => by cases h⟩ ?_
  rintro ws w ⟨us0, uss, e, ew, hne⟩
  unfold hrows at e ⊢
  rw [hfold_snoc]
  generalize hfold l ws = st at *
  obtain ⟨d, c⟩ := st
  unfold hstep
  by_cases h : 60 < c.length + 1 + w.length
  · rw [if_pos h]
    refine ⟨us0, uss ++ [[w]], ?_, ?_, ?_⟩
    · show (d ++ [c]) ++ [32 :: w] = _
      have e' : d ++ [c] = rowsBy l us0 uss := e
      rw [e']
      unfold rowsBy
      rw [List.map_append]
      simp [spw]
    · rw [List.flatten_append, ← List.append_assoc, ew]; simp
    · intro us hus
      rcases List.mem_append.mp hus with h | h
      · exact hne us h
      · rw [List.mem_singleton.mp h]; simp
  · rw [if_neg h]
    have e' : d ++ [c] = rowsBy l us0 uss := e
    rcases List.eq_nil_or_concat uss with rfl | ⟨t, u, rfl⟩
    · refine ⟨us0 ++ [w], [], ?_, ?_, fun _ h => by cases h⟩
      · show d ++ [c ++ 32 :: w] = _
        unfold rowsBy at e' ⊢
        have hd : d = [] := by
          cases d with
          | nil => rfl
          | cons x r => have := congrArg List.length e'; simp at this
        subst hd
        have hc : c = great l ++ 58 :: spw us0 := by simpa using e'
        rw [hc, spw_app]
        simp [spw]
      · rw [← ew]; simp
    · refine ⟨us0, t ++ [u ++ [w]], ?_, ?_, ?_⟩
      · show d ++ [c ++ 32 :: w] = _
        unfold rowsBy at e' ⊢
        rw [List.concat_eq_append, List.map_append, List.map_singleton, ← List.cons_append] at e'
        have h1 := List.append_inj' e' rfl
        have hc : c = spw u := by simpa using h1.2
        rw [List.map_append, List.map_singleton, ← List.cons_append, ← h1.1, hc, spw_app]
        simp [spw]
      · rw [← ew]; simp
      · intro us hus
        rcases List.mem_append.mp hus with h | h
        · exact hne us (by simp [h])
        · rw [List.mem_singleton.mp h]; simp
/-! ### one sign at a text's head -/
theorem starts_one (x y : Str) (s : Nat) (hy : TL.tl y = [s]) : Txt.startswith x y = decide ((TL.tl x)[0]? = some s) := by
  unfold Txt.startswith
  have hyl : y.length = 1 := by rw [TL.len_tl, hy]; rfl
  rw [PySem.StrLaws.subAt_eq, hyl, Bool.eq_iff_iff, Bool.and_eq_true, decide_eq_true_eq, decide_eq_true_eq]
  rw [show x.cps.toList = TL.tl x from rfl, show y.cps.toList = TL.tl y from rfl, hy, List.drop_zero, TL.len_tl]
  cases TL.tl x with
  | nil => simp
  | cons c r => simp
end LH

namespace LH
open PySem PySem.Spec PyProof.Rows L2
/-! ### a text parted at a sign -/
theorem part_at (x y : Str) (c : Nat) (p r : List Nat) (hy : TL.tl y = [c]) (hx : TL.tl x = p ++ c :: r) (hp : c ∉ p) : TL.tl (Txt.partition x y).1 = p ∧ TL.tl (Txt.partition x y).2.2 = r := by
  obtain rfl : y = ⟨#[c]⟩ := TL.ext_tl hy
  have hm0 : x.cps.toList[p.length]? = some c := by
    show (TL.tl x)[p.length]? = some c
    rw [hx]; simp
  have hn0 : ∀ k, k < p.length → x.cps.toList[k]? ≠ some c := fun k hk e => by
    have e' : (TL.tl x)[k]? = some c := e
    rw [hx, List.getElem?_append_left hk] at e'
    exact hp (List.mem_of_getElem? e')
  have hlen : x.length = p.length + (r.length + 1) := by rw [TL.len_tl, hx, List.length_append, List.length_cons]
  unfold Txt.partition
  rcases StrLaws.occ_head x ⟨#[c]⟩ 1 (Nat.le_refl 1) with ⟨h0, hn⟩ | ⟨i, q, h0, hi, hn⟩
  · exact absurd ((StrLaws.subAt_one x c p.length).mpr hm0) (hn _)
  · rw [h0]
    have hm := (StrLaws.subAt_one x c i).mp hi
    have e : i = p.length := by
      rcases Nat.lt_trichotomy i p.length with h | h | h
      · exact absurd hm (hn0 i h)
      · exact h
      · exact absurd ((StrLaws.subAt_one x c p.length).mpr hm0) (hn _ h)
    subst e
    constructor
    · show (Builtin.Str.strSub x 0 p.length).cps.toList = p
      rw [StrLaws.strSub_toList]
      show ((TL.tl x).drop 0).take (p.length - 0) = p
      rw [hx]; simp
    · show (Builtin.Str.strSub x (p.length + 1) x.length).cps.toList = r
      rw [StrLaws.strSub_toList]
      show ((TL.tl x).drop (p.length + 1)).take (x.length - (p.length + 1)) = r
      rw [hx, hlen, show p.length + 1 = p.length + 1 from rfl, List.drop_append, List.drop_of_length_le (by omega)]
      simp
      rw [List.take_of_length_le (by omega)]
theorem part_lens (x y : Str) : (Txt.partition x y).1.length ≤ x.length ∧ (Txt.partition x y).2.2.length ≤ x.length := ⟨(fact_partition x y).1, (fact_partition x y).2.2⟩
/-- str.join inside a comprehension's block -/
theorem pe_joinK {X : Cx} {o e : Expr} {to te : TE} (K : PySem.W.Frag) {apos pos : Pos} (ho : PE X o to) (he : PE X e te) (h : X.K = K := by rfl) (hs : starEach [e] X.env = [(false, eval e X.env)] := by rfl) (hbase : attributeBase o "join" X.env (eval o X.env) = eval o X.env := by rfl) (hline : (apos.endLine == pos.line) = true := by rfl) :
    PE X (.Call (.Attribute o "join" apos) [e] [] pos) (tM1 (fun x xs H Q => ∃ a p, ∃ ys : List Str, x = .str a ∧ xs = [.ref p] ∧ (SqL K H p (ys.map V.str) ∨ SqT K H p (ys.map V.str)) ∧
      (ys.map (·.length)).sum + ys.length * a.length ≤ 16777216 ∧ Q (.str (Txt.join a ys)) H) to te) := by
  subst h
  exact pe_join ho he hs hbase hline
/-! ### a comprehension over a list of pairs that tells a new tuple of each -/
theorem lc_tups {K : PySem.W.Frag} {a : Addr} {ts : List Addr} {ps : Nat → V × V} {te : TE} {c1 c2 : Nat} {σ : L2.St} {H1 : Hp} {D : Addr} {Qd : Hp → Prop} (g : Nat → List V) (hne : c1 ≠ c2) (hL : SqL K H1 a (ts.map V.ref)) (hT : ∀ i, i < ts.length → SqT K H1 (ts.getD i 0) [(ps i).1, (ps i).2])
    (hD : H1 D = none) (hn : ts.length ≤ sizeLine)
    (he : ∀ i H Q, i < ts.length → Same H1 H → (∀ p H', Same H H' → H p = none → H' p = some (.tup (g i)) → Q (.ref p) H') → te ((((σ.set c2 none).set c1 none).set c1 (some (ps i).1)).set c2 (some (ps i).2)) H Q)
    (hd : ∀ H (us : List Addr), Same H1 H → us.length = ts.length → (∀ i, i < ts.length → H (us.getD i 0) = some (.tup (g i))) → H D = some (.lst (us.map V.ref)) → Qd H) :
    ∃ W : Nat → Nat → Hp → Prop, (∃ m, W 0 m (upd H1 D (.lst []))) ∧ ∀ i m H, W i m H →
      ((Itl K a).stop i H ∧ Qd H) ∨ ((Itl K a).go i H ∧ ∃ Nx : Hp → Prop, (∀ H', Nx H' → ∃ m', m' < m ∧ W (i + 1) m' H') ∧ ∀ x H', (Itl K a).yld i H x H' → gTup K 2 (gCons (gName c1) (gCons (gName c2) gNil)) x (wipe σ [c1, c2]) H' fun σ2 H2 => wipe σ2 [c1, c2] = wipe σ [c1, c2] ∧ tYes σ2 H2 fun b H3 =>
        if b = true then te σ2 H3 fun y H4 => ∃ acc, H4 D = some (.lst acc) ∧ acc.length < sizeLine ∧ Nx (upd H4 D (.lst (acc ++ [y]))) else Nx H3) := by
  have hm : (ts.map V.ref).length = ts.length := List.length_map ..
  refine lc_it walk_list (fun i H => Same H1 H ∧ ∃ us : List Addr, us.length = i ∧ (∀ j, j < i → H (us.getD j 0) = some (.tup (g j))) ∧ H D = some (.lst (us.map V.ref))) ⟨same_upd hD, [], rfl, fun j hj => absurd hj (Nat.not_lt_zero j), upd_same⟩ (fun i H _ h => h.1.seq hL) (fun i x H H' hi hP hy => ?_) (fun H h => by
    obtain ⟨sm, us, hl, hu, e⟩ := h
    rw [hm] at hl hu
    exact hd H us sm hl hu e)
  obtain ⟨sm, us, hl, hu, eD⟩ := hP
  obtain ⟨rfl, hx⟩ := hy
  rw [hm] at hi
  rw [List.getElem?_map, List.getElem?_eq_getElem hi] at hx
  obtain rfl := Option.some.inj hx
  have hTi := hT i hi
  rw [List.getD_eq_getElem?_getD, List.getElem?_eq_getElem hi] at hTi
  refine ⟨ts[i], _, rfl, seqT sm hTi, rfl, _, _, rfl, _, _, rfl, rfl, ?_, ?_⟩
  · show (((((σ.set c2 none).set c1 none).set c1 (some (ps i).1)).set c2 (some (ps i).2)).set c2 none).set c1 none = (σ.set c2 none).set c1 none
    rw [List.set_set, List.set_set, List.set_comm _ _ hne, List.set_set, List.set_comm _ _ hne.symm, List.set_comm _ _ hne, List.set_set]
  · refine he i H' _ hi sm fun p H3 s3 np e3 => ⟨_, s3 _ _ eD, ?_, ?_, us ++ [p], ?_, ?_, ?_⟩
    · rw [List.length_map]; omega
    · intro b' o hb'
      rw [upd_ne (ne_of_none hb' hD)]
      exact s3 _ _ (sm _ _ hb')
    · rw [List.length_append, hl]; rfl
    · intro j hj
      have hDt : ∀ q xs, H3 q = some (.tup xs) → q ≠ D := fun q xs e z => by
        rw [z, s3 _ _ eD] at e
        exact nomatch e
      by_cases hj2 : j < i
      · rw [getD_app_l _ _ _ (by omega)]
        have e4 := s3 _ _ (hu j hj2)
        rw [upd_ne (hDt _ _ e4)]
        exact e4
      · have : j = i := by omega
        subst this
        rw [getD_app_r _ _ _ (by omega), hl, Nat.sub_self]
        show upd H3 D _ p = _
        rw [upd_ne (hDt _ _ e3)]
        exact e3
    · rw [upd_same, List.map_append]
      rfl
end LH

namespace LH
open PySem PySem.Spec PyProof.Rows L2
/-! ### comprehensions whose elements are known by a property alone -/
theorem lc_dem {J : It} {n : Nat} {G : Hp → Prop} {te : TE} {c : Nat} {σ : L2.St} {H1 : Hp} {D : Addr} {Qd : Hp → Prop} (xs : Nat → V) (Pe : Nat → V → Prop) (w : Walk J n G (YFn xs)) (hG : ∀ H, Same H1 H → G H) (hD : H1 D = none) (hn : n ≤ sizeLine)
    (he : ∀ i H Q, i < n → Same H1 H → (∀ H' v, Same H H' → Pe i v → Q v H') → te ((σ.set c none).set c (some (xs i))) H Q)
    (hd : ∀ H vs, Same H1 H → vs.length = n → (∀ i, i < n → Pe i (vs.getD i .non)) → H D = some (.lst vs) → Qd H) :
    ∃ W : Nat → Nat → Hp → Prop, (∃ m, W 0 m (upd H1 D (.lst []))) ∧ ∀ i m H, W i m H →
      (J.stop i H ∧ Qd H) ∨ (J.go i H ∧ ∃ Nx : Hp → Prop, (∀ H', Nx H' → ∃ m', m' < m ∧ W (i + 1) m' H') ∧ ∀ x H', J.yld i H x H' → gName c x (wipe σ [c]) H' fun σ2 H2 => wipe σ2 [c] = wipe σ [c] ∧ tYes σ2 H2 fun b H3 =>
        if b = true then te σ2 H3 fun y H4 => ∃ acc, H4 D = some (.lst acc) ∧ acc.length < sizeLine ∧ Nx (upd H4 D (.lst (acc ++ [y]))) else Nx H3) := by
  refine lc_it w (fun i H => Same H1 H ∧ ∃ vs : List V, vs.length = i ∧ (∀ j, j < i → Pe j (vs.getD j .non)) ∧ H D = some (.lst vs)) ⟨same_upd hD, [], rfl, fun j hj => absurd hj (Nat.not_lt_zero j), upd_same⟩ (fun i H _ h => hG H h.1) (fun i x H H' hi hP hy => ?_) (fun H h => by
    obtain ⟨sm, vs, hl, hv, e⟩ := h
    exact hd H vs sm hl hv e)
  obtain ⟨sm, vs, hl, hv, eD⟩ := hP
  obtain ⟨rfl, rfl⟩ := hy
  refine ⟨?_, ?_⟩
  rotate_left
  · unfold tYes
    dsimp only
    rw [if_pos rfl]
    refine he i H' _ hi sm fun H3 v s3 pv => ⟨_, s3 _ _ eD, by omega, ?_, vs ++ [v], by rw [List.length_append, hl]; rfl, fun j hj => ?_, upd_same⟩
    · intro b' o hb'
      rw [upd_ne (ne_of_none hb' hD)]
      exact s3 _ _ (sm _ _ hb')
    · by_cases hj2 : j < i
      · rw [getD_app_l _ _ _ (by omega)]
        exact hv j hj2
      · have : j = i := by omega
        subst this
        rw [getD_app_r _ _ _ (by omega), hl, Nat.sub_self]
        exact pv
  · show (((σ.set c none).set c (some (xs i))).set c none) = σ.set c none
    rw [List.set_set, List.set_set]
theorem lc_enumD {K : PySem.W.Frag} {a : Addr} {te : TE} {c1 c2 : Nat} {σ : L2.St} {H1 : Hp} {D : Addr} {Qd : Hp → Prop} (xs : List V) (Pe : Nat → V → Prop) (hne : c1 ≠ c2) (hL : SqL K H1 a xs) (hD : H1 D = none) (hn : xs.length ≤ sizeLine)
    (he : ∀ i H Q, i < xs.length → Same H1 H → (∀ H' v, Same H H' → Pe i v → Q v H') → te ((((σ.set c2 none).set c1 none).set c1 (some (.int (i : Nat)))).set c2 (some (xs.getD i .non))) H Q)
    (hd : ∀ H vs, Same H1 H → vs.length = xs.length → (∀ i, i < xs.length → Pe i (vs.getD i .non)) → H D = some (.lst vs) → Qd H) :
    ∃ W : Nat → Nat → Hp → Prop, (∃ m, W 0 m (upd H1 D (.lst []))) ∧ ∀ i m H, W i m H →
      ((Ite K a).stop i H ∧ Qd H) ∨ ((Ite K a).go i H ∧ ∃ Nx : Hp → Prop, (∀ H', Nx H' → ∃ m', m' < m ∧ W (i + 1) m' H') ∧ ∀ x H', (Ite K a).yld i H x H' → gTup K 2 (gCons (gName c1) (gCons (gName c2) gNil)) x (wipe σ [c1, c2]) H' fun σ2 H2 => wipe σ2 [c1, c2] = wipe σ [c1, c2] ∧ tYes σ2 H2 fun b H3 =>
        if b = true then te σ2 H3 fun y H4 => ∃ acc, H4 D = some (.lst acc) ∧ acc.length < sizeLine ∧ Nx (upd H4 D (.lst (acc ++ [y]))) else Nx H3) := by
  refine lc_it walk_enum (fun i H => Same H1 H ∧ ∃ vs : List V, vs.length = i ∧ (∀ j, j < i → Pe j (vs.getD j .non)) ∧ H D = some (.lst vs)) ⟨same_upd hD, [], rfl, fun j hj => absurd hj (Nat.not_lt_zero j), upd_same⟩ (fun i H _ h => h.1.seq hL) (fun i x H H' hi hP hy => ?_) (fun H h => by
    obtain ⟨sm, vs, hl, hv, e⟩ := h
    exact hd H vs sm hl hv e)
  obtain ⟨sm, vs, hl, hv, eD⟩ := hP
  obtain ⟨T, x1, x2, rfl, nT, rfl, f1, f2⟩ := hy
  obtain rfl := Option.some.inj f1
  have f2 : xs[i]? = some x2 := f2
  have ex : x2 = xs.getD i .non := by rw [List.getD_eq_getElem?_getD, f2]; rfl
  subst ex
  have sT := same_upd (o := .tup [.int (i : Nat), xs.getD i .non]) nT
  refine ⟨T, _, rfl, .inl (.inl upd_same), rfl, _, _, rfl, _, _, rfl, rfl, ?_, ?_⟩
  · show (((((σ.set c2 none).set c1 none).set c1 (some (.int (i : Nat)))).set c2 (some (xs.getD i .non))).set c2 none).set c1 none = (σ.set c2 none).set c1 none
    rw [List.set_set, List.set_set, List.set_comm _ _ hne, List.set_set, List.set_comm _ _ hne.symm, List.set_comm _ _ hne, List.set_set]
  · unfold tYes
    dsimp only
    rw [if_pos rfl]
    refine he i _ _ hi (sm.trans sT) fun H3 v s3 pv => ⟨_, s3 _ _ (sT _ _ eD), by omega, ?_, vs ++ [v], by rw [List.length_append, hl]; rfl, fun j hj => ?_, upd_same⟩
    · intro b' o hb'
      rw [upd_ne (ne_of_none hb' hD)]
      exact s3 _ _ (sT _ _ (sm _ _ hb'))
    · by_cases hj2 : j < i
      · rw [getD_app_l _ _ _ (by omega)]
        exact hv j hj2
      · have : j = i := by omega
        subst this
        rw [getD_app_r _ _ _ (by omega), hl, Nat.sub_self]
        exact pv
/-! ### while a written text is in x: x = x.replace(..) -/
def PTt (X : Cx) (e : Expr) (t : TT) : Prop := ∀ (pins : List (Addr × Obj)) (s : Shared) (σ : L2.St) (H : Hp) (Q : Bool → Hp → Prop), Inv X pins σ H s → t σ H Q → wpAny (model X.prog X.w) X.A (isTrue e X.env (eval e X.env)) (fun b s' => 1 ≤ s'.toks ∧ TP X pins σ Q b s') X.xe s
theorem ptt_inStr {X : Cx} {op : CmpOp} {r : R2} {c : Str} {b : Expr} {tb : TE} {j0 : Nat} {p0 pos : Pos} (ho : OpR X (compareOp op) r) (hb : PE X b tb) (hm : behindInMarks op b = false) : PTt X (.Compare (.Constant (.str c) j0 p0) [op] [b] pos) (tTest (tOp r (tC (.str c)) tb)) := by
  intro pins s σ H Q I h
  refine wpAny_isTrue_Compare1 (Calls.Constant_str ?_) hm
  refine wpAny_mono (PySem.wpAny_toks_of (n := 1) (by show 1 ≤ s.toks + 1; omega) (hb.run pins _ σ H _ (I.tok _) h)) (fun u s2 q => ?_) fun _ _ x => x.2
  obtain ⟨hk, y, H2, I2, r2, q2⟩ := q
  refine wpAny_mono (PySem.wpAny_toks_of hk (ho pins s2 σ H2 (.str c) y _ u _ I2 ⟨_, rfl⟩ r2 q2)) (fun cc s3 q => ?_) fun _ _ x => x.2
  obtain ⟨hk3, z, H3, I3, r3, k, e, q3⟩ := q
  subst e
  cases r3
  exact wpAny_truthy_bool ⟨hk3, H3, I3, q3⟩
theorem ps_whileT {X : Cx} {c : Expr} {body : List Stmt} {tc : TT} {tb : TS} {pos : Pos} (hp : PassesOwn (model X.prog X.w) X.A X.env X.xe) (hc : PTt X c tc) (hb : PSsT X body tb) : PS X (.While c body [] pos) (tWhile tc tb) := by
  refine ⟨fun pins s σ H D I h => ?_⟩
  obtain ⟨W, ⟨m0, w0⟩, turn⟩ := h
  refine wpAny_While (codeAny_whileLoop (fun n s' => ∃ σ' H', Inv X pins σ' H' s' ∧ W n σ' H') ?_ m0 ⟨σ, H, I, w0⟩)
  rintro n s1 ⟨σ1, H1, I1, w1⟩
  refine wpAny_passesOwn hp (thn (hc pins s1 σ1 H1 _ I1 (turn n σ1 H1 w1)) fun b s2 ⟨tk2, H2, I2, q2⟩ => ?_)
  cases b with
  | true =>
    obtain ⟨N, hN, q2⟩ := q2
    rw [if_pos rfl]
    refine wpAny_passesOwn hp (thn (hb pins s2 σ1 H2 _ tk2 I2 q2) fun f s3 q3 => ?_)
    cases f with
    | next =>
      obtain ⟨σ3, H3, I3, n3⟩ := q3
      obtain ⟨m', hm, w3⟩ := hN σ3 H3 n3
      exact ⟨m', hm, σ3, H3, I3, w3⟩
    | cont =>
      obtain ⟨σ3, H3, I3, n3⟩ := q3
      obtain ⟨m', hm, w3⟩ := hN σ3 H3 n3
      exact ⟨m', hm, σ3, H3, I3, w3⟩
    | brk => exact q3
    | ret v => exact q3
  | false =>
    rw [if_neg Bool.false_ne_true]
    exact wpAny_execs_nil ⟨σ1, H2, I2, q2⟩
theorem pst_set {X : Cx} {i : Nat} {x : Str} {e : Expr} {te : TE} {pos' pos : Pos} (hN : X.N.Nodup) (hi : X.N[i]? = some x) (hx : Loc X.env.scope x) (he : PET X e te) (hs : swapsWith e (some (.Name x pos')) pos.line X.env = pure false := by rfl) (hf : X.fn x = true ∨ X.env.scope.names.lookup x = some .local := by first | exact .inl rfl | exact .inr rfl | assumption) :
    PST X (.Assign [.Name x pos'] e pos) (tAsg te (gName i)) := fun pins s σ H D h0 I h =>
  wpAny_Assign_Name (thn (he pins s σ H _ h0 I h) fun v s1 ⟨y, H1, I1, r1, q1⟩ => store_ok I1 hN hi hx r1 (fun s2 I2 => ⟨_, H1, I2, q1⟩) hf) hs
/-! ### two blanks by one -/
theorem repl2_cons (c : Nat) (r : List Nat) : PySem.StrLaws.replL [32, 32] [32] (c :: r) = if (c :: r).take 2 = [32, 32] then 32 :: PySem.StrLaws.replL [32, 32] [32] (r.drop 1) else c :: PySem.StrLaws.replL [32, 32] [32] r := by
  split
  · rename_i h
    exact PySem.StrLaws.replL_hit (y := [32, 32]) (z := [32]) (by decide) h
  · rename_i h
    exact PySem.StrLaws.replL_miss (y := [32, 32]) (z := [32]) h
theorem repl2 : ∀ (n : Nat) (l : List Nat), l.length ≤ n → (PySem.StrLaws.replL [32, 32] [32] l).length ≤ l.length ∧ (l ≠ [] → PySem.StrLaws.replL [32, 32] [32] l ≠ []) ∧ (∀ c ∈ PySem.StrLaws.replL [32, 32] [32] l, c ∈ l) ∧ (dbl 32 l = true → (PySem.StrLaws.replL [32, 32] [32] l).length < l.length)
  | _, [], _ => by
    rw [PySem.StrLaws.replL_nil]
    exact ⟨Nat.le_refl _, fun h => absurd rfl h, (fun c h => by cases h), fun h => by simp [dbl] at h⟩
  | 0, _ :: _, h => absurd h (by simp)
  | n + 1, c :: r, h => by
    rw [repl2_cons]
    have hr : r.length ≤ n := by simpa using h
    split
    · rename_i h2
      obtain ⟨h1, _, h3, _⟩ := repl2 n (r.drop 1) (by rw [List.length_drop]; omega)
      rw [List.length_drop] at h1
      have hc : c = 32 ∧ ∃ r', r = 32 :: r' := by
        cases r with
        | nil => simp at h2
        | cons d r => simp at h2; exact ⟨h2.1, r, by rw [h2.2]⟩
      obtain ⟨rfl, r', rfl⟩ := hc
      simp only [List.length_cons] at h1 ⊢
      refine ⟨by omega, fun _ => by simp, fun c hc => ?_, fun _ => by omega⟩
      rcases List.mem_cons.mp hc with rfl | hc
      · simp
      · have := h3 c hc
        exact List.mem_cons_of_mem _ (List.mem_of_mem_drop this)
    · rename_i h2
      obtain ⟨h1, _, h3, h4⟩ := repl2 n r hr
      simp only [List.length_cons]
      refine ⟨by omega, fun _ => by simp, fun d hd => ?_, fun hd => ?_⟩
      · rcases List.mem_cons.mp hd with rfl | hd
        · exact List.mem_cons_self ..
        · exact List.mem_cons_of_mem _ (h3 d hd)
      · have : dbl 32 r = true := by
          rw [dbl_iff] at hd ⊢
          obtain ⟨i, i1, i2⟩ := hd
          cases i with
          | zero =>
            exfalso
            apply h2
            cases r with
            | nil => simp at i2
            | cons d r => simp at i1 i2; rw [i1, i2]; rfl
          | succ i => exact ⟨i, by simpa using i1, by simpa using i2⟩
        have := h4 this
        omega
end LH

namespace LH
open PySem PySem.Spec PyProof.Rows L2
/-! ### a def whose body replaces written texts: binding its parameters gives a token -/
theorem psst_nox {X : Cx} {st : List Stmt} {t : TS} (h : PSsT X.nox st t) : PSsT X st t := fun pins s σ H D h0 I hw =>
  wpAny_mono (h pins s σ H D h0 (I.wish _) hw) (fun _ _ q => q.unwish) fun _ _ z => False.elim z
theorem fun_okT {P : Program} {w : World} {K : PySem.W.Frag} {mg : Str → Option Value} {base : Heap} {x qual : Str} {st : Stmt} {f : Addr} {fd : FuncData} {N ps : List Str} {k : Nat} {sp : Sp} (F : Fun K x qual st f fd) (S : FnScope N ps (defScope st)) (hnc : ∀ y ∈ (defScope st).names, y.2 ≠ .cell) (hps : 1 ≤ ps.length) (len : ∀ vs H Q E, sp vs H Q E → vs.length = ps.length)
    (hbody : ∀ (cdv : Value) (A : Around) (outer : List Env) (s : Shared) (H : Hp) (vs : List V) (Q : VK) (E : XK), Room k (A.deeper (envOfC qual (defScope st) s.heap.objs.size f cdv)) → sp vs H Q E →
      ∃ t, PSsT (cxOf CX0 P w K mg base N qual (defScope st) f cdv A outer s H E).nox (defBody st) t ∧ t { nx := fun _ H' => Q .non H', rt := Q } (start N vs) H) : FnOk P w K mg base CX0 (k + 1) f fd ps sp := by
  obtain ⟨oc, od, kV, doc, pm, an, cdv, ct, osl, rfl, lk, hcd⟩ := F.ex
  refine fn_ofT lk hcd S hnc hps len fun A outer s H vs Q E hr hsp => ?_
  obtain ⟨t, h, q⟩ := hbody cdv A outer s H vs Q E hr hsp
  exact ⟨t, psst_nox h, q⟩
theorem repl1 (y : Nat) (z : List Nat) : ∀ l : List Nat, PySem.StrLaws.replL [y] z l = l.flatMap fun c => if c = y then z else [c]
  | [] => PySem.StrLaws.replL_nil
  | c :: r => by
    by_cases h : c = y
    · rw [PySem.StrLaws.replL_hit (y := [y]) (z := z) (by simp) (by rw [h]; rfl), List.flatMap_cons, if_pos h, ← repl1 y z r]
      rfl
    · rw [PySem.StrLaws.replL_miss (y := [y]) (z := z) (fun e => h (List.cons.inj e).1), List.flatMap_cons, if_neg h, ← repl1 y z r]
      rfl
theorem tl_repl1 {x y z : Str} {c : Nat} (hy : TL.tl y = [c]) : TL.tl (Txt.replace x y z) = (TL.tl x).flatMap fun d => if d = c then TL.tl z else [d] := by
  have hl : 1 ≤ y.length := by
    have := congrArg List.length hy
    show 1 ≤ y.cps.size
    have e : (TL.tl y).length = y.cps.size := by show y.cps.toList.length = _; simp
    rw [e] at this
    rw [this]
    exact Nat.le_refl _
  have := PySem.StrLaws.replace_list (x := x) (y := y) (z := z) hl
  show (Txt.replace x y z).cps.toList = _
  rw [this]
  have hy : y.cps.toList = [c] := hy
  rw [hy]
  exact repl1 c _ _
theorem replace_len_le (x y z : Str) : (Txt.replace x y z).length ≤ x.length + (x.length + 1) * z.length := TK.replace_len x y z
end LH

namespace LH
open PySem PySem.Spec PyProof.Rows L2
/-! ### classes that are called with their last parameters left to their defaults; classes that isinstance is asked of; defs that are never called -/
structure DefCd (P : Program) (w : World) (K : PySem.W.Frag) (mg : Str → Option Value) (base : Heap) (x : Str) (C : Addr) (k : Nat) (f : Addr) (fd : FuncData) (ps : List Str) (dvs : List V) (sp : Sp) : Prop where
  make : Mk K C f
  ok : FnOk P w K mg base CX0 k f fd ps sp
  mg : mg x = some (.ref C)
  bd : ∃ ds, Vals dvs ds ∧ Binds K fd ps ds
structure ClsI (K : PySem.W.Frag) (C : Addr) : Prop where
  c : Cls K C
  ha : PySem.W.findIn K (.ref C) "__class__" = some (some (.builtin "object.__class__"))
  hn : PySem.W.specialIn K (.builtin "object.__class__") "__get__" = some (some (.builtin "getset_descriptor.__get__"))
  ht : PySem.W.takesIn K (.builtin "object.__class__") = some true
  hm : PySem.W.mroIn K C (.type "object") = some true
  me : PySem.W.kitOne K (.ref C) (.ref C) = some true
theorem ClsI.ty {K : PySem.W.Frag} {C a dx : Addr} {H : Hp} {fs : List (Str × V)} (h : ClsI K C) (e : H a = some (.ins C dx fs)) : TyX K H (.ref a) (.ref C) := .base (.ins e h.c h.ha h.hn h.ht h.hm)
def sp_never : Sp := fun _ _ _ _ => False
theorem fn_never {P : Program} {w : World} {K : PySem.W.Frag} {mg : Str → Option Value} {base : Heap} {CX : CXT} {k : Nat} {f : Addr} {fd : FuncData} {ps : List Str} : FnOk P w K mg base CX k f fd ps sp_never :=
  ⟨fun _ _ _ _ h => h.elim, fun _ _ _ _ _ _ _ _ _ _ _ _ _ h => h.elim⟩
theorem pe_fldK (K : PySem.W.Frag) {X : Cx} {e : Expr} {ta : TE} {f : Str} {pos : Pos} (he : PE X e ta) (hb : attributeBase e f X.env (eval e X.env) = eval e X.env) (h : X.K = K := by rfl) : PE X (.Attribute e f pos) (L2.tFld K ta f) := h ▸ pe_fld he hb
end LH

namespace LH
open PySem PySem.Spec PyProof.Rows L2
/-! ### whether a thing is in a list of data -/
theorem inD (K : PySem.W.Frag) {X : Cx} (hu : X.A.units + 65 < cLine) (h : X.K = K := by rfl) : OpR X (compareOp .In) (rInD K) := h ▸ op_inD hu
end LH

namespace LH
open PySem PySem.Spec PyProof.Rows L2
/-! ### a comprehension over two clauses, the second one over a new list that the first one's item leads to -/
theorem lc_two {K : PySem.W.Frag} {J : It} {n : Nat} {G : Hp → Prop} {wi1 : TI} {te : TE} {c c1 : Nat} {σ : L2.St} {H1 : Hp} {D : Addr} {Qd : Hp → Prop} (xs : Nat → V) (ys : Nat → List V) (f : Nat → Nat → V) (hne : c ≠ c1) (w : Walk J n G (YFn xs)) (hG : ∀ H, Same H1 H → G H) (hD : H1 D = none)
    (hn : ∀ i, i ≤ n → (((List.range i).map fun i => (List.range (ys i).length).map (f i)).flatten).length ≤ sizeLine)
    (hi : ∀ i H (R : It → Hp → Prop), i < n → Same H1 H → (∀ H' p, Same H H' → H p = none → H' p = some (.lst (ys i)) → R (Itl K p) H') → wi1 (((σ.set c1 none).set c none).set c (some (xs i))) H R)
    (he : ∀ i j H Q, i < n → j < (ys i).length → Same H1 H → Tell H (f i j) Q → te (((((σ.set c1 none).set c none).set c (some (xs i))).set c1 none).set c1 (some ((ys i).getD j .non))) H Q)
    (hd : ∀ H, Same H1 H → H D = some (.lst (((List.range n).map fun i => (List.range (ys i).length).map (f i)).flatten)) → Qd H) :
    ∃ W : Nat → Nat → Hp → Prop, (∃ m, W 0 m (upd H1 D (.lst []))) ∧ ∀ i m H, W i m H →
      (J.stop i H ∧ Qd H) ∨ (J.go i H ∧ ∃ Nx : Hp → Prop, (∀ H', Nx H' → ∃ m', m' < m ∧ W (i + 1) m' H') ∧ ∀ x H', J.yld i H x H' → gName c x (wipe σ [c, c1]) H' fun σ2 H2 => wipe σ2 [c, c1] = wipe σ [c, c1] ∧ tYes σ2 H2 fun b H3 =>
        if b = true then wi1 σ2 H3 fun J1 H4 => ∃ W1 : Nat → Nat → Hp → Prop, (∃ m, W1 0 m H4) ∧ ∀ j k H, W1 j k H →
          (J1.stop j H ∧ Nx H) ∨ (J1.go j H ∧ ∃ Nx1 : Hp → Prop, (∀ H', Nx1 H' → ∃ k', k' < k ∧ W1 (j + 1) k' H') ∧ ∀ x H', J1.yld j H x H' → gName c1 x (wipe σ2 [c1]) H' fun σ3 H5 => wipe σ3 [c1] = wipe σ2 [c1] ∧ tYes σ3 H5 fun b H6 =>
            if b = true then te σ3 H6 fun y H7 => ∃ acc, H7 D = some (.lst acc) ∧ acc.length < sizeLine ∧ Nx1 (upd H7 D (.lst (acc ++ [y]))) else Nx1 H6)
        else Nx H3) := by
  let A : Nat → List V := fun i => ((List.range i).map fun i => (List.range (ys i).length).map (f i)).flatten
  have hA : ∀ i, A (i + 1) = A i ++ (List.range (ys i).length).map (f i) := fun i => by
    show ((List.range (i + 1)).map _).flatten = _
    rw [List.range_succ, List.map_append, List.flatten_append]
    simp [A]
  refine ⟨fun i m H => m = n - i ∧ i ≤ n ∧ Same H1 H ∧ H D = some (.lst (A i)), ⟨n, by simp, Nat.zero_le _, same_upd hD, upd_same⟩, ?_⟩
  rintro i m H ⟨rfl, hin, sm, eD⟩
  have q := hG H sm
  by_cases hlt : i < n
  · refine .inr ⟨w.goes i H hlt q, fun H' => Same H1 H' ∧ H' D = some (.lst (A (i + 1))), fun H' p' => ⟨n - (i + 1), by omega, rfl, hlt, p'⟩, fun x H' y => ?_⟩
    obtain ⟨rfl, rfl⟩ := w.yields i H x H' hlt q y
    refine ⟨?_, ?_⟩
    · show (((((σ.set c1 none).set c none).set c (some (xs i))).set c1 none).set c none) = (σ.set c1 none).set c none
      rw [List.set_set, List.set_comm _ _ hne]
      simp only [List.set_set]
    · unfold tYes
      dsimp only
      rw [if_pos rfl]
      refine hi i H' _ hlt sm fun H4 p s4 np ep => ?_
      have hpD : p ≠ D := fun e => by rw [e, eD] at np; exact nomatch np
      have hl := hn (i + 1) hlt
      refine ⟨fun j k H => k = (ys i).length - j ∧ j ≤ (ys i).length ∧ Same H1 H ∧ H p = some (.lst (ys i)) ∧ H D = some (.lst (A i ++ ((List.range j).map (f i)))), ⟨(ys i).length, by simp, Nat.zero_le _, sm.trans s4, ep, by simpa using s4 _ _ eD⟩, ?_⟩
      rintro j k H5 ⟨rfl, hj, s5, e5, eD5⟩
      by_cases hjl : j < (ys i).length
      · refine .inr ⟨⟨ys i, (ys i)[j], .inl (.inl e5), by simp [hjl]⟩, fun H' => Same H1 H' ∧ H' p = some (.lst (ys i)) ∧ H' D = some (.lst (A i ++ ((List.range (j + 1)).map (f i)))), fun H' p' => ⟨(ys i).length - (j + 1), by omega, rfl, hjl, p'⟩, fun x H6 y => ?_⟩
        obtain ⟨rfl, hx⟩ := y
        have hx := hx (ys i) (.inl (.inl e5))
        have ex : x = (ys i).getD j .non := by rw [List.getD_eq_getElem?_getD, hx]; rfl
        subst ex
        refine ⟨?_, ?_⟩
        · show (((((((σ.set c1 none).set c none).set c (some (xs i))).set c1 none).set c1 (some ((ys i).getD j .non)))).set c1 none) = (((σ.set c1 none).set c none).set c (some (xs i))).set c1 none
          rw [List.set_set, List.set_set]
        · rw [if_pos rfl]
          refine he i j H6 _ hlt hjl s5 fun H7 s7 => ⟨_, s7 _ _ eD5, ?_, ?_, ?_, ?_⟩
          · have e1 : (A (i + 1)).length ≤ sizeLine := hl
            rw [hA, List.length_append, List.length_map, List.length_range] at e1
            rw [List.length_append, List.length_map, List.length_range]
            omega
          · intro b o hb
            rw [upd_ne (ne_of_none hb hD)]
            exact s7 _ _ (s5 _ _ hb)
          · rw [upd_ne hpD]
            exact s7 _ _ e5
          · rw [upd_same, List.range_succ, List.map_append, List.append_assoc]
            rfl
      · have hj2 : j = (ys i).length := by omega
        subst hj2
        refine .inl ⟨⟨ys i, .inl (.inl e5), Nat.le_refl _⟩, s5, ?_⟩
        rw [hA]
        exact eD5
  · have e : i = n := by omega
    subst e
    exact .inl ⟨w.stops H q, hd H sm eD⟩
end LH
namespace LH
open PySem PySem.Spec PyProof.Rows L2
theorem cutV_last (z : List V) : cutV z (some (-1)) none = z.drop (z.length - 1) := by
  unfold cutV
  rw [HT.sIx_none]
  have e : HT.sIx z.length 0 (some (-1)) = z.length - 1 := by
    show (if (-1 : Int) < 0 then (-1 + (z.length : Int)).toNat else min (-1 : Int).toNat z.length) = _
    rw [if_pos (by decide)]
    omega
  rw [e, List.take_of_length_le]
  rw [List.length_drop]
  exact Nat.le_refl _
theorem drop_last_eq {α : Type} (l : List α) (x : α) : l.drop (l.length - 1) = [x] ↔ l.getLast? = some x := by
  rcases List.eq_nil_or_concat l with h | ⟨L, y, h⟩
  · subst h; simp
  · rw [List.concat_eq_append] at h
    subst h
    rw [List.length_append, List.length_singleton, Nat.add_sub_cancel, List.drop_left, List.getLast?_concat]
    simp
end LH
namespace LH
open PySem PySem.Spec PyProof.Rows L2
theorem pi_listK {X : Cx} {tg e : Expr} {te : TE} (K : PySem.W.Frag) (he : PE X e te) (h : X.K = K := by rfl) : PI X tg e (iList K te) := h ▸ pi_list he
end LH

namespace LH
open PySem PySem.Spec PyProof.Rows L2
/-! ### a comprehension whose elements are new lists; one over two clauses, the second over lists that stand -/
theorem lc_two2 {K : PySem.W.Frag} {J : It} {n : Nat} {G : Hp → Prop} {wi1 : TI} {te : TE} {c c1 : Nat} {σ : L2.St} {H1 : Hp} {D : Addr} {Qd : Hp → Prop} (xs : Nat → V) (ys : Nat → List V) (f : Nat → Nat → V) (hne : c ≠ c1) (w : Walk J n G (YFn xs)) (hG : ∀ H, Same H1 H → G H) (hD : H1 D = none)
    (hn : ∀ i, i ≤ n → (((List.range i).map fun i => (List.range (ys i).length).map (f i)).flatten).length ≤ sizeLine)
    (hi : ∀ i H (R : It → Hp → Prop), i < n → Same H1 H → (∀ H' p, Same H H' → p ≠ D → H' p = some (.lst (ys i)) → R (Itl K p) H') → wi1 (((σ.set c1 none).set c none).set c (some (xs i))) H R)
    (he : ∀ i j H Q, i < n → j < (ys i).length → Same H1 H → Tell H (f i j) Q → te (((((σ.set c1 none).set c none).set c (some (xs i))).set c1 none).set c1 (some ((ys i).getD j .non))) H Q)
    (hd : ∀ H, Same H1 H → H D = some (.lst (((List.range n).map fun i => (List.range (ys i).length).map (f i)).flatten)) → Qd H) :
    ∃ W : Nat → Nat → Hp → Prop, (∃ m, W 0 m (upd H1 D (.lst []))) ∧ ∀ i m H, W i m H →
      (J.stop i H ∧ Qd H) ∨ (J.go i H ∧ ∃ Nx : Hp → Prop, (∀ H', Nx H' → ∃ m', m' < m ∧ W (i + 1) m' H') ∧ ∀ x H', J.yld i H x H' → gName c x (wipe σ [c, c1]) H' fun σ2 H2 => wipe σ2 [c, c1] = wipe σ [c, c1] ∧ tYes σ2 H2 fun b H3 =>
        if b = true then wi1 σ2 H3 fun J1 H4 => ∃ W1 : Nat → Nat → Hp → Prop, (∃ m, W1 0 m H4) ∧ ∀ j k H, W1 j k H →
          (J1.stop j H ∧ Nx H) ∨ (J1.go j H ∧ ∃ Nx1 : Hp → Prop, (∀ H', Nx1 H' → ∃ k', k' < k ∧ W1 (j + 1) k' H') ∧ ∀ x H', J1.yld j H x H' → gName c1 x (wipe σ2 [c1]) H' fun σ3 H5 => wipe σ3 [c1] = wipe σ2 [c1] ∧ tYes σ3 H5 fun b H6 =>
            if b = true then te σ3 H6 fun y H7 => ∃ acc, H7 D = some (.lst acc) ∧ acc.length < sizeLine ∧ Nx1 (upd H7 D (.lst (acc ++ [y]))) else Nx1 H6)
        else Nx H3) := by
  let A : Nat → List V := fun i => ((List.range i).map fun i => (List.range (ys i).length).map (f i)).flatten
  have hA : ∀ i, A (i + 1) = A i ++ (List.range (ys i).length).map (f i) := fun i => by
    show ((List.range (i + 1)).map _).flatten = _
    rw [List.range_succ, List.map_append, List.flatten_append]
    simp [A]
  refine ⟨fun i m H => m = n - i ∧ i ≤ n ∧ Same H1 H ∧ H D = some (.lst (A i)), ⟨n, by simp, Nat.zero_le _, same_upd hD, upd_same⟩, ?_⟩
  rintro i m H ⟨rfl, hin, sm, eD⟩
  have q := hG H sm
  by_cases hlt : i < n
  · refine .inr ⟨w.goes i H hlt q, fun H' => Same H1 H' ∧ H' D = some (.lst (A (i + 1))), fun H' p' => ⟨n - (i + 1), by omega, rfl, hlt, p'⟩, fun x H' y => ?_⟩
    obtain ⟨rfl, rfl⟩ := w.yields i H x H' hlt q y
    refine ⟨?_, ?_⟩
    · show (((((σ.set c1 none).set c none).set c (some (xs i))).set c1 none).set c none) = (σ.set c1 none).set c none
      rw [List.set_set, List.set_comm _ _ hne]
      simp only [List.set_set]
    · unfold tYes
      dsimp only
      rw [if_pos rfl]
      refine hi i H' _ hlt sm fun H4 p s4 hpD ep => ?_
      have hl := hn (i + 1) hlt
      refine ⟨fun j k H => k = (ys i).length - j ∧ j ≤ (ys i).length ∧ Same H1 H ∧ H p = some (.lst (ys i)) ∧ H D = some (.lst (A i ++ ((List.range j).map (f i)))), ⟨(ys i).length, by simp, Nat.zero_le _, sm.trans s4, ep, by simpa using s4 _ _ eD⟩, ?_⟩
      rintro j k H5 ⟨rfl, hj, s5, e5, eD5⟩
      by_cases hjl : j < (ys i).length
      · refine .inr ⟨⟨ys i, (ys i)[j], .inl (.inl e5), by simp [hjl]⟩, fun H' => Same H1 H' ∧ H' p = some (.lst (ys i)) ∧ H' D = some (.lst (A i ++ ((List.range (j + 1)).map (f i)))), fun H' p' => ⟨(ys i).length - (j + 1), by omega, rfl, hjl, p'⟩, fun x H6 y => ?_⟩
        obtain ⟨rfl, hx⟩ := y
        have hx := hx (ys i) (.inl (.inl e5))
        have ex : x = (ys i).getD j .non := by rw [List.getD_eq_getElem?_getD, hx]; rfl
        subst ex
        refine ⟨?_, ?_⟩
        · show (((((((σ.set c1 none).set c none).set c (some (xs i))).set c1 none).set c1 (some ((ys i).getD j .non)))).set c1 none) = (((σ.set c1 none).set c none).set c (some (xs i))).set c1 none
          rw [List.set_set, List.set_set]
        · rw [if_pos rfl]
          refine he i j H6 _ hlt hjl s5 fun H7 s7 => ⟨_, s7 _ _ eD5, ?_, ?_, ?_, ?_⟩
          · have e1 : (A (i + 1)).length ≤ sizeLine := hl
            rw [hA, List.length_append, List.length_map, List.length_range] at e1
            rw [List.length_append, List.length_map, List.length_range]
            omega
          · intro b o hb
            rw [upd_ne (ne_of_none hb hD)]
            exact s7 _ _ (s5 _ _ hb)
          · rw [upd_ne hpD]
            exact s7 _ _ e5
          · rw [upd_same, List.range_succ, List.map_append, List.append_assoc]
            rfl
      · have hj2 : j = (ys i).length := by omega
        subst hj2
        refine .inl ⟨⟨ys i, .inl (.inl e5), Nat.le_refl _⟩, s5, ?_⟩
        rw [hA]
        exact eD5
  · have e : i = n := by omega
    subst e
    exact .inl ⟨w.stops H q, hd H sm eD⟩
theorem lc_news {J : It} {n : Nat} {G : Hp → Prop} {te : TE} {c : Nat} {σ : L2.St} {H1 : Hp} {D : Addr} {Qd : Hp → Prop} (xs : Nat → V) (ys : Nat → List V) (w : Walk J n G (YFn xs)) (hG : ∀ H, Same H1 H → G H) (hD : H1 D = none) (hn : n ≤ sizeLine)
    (he : ∀ i H Q, i < n → Same H1 H → New H (ys i) Q → te ((σ.set c none).set c (some (xs i))) H Q)
    (hd : ∀ H (us : List Addr), Same H1 H → us.length = n → (∀ i, i < n → us.getD i 0 ≠ D ∧ H (us.getD i 0) = some (.lst (ys i))) → H D = some (.lst (us.map V.ref)) → Qd H) :
    ∃ W : Nat → Nat → Hp → Prop, (∃ m, W 0 m (upd H1 D (.lst []))) ∧ ∀ i m H, W i m H →
      (J.stop i H ∧ Qd H) ∨ (J.go i H ∧ ∃ Nx : Hp → Prop, (∀ H', Nx H' → ∃ m', m' < m ∧ W (i + 1) m' H') ∧ ∀ x H', J.yld i H x H' → gName c x (wipe σ [c]) H' fun σ2 H2 => wipe σ2 [c] = wipe σ [c] ∧ tYes σ2 H2 fun b H3 =>
        if b = true then te σ2 H3 fun y H4 => ∃ acc, H4 D = some (.lst acc) ∧ acc.length < sizeLine ∧ Nx (upd H4 D (.lst (acc ++ [y]))) else Nx H3) := by
  refine lc_it w (fun i H => Same H1 H ∧ ∃ us : List Addr, us.length = i ∧ (∀ j, j < i → us.getD j 0 ≠ D ∧ H (us.getD j 0) = some (.lst (ys j))) ∧ H D = some (.lst (us.map V.ref))) ⟨same_upd hD, [], rfl, fun j hj => absurd hj (Nat.not_lt_zero j), upd_same⟩ (fun i H _ h => hG H h.1) (fun i x H H' hi hP hy => ?_) (fun H h => by
    obtain ⟨sm, us, hl, hu, e⟩ := h
    exact hd H us sm hl hu e)
  obtain ⟨sm, us, hl, hu, eD⟩ := hP
  obtain ⟨rfl, rfl⟩ := hy
  refine ⟨?_, ?_⟩
  rotate_left
  · unfold tYes
    dsimp only
    rw [if_pos rfl]
    refine he i H' _ hi sm fun H3 p s3 np e3 => ⟨_, s3 _ _ eD, ?_, ?_, us ++ [p], ?_, ?_, ?_⟩
    · rw [List.length_map]; omega
    · intro b' o hb'
      rw [upd_ne (ne_of_none hb' hD)]
      exact s3 _ _ (sm _ _ hb')
    · rw [List.length_append, hl]; rfl
    · intro j hj
      by_cases hj2 : j < i
      · rw [getD_app_l _ _ _ (by omega)]
        refine ⟨(hu j hj2).1, ?_⟩
        rw [upd_ne (hu j hj2).1]
        exact s3 _ _ (hu j hj2).2
      · have : j = i := by omega
        subst this
        rw [getD_app_r _ _ _ (by omega), hl, Nat.sub_self]
        have hpD : p ≠ D := fun e => by rw [e, eD] at np; exact nomatch np
        refine ⟨hpD, ?_⟩
        show upd H3 D _ p = _
        rw [upd_ne hpD]
        exact e3
    · rw [upd_same, List.map_append]
      rfl
  · show (((σ.set c none).set c (some (xs i))).set c none) = σ.set c none
    rw [List.set_set, List.set_set]
/-! ### lists of lists of ints as data -/
def dLists (ls : List (List Int)) : List PyData := ls.map fun b => .list (b.map PyData.int)
theorem lay_ints (b : List Int) : PyData.canLayAll0 (b.map PyData.int) = true := by
  induction b with
  | nil => simp [PyData.canLayAll0]
  | cons x r ih => simp [PyData.canLayAll0, PyData.canLay0, ih]
theorem depth_ints (b : List Int) : PyData.depthAll (b.map PyData.int) = 0 := by
  induction b with
  | nil => rfl
  | cons x r ih => simp [PyData.depthAll, PyData.depth, ih]
theorem lay_lists (ls : List (List Int)) : PyData.canLayAll0 (dLists ls) = true := by
  induction ls with
  | nil => simp [dLists, PyData.canLayAll0]
  | cons x r ih =>
    show PyData.canLayAll0 (.list (x.map PyData.int) :: dLists r) = true
    simp [PyData.canLayAll0, PyData.canLay0, lay_ints, ih]
theorem depth_lists (ls : List (List Int)) : PyData.depthAll (dLists ls) ≤ 1 := by
  induction ls with
  | nil => simp [dLists, PyData.depthAll]
  | cons x r ih =>
    show PyData.depthAll (.list (x.map PyData.int) :: dLists r) ≤ 1
    simp [PyData.depthAll, PyData.depth, depth_ints]
    omega
theorem shaped_lists (ls : List (List Int)) : SeqAt.shaped (.list (dLists ls)) = true := by
  have := depth_lists ls
  simp [SeqAt.shaped, PyData.canLay0, PyData.depth, lay_lists]
  omega
theorem any_none (ls : List (List Int)) : ((dLists ls).any fun z => PyData.eqv z .none) = false := by
  induction ls with
  | nil => rfl
  | cons x r ih =>
    show (PyData.eqv (.list (x.map PyData.int)) .none || ((dLists r).any fun z => PyData.eqv z .none)) = false
    rw [ih]
    simp [PyData.eqv]
theorem dpAll_refs {K : PySem.W.Frag} {H : Hp} : ∀ (us : List Addr) (ls : List (List Int)), us.length = ls.length → (∀ i, i < us.length → H (us.getD i 0) = some (.lst ((ls.getD i []).map V.int))) → DpAll K H (us.map V.ref) (dLists ls)
  | [], [], _, _ => .nil
  | u :: us, l :: ls, hl, h => .cons (dp_ints (.inl (.inl (h 0 (Nat.zero_lt_succ _))))) (dpAll_refs us ls (Nat.succ.inj hl) fun i hi => h (i + 1) (Nat.succ_lt_succ hi))
  | [], _ :: _, hl, _ => nomatch hl
  | _ :: _, [], hl, _ => nomatch hl
/-- a list of None -/
def dNones (n : Nat) : List PyData := List.replicate n .none
theorem dpAll_nones {K : PySem.W.Frag} {H : Hp} : ∀ n : Nat, DpAll K H (List.replicate n V.non) (dNones n)
  | 0 => .nil
  | n + 1 => .cons .non (dpAll_nones n)
theorem lay_nones (n : Nat) : PyData.canLayAll0 (dNones n) = true := by
  induction n with
  | zero => simp [dNones, PyData.canLayAll0]
  | succ n ih =>
    show PyData.canLayAll0 (.none :: dNones n) = true
    simp [PyData.canLayAll0, PyData.canLay0, ih]
theorem depth_nones (n : Nat) : PyData.depthAll (dNones n) = 0 := by
  induction n with
  | zero => simp [dNones, PyData.depthAll]
  | succ n ih =>
    show PyData.depthAll (.none :: dNones n) = 0
    simp [PyData.depthAll, PyData.depth, ih]
theorem shaped_nones (n : Nat) : SeqAt.shaped (.list (dNones n)) = true := by
  simp [SeqAt.shaped, PyData.canLay0, PyData.depth, lay_nones, depth_nones]
theorem any_nones (n : Nat) : ((dNones n).any fun z => PyData.eqv z .none) = decide (n ≠ 0) := by
  cases n with
  | zero => rfl
  | succ n =>
    show (PyData.eqv .none .none || _) = _
    simp [PyData.eqv]
end LH

namespace LH
open PySem PySem.Spec PyProof.Rows L2
/-! ### a comprehension whose elements are new objects -/
def NewO (H : Hp) (o : HO) (Q : VK) : Prop := ∀ H' p, Same H H' → H p = none → H' p = some o → Q (.ref p) H'
theorem lc_newO {J : It} {n : Nat} {G : Hp → Prop} {te : TE} {c : Nat} {σ : L2.St} {H1 : Hp} {D : Addr} {Qd : Hp → Prop} (xs : Nat → V) (os : Nat → HO) (w : Walk J n G (YFn xs)) (hG : ∀ H, Same H1 H → G H) (hD : H1 D = none) (hn : n ≤ sizeLine)
    (he : ∀ i H Q, i < n → Same H1 H → NewO H (os i) Q → te ((σ.set c none).set c (some (xs i))) H Q)
    (hd : ∀ H (us : List Addr), Same H1 H → us.length = n → (∀ i, i < n → us.getD i 0 ≠ D ∧ H (us.getD i 0) = some (os i)) → H D = some (.lst (us.map V.ref)) → Qd H) :
    ∃ W : Nat → Nat → Hp → Prop, (∃ m, W 0 m (upd H1 D (.lst []))) ∧ ∀ i m H, W i m H →
      (J.stop i H ∧ Qd H) ∨ (J.go i H ∧ ∃ Nx : Hp → Prop, (∀ H', Nx H' → ∃ m', m' < m ∧ W (i + 1) m' H') ∧ ∀ x H', J.yld i H x H' → gName c x (wipe σ [c]) H' fun σ2 H2 => wipe σ2 [c] = wipe σ [c] ∧ tYes σ2 H2 fun b H3 =>
        if b = true then te σ2 H3 fun y H4 => ∃ acc, H4 D = some (.lst acc) ∧ acc.length < sizeLine ∧ Nx (upd H4 D (.lst (acc ++ [y]))) else Nx H3) := by
  refine lc_it w (fun i H => Same H1 H ∧ ∃ us : List Addr, us.length = i ∧ (∀ j, j < i → us.getD j 0 ≠ D ∧ H (us.getD j 0) = some (os j)) ∧ H D = some (.lst (us.map V.ref))) ⟨same_upd hD, [], rfl, fun j hj => absurd hj (Nat.not_lt_zero j), upd_same⟩ (fun i H _ h => hG H h.1) (fun i x H H' hi hP hy => ?_) (fun H h => by
    obtain ⟨sm, us, hl, hu, e⟩ := h
    exact hd H us sm hl hu e)
  obtain ⟨sm, us, hl, hu, eD⟩ := hP
  obtain ⟨rfl, rfl⟩ := hy
  refine ⟨?_, ?_⟩
  rotate_left
  · unfold tYes
    dsimp only
    rw [if_pos rfl]
    refine he i H' _ hi sm fun H3 p s3 np e3 => ⟨_, s3 _ _ eD, ?_, ?_, us ++ [p], ?_, ?_, ?_⟩
    · rw [List.length_map]; omega
    · intro b' o hb'
      rw [upd_ne (ne_of_none hb' hD)]
      exact s3 _ _ (sm _ _ hb')
    · rw [List.length_append, hl]; rfl
    · intro j hj
      by_cases hj2 : j < i
      · rw [getD_app_l _ _ _ (by omega)]
        refine ⟨(hu j hj2).1, ?_⟩
        rw [upd_ne (hu j hj2).1]
        exact s3 _ _ (hu j hj2).2
      · have : j = i := by omega
        subst this
        rw [getD_app_r _ _ _ (by omega), hl, Nat.sub_self]
        have hpD : p ≠ D := fun e => by rw [e, eD] at np; exact nomatch np
        refine ⟨hpD, ?_⟩
        show upd H3 D _ p = _
        rw [upd_ne hpD]
        exact e3
    · rw [upd_same, List.map_append]
      rfl
  · show (((σ.set c none).set c (some (xs i))).set c none) = σ.set c none
    rw [List.set_set, List.set_set]
end LH

namespace LH
open PySem PySem.Spec PyProof.Rows L2
/-! ### a comprehension over pairs whose elements are new objects, each of a kind -/
theorem lc_pairsO {K : PySem.W.Frag} {a : Addr} {ts : List Addr} {ps : Nat → V × V} {te : TE} {c1 c2 : Nat} {σ : L2.St} {H1 : Hp} {D : Addr} {Qd : Hp → Prop} (Ob : Nat → HO → Prop) (hne : c1 ≠ c2) (hL : SqL K H1 a (ts.map V.ref)) (hT : ∀ i, i < ts.length → SqT K H1 (ts.getD i 0) [(ps i).1, (ps i).2])
    (hD : H1 D = none) (hn : ts.length ≤ sizeLine)
    (he : ∀ i H Q, i < ts.length → Same H1 H → (∀ H' p o, Same H H' → H p = none → H' p = some o → Ob i o → Q (.ref p) H') → te ((((σ.set c2 none).set c1 none).set c1 (some (ps i).1)).set c2 (some (ps i).2)) H Q)
    (hd : ∀ H (us : List Addr), Same H1 H → us.length = ts.length → (∀ i, i < ts.length → us.getD i 0 ≠ D ∧ ∃ o, Ob i o ∧ H (us.getD i 0) = some o) → H D = some (.lst (us.map V.ref)) → Qd H) :
    ∃ W : Nat → Nat → Hp → Prop, (∃ m, W 0 m (upd H1 D (.lst []))) ∧ ∀ i m H, W i m H →
      ((Itl K a).stop i H ∧ Qd H) ∨ ((Itl K a).go i H ∧ ∃ Nx : Hp → Prop, (∀ H', Nx H' → ∃ m', m' < m ∧ W (i + 1) m' H') ∧ ∀ x H', (Itl K a).yld i H x H' → gTup K 2 (gCons (gName c1) (gCons (gName c2) gNil)) x (wipe σ [c1, c2]) H' fun σ2 H2 => wipe σ2 [c1, c2] = wipe σ [c1, c2] ∧ tYes σ2 H2 fun b H3 =>
        if b = true then te σ2 H3 fun y H4 => ∃ acc, H4 D = some (.lst acc) ∧ acc.length < sizeLine ∧ Nx (upd H4 D (.lst (acc ++ [y]))) else Nx H3) := by
  have hm : (ts.map V.ref).length = ts.length := List.length_map ..
  refine lc_it walk_list (fun i H => Same H1 H ∧ ∃ us : List Addr, us.length = i ∧ (∀ j, j < i → us.getD j 0 ≠ D ∧ ∃ o, Ob j o ∧ H (us.getD j 0) = some o) ∧ H D = some (.lst (us.map V.ref))) ⟨same_upd hD, [], rfl, fun j hj => absurd hj (Nat.not_lt_zero j), upd_same⟩ (fun i H _ h => h.1.seq hL) (fun i x H H' hi hP hy => ?_) (fun H h => by
    obtain ⟨sm, us, hl, hu, e⟩ := h
    exact hd H us sm (by rw [← hm]; exact hl) (fun i hi => hu i (by rw [hm]; exact hi)) e)
  obtain ⟨sm, us, hl, hu, eD⟩ := hP
  obtain ⟨rfl, hx⟩ := hy
  rw [hm] at hi
  rw [List.getElem?_map, List.getElem?_eq_getElem hi] at hx
  obtain rfl := Option.some.inj hx
  have hTi := hT i hi
  rw [List.getD_eq_getElem?_getD, List.getElem?_eq_getElem hi] at hTi
  refine ⟨ts[i], _, rfl, seqT sm hTi, rfl, _, _, rfl, _, _, rfl, rfl, ?_, ?_⟩
  · show (((((σ.set c2 none).set c1 none).set c1 (some (ps i).1)).set c2 (some (ps i).2)).set c2 none).set c1 none = (σ.set c2 none).set c1 none
    rw [List.set_set, List.set_set, List.set_comm _ _ hne, List.set_set, List.set_comm _ _ hne.symm, List.set_comm _ _ hne, List.set_set]
  · unfold tYes
    dsimp only
    rw [if_pos rfl]
    refine he i H' _ hi sm fun H3 p o s3 np e3 ho => ⟨_, s3 _ _ eD, ?_, ?_, us ++ [p], ?_, ?_, ?_⟩
    · rw [List.length_map]; omega
    · intro b' x hb'
      rw [upd_ne (ne_of_none hb' hD)]
      exact s3 _ _ (sm _ _ hb')
    · rw [List.length_append, hl]; rfl
    · intro j hj
      by_cases hj2 : j < i
      · rw [getD_app_l _ _ _ (by omega)]
        obtain ⟨h1, o2, ho2, e2⟩ := hu j hj2
        refine ⟨h1, o2, ho2, ?_⟩
        rw [upd_ne h1]
        exact s3 _ _ e2
      · have : j = i := by omega
        subst this
        rw [getD_app_r _ _ _ (by omega), hl, Nat.sub_self]
        have hpD : p ≠ D := fun e => by rw [e, eD] at np; exact nomatch np
        refine ⟨hpD, o, ho, ?_⟩
        show upd H3 D _ p = _
        rw [upd_ne hpD]
        exact e3
    · rw [upd_same, List.map_append]
      rfl
end LH

namespace LH
open PySem PySem.Spec PyProof.Rows L2
/-! ### defs with defaults -/
theorem okD {P : Program} {w : World} {K : PySem.W.Frag} {mg : Str → Option Value} {base : Heap} {x qual : Str} {st : Stmt} {dvs : List V} {f : Addr} {fd : FuncData} {N ps : List Str} {k : Nat} {sp : Sp} (F : FunD K x qual (defArgs st) (defBody st) (defScope st) dvs [] f fd) (S : FnScope N ps (defScope st)) (len : ∀ vs H Q E, sp vs H Q E → vs.length = ps.length)
    (hbody : ∀ (cdv : Value) (A : Around) (outer : List Env) (s : Shared) (H : Hp) (vs : List V) (Q : VK) (E : XK), Room k (A.deeper (envOfC qual (defScope st) s.heap.objs.size f cdv)) → sp vs H Q E →
      ∃ t, PSs (cxOf CX0 P w K mg base N qual (defScope st) f cdv A outer s H E).nox (defBody st) t ∧ t { nx := fun _ H' => Q .non H', rt := Q } (start N vs) H) : FnOk P w K mg base CX0 (k + 1) f fd ps sp :=
  F.ok S len fun cdv A outer s H vs Q E hr hsp => by
    obtain ⟨t, h, q⟩ := hbody cdv A outer s H vs Q E hr hsp
    exact ⟨t, h.nox, q⟩
theorem funD_mk {K : PySem.W.Frag} {x qual : Str} {st : Stmt} {f T : Addr} {oc : Value} {od an odt : Option Addr} {osl slt : Array (Option Value)} {kV doc pm cdv ct oct : Value} {nt : Nat} (l : K.lookup f = some ⟨oc, od, .func (PySem.W.fnOf x qual (defArgs st) (defBody st) (defScope st) (.ref T) kV doc pm an cdv ct), osl⟩)
    (c : PySem.W.codeIn K cdv qual = true) (k : PySem.W.keepIn K (.ref f) = true) (lT : K.lookup T = some ⟨oct, odt, .seq #[.none, .none] nt, slt⟩) : FunD K x qual (defArgs st) (defBody st) (defScope st) [.non, .non] [] f (PySem.W.fnOf x qual (defArgs st) (defBody st) (defScope st) (.ref T) kV doc pm an cdv ct) :=
  ⟨⟨oc, od, _, kV, doc, pm, an, cdv, ct, osl, rfl, l, c, .inr ⟨by simp, T, _, [.none, .none], nt, rfl, lT, rfl, .cons rfl (.cons rfl .nil)⟩, .inl rfl⟩, k⟩
end LH

namespace LH
open PySem PySem.Spec PySem.Calls PyProof.Rows L2
/-! ### a call of what a parameter holds -/
/-- at f stands a def of the promise sp -/
def FnV (P : Program) (w : World) (K : PySem.W.Frag) (mg : Str → Option Value) (base : Heap) (k : Nat) (f : Addr) (sp : Sp) : Prop := ∃ (fd : FuncData) (ps : List Str), FnOk P w K mg base CX0 k f fd ps sp ∧ PySem.W.keepIn K (.ref f) = true ∧ Binds K fd ps []
def tCallV (P : Program) (w : World) (K : PySem.W.Frag) (mg : Str → Option Value) (base : Heap) (k : Nat) (tv : TE) (t : TA) : TE := fun σ H Q => tv σ H fun v H1 => ∃ (f : Addr) (sp : Sp), v = .ref f ∧ FnV P w K mg base k f sp ∧ t σ H1 fun vs H2 => sp vs H2 Q E0
theorem pe_callV {X : Cx} {x : Str} {k : Nat} {e : Expr} {es : List Expr} {tv : TE} {t : TA} {p pos : Pos} (hr : Room k X.A) (hv : PE X (.Name x p) tv) (ha : PA X (e :: es) t) (he : starEach (e :: es) X.env = (false, eval e X.env) :: starEach es X.env := by rfl) (hpl : (backTo pos (starEach es X.env)).any (·.1) = false := by rfl) :
    PE X (.Call (.Name x p) (e :: es) [] pos) (tCallV X.prog X.w X.K X.mg X.base k tv t) := by
  refine ⟨fun pins s σ H Q I h => ?_⟩
  refine wpAny_Call_Name_kw (thn (hv.run pins s σ H _ I h) fun u s1 ⟨v, H1, I1, rv, f, sp, ev, ⟨fd, ps, F, hk, hb⟩, q⟩ => ?_)
  subst ev
  obtain rfl : u = Value.ref f := rv
  refine PySem.W.callWith_K (h₀ := X.base) I.ok.mod.kin hk (thn (ha.run pos pins s1 σ H1 _ I1 q) fun us s2 ⟨vs, H2, I2, r, q2⟩ => ⟨I2.kIn, ?_⟩) he hpl
  exact run_fn F hr hb .nil pass0 I2 r (by rw [List.append_nil]; exact q2)
theorem FnV.of {P : Program} {w : World} {K : PySem.W.Frag} {mg : Str → Option Value} {base : Heap} {x : Str} {k : Nat} {f : Addr} {fd : FuncData} {ps : List Str} {sp : Sp} (D : Def P w K mg base x k f fd ps sp) : FnV P w K mg base k f sp := ⟨fd, ps, D.ok, D.kp, D.bd⟩
end LH

namespace LH
open PySem PySem.Spec PyProof.Rows L2
open Builtin Builtin.Str StrLaws
/-! ### split with a limit that is not reached -/
theorem occ_size_ge (s sub : Str) (hi limit : Nat) : ∀ (l : List Nat) (st : Array Nat × Nat), st.fst.size ≤ (forIn l st (occBody s sub hi limit)).run.fst.size
  | [], st => Nat.le_refl _
  | a :: l, st => by
    rw [List.forIn_cons]
    unfold occBody
    split
    · refine Nat.le_trans ?_ (occ_size_ge s sub hi limit l _)
      simp only [Array.size_push]; omega
    · exact occ_size_ge s sub hi limit l _
theorem occ_lim (s sub : Str) (hi : Nat) {m L : Nat} (hm : m ≤ L) : ∀ (l : List Nat) (st : Array Nat × Nat), (forIn l st (occBody s sub hi L)).run.fst.size ≤ m → (forIn l st (occBody s sub hi m)).run = (forIn l st (occBody s sub hi L)).run
  | [], st, _ => rfl
  | a :: l, st, h => by
    rw [List.forIn_cons] at h ⊢
    rw [List.forIn_cons]
    by_cases hc : ((st.fst.size < L ∧ st.snd ≤ a) ∧ a + sub.length ≤ hi) ∧ subAt s sub a = true
    · have e1 : occBody s sub hi L a st = pure (ForInStep.yield (st.fst.push a, a + sub.length)) := by unfold occBody; rw [if_pos hc]
      rw [e1] at h ⊢
      have h2 := occ_size_ge s sub hi L l (st.fst.push a, a + sub.length)
      have h3 : (forIn l (st.fst.push a, a + sub.length) (occBody s sub hi L)).run.fst.size ≤ m := h
      simp only [Array.size_push] at h2
      have e2 : occBody s sub hi m a st = pure (ForInStep.yield (st.fst.push a, a + sub.length)) := by unfold occBody; rw [if_pos ⟨⟨⟨by omega, hc.1.1.2⟩, hc.1.2⟩, hc.2⟩]
      rw [e2]
      exact occ_lim s sub hi hm l _ h3
    · have e1 : occBody s sub hi L a st = pure (ForInStep.yield (st.fst, st.snd)) := by unfold occBody; rw [if_neg hc]
      have e2 : occBody s sub hi m a st = pure (ForInStep.yield (st.fst, st.snd)) := by unfold occBody; rw [if_neg fun h => hc ⟨⟨⟨by omega, h.1.1.2⟩, h.1.2⟩, h.2⟩]
      rw [e1] at h ⊢
      rw [e2]
      exact occ_lim s sub hi hm l _ h
theorem occ_same (x y : Str) {m : Nat} (h : (occurrences x y 0 x.length (x.length + 1)).length ≤ m) (hm : m ≤ x.length + 1) : occurrences x y 0 x.length m = occurrences x y 0 x.length (x.length + 1) := by
  rw [occ_eq] at h ⊢
  rw [occ_eq, occ_lim x y x.length hm _ _ (by rw [Array.length_toList] at h; exact h)]
theorem parts_count (x : Str) (cuts : List Nat) (w : Nat) : (partsBetween x cuts w).length = cuts.length + 1 := by
  unfold partsBetween
  simp
theorem split_max (x y : Str) {k : Nat} (h : (Txt.split x y).length ≤ k + 1) : Txt.splitMax x y (k : Nat) = Txt.split x y := by
  unfold Txt.splitMax Txt.split at *
  by_cases h1 : (decide (x.length < y.length) || decide (strKind x < strKind y)) = true
  · rw [if_pos h1, if_pos h1]
  · rw [if_neg h1] at h
    rw [if_neg h1, if_neg h1]
    have hl : limitOf x (k : Nat) = k := by unfold limitOf; rw [if_neg (by omega)]; exact Int.toNat_natCast k
    rw [hl]
    by_cases hk : k ≤ x.length + 1
    · by_cases h2 : (occurrences x y 0 x.length (x.length + 1)).isEmpty = true
      · have h0 : (occurrences x y 0 x.length (x.length + 1)).length ≤ k := by rw [List.isEmpty_iff.mp h2]; exact Nat.zero_le _
        rw [occ_same x y h0 hk]
      · rw [if_neg h2, parts_count] at h
        rw [occ_same x y (by omega) hk]
    · have h3 := occ_length_le_len x y 0 x.length k
      have h4 := occ_length_le_len x y 0 x.length (x.length + 1)
      have : occurrences x y 0 x.length k = occurrences x y 0 x.length (x.length + 1) := by
        have e := occ_lim x y x.length (show x.length + 1 ≤ k by omega) (List.range' 0 (x.length + 1 - 0)) (#[], 0)
        rw [occ_eq, occ_eq, e]
        have := occ_size_le_steps x y x.length k (List.range' 0 (x.length + 1 - 0)) (#[], 0)
        simp only [List.length_range', Nat.sub_zero] at this ⊢
        have h5 : (#[] : Array Nat).size = 0 := rfl
        omega
      rw [this]
end LH

namespace LH
open PySem PySem.Spec PyProof.Rows L2 Builtin Builtin.Str PySem.StrLaws
/-! ### one sign: where it is found, how often it stands, whether it ends a text, a text without it at its end -/
theorem find_hit (x : Str) (c : Nat) (p r : List Nat) (hx : TL.tl x = p ++ c :: r) (hp : c ∉ p) : Txt.find x ⟨#[c]⟩ = (p.length : Int) ∧ ∃ rest, occurrences x ⟨#[c]⟩ 0 x.length 1 = p.length :: rest := by
  have hm0 : x.cps.toList[p.length]? = some c := by
    show (TL.tl x)[p.length]? = some c
    rw [hx]; simp
  have hn0 : ∀ k, k < p.length → x.cps.toList[k]? ≠ some c := fun k hk e => by
    have e' : (TL.tl x)[k]? = some c := e
    rw [hx, List.getElem?_append_left hk] at e'
    exact hp (List.mem_of_getElem? e')
  unfold Txt.find
  rcases occ_head x ⟨#[c]⟩ 1 (Nat.le_refl 1) with ⟨h0, hn⟩ | ⟨i, q, h0, hi, hn⟩
  · exact absurd ((subAt_one x c p.length).mpr hm0) (hn _)
  · have hm := (subAt_one x c i).mp hi
    have e : i = p.length := by
      rcases Nat.lt_trichotomy i p.length with h | h | h
      · exact absurd hm (hn0 i h)
      · exact h
      · exact absurd ((subAt_one x c p.length).mpr hm0) (hn _ h)
    subst e
    rw [h0]
    exact ⟨rfl, q, rfl⟩
theorem find_miss (x : Str) (c : Nat) (h : c ∉ TL.tl x) : Txt.find x ⟨#[c]⟩ = -1 := by
  unfold Txt.find
  rcases occ_head x ⟨#[c]⟩ 1 (Nat.le_refl 1) with ⟨h0, hn⟩ | ⟨i, q, h0, hi, hn⟩
  · rw [h0]
  · exact absurd (List.mem_of_getElem? ((subAt_one x c i).mp hi)) h
/-- the place of a sign in a text of unlike signs -/
theorem find_at (x : Str) (i : Nat) (h : i < (TL.tl x).length) (hd : (TL.tl x).Nodup) : Txt.find x ⟨#[(TL.tl x)[i]]⟩ = (i : Int) ∧ ∃ rest, occurrences x ⟨#[(TL.tl x)[i]]⟩ 0 x.length 1 = i :: rest := by
  have e : TL.tl x = (TL.tl x).take i ++ (TL.tl x)[i] :: (TL.tl x).drop (i + 1) := by
    rw [← List.drop_eq_getElem_cons h, List.take_append_drop]
  have hl : ((TL.tl x).take i).length = i := by rw [List.length_take]; omega
  have hn : (TL.tl x)[i] ∉ (TL.tl x).take i := fun hm => by
    obtain ⟨j, hj, ej⟩ := List.mem_iff_getElem.mp hm
    rw [hl] at hj
    rw [List.getElem_take] at ej
    exact List.pairwise_iff_getElem.mp hd j i (by omega) h hj ej
  have := find_hit x (TL.tl x)[i] _ _ e hn
  rw [hl] at this
  exact this
theorem count_one (x : Str) (c : Nat) : Txt.count x ⟨#[c]⟩ = ((TL.tl x).count c : Nat) := by
  have hsub : ∀ i, (i + (⟨#[c]⟩ : Str).length ≤ x.length ∧ subAt x ⟨#[c]⟩ i = true) ↔ (TL.tl x)[i]? = some c := fun i => subAt_one x c i
  have key : ∀ (n lo : Nat) (st : Array Nat × Nat), lo + n = x.length + 1 → st.1.size ≤ lo → st.2 ≤ lo → (forIn (List.range' lo n) st (occBody x ⟨#[c]⟩ x.length (x.length + 1))).run.1.size = st.1.size + ((TL.tl x).drop lo).count c := by
    intro n
    induction n with
    | zero =>
      intro lo st h1 h2 h3
      have : (TL.tl x).drop lo = [] := List.drop_of_length_le (by rw [← TL.len_tl]; omega)
      rw [this]
      simp
    | succ n ih =>
      intro lo st h1 h2 h3
      rw [List.range'_succ, List.forIn_cons]
      unfold occBody
      by_cases hc : (TL.tl x)[lo]? = some c
      · have hs := (hsub lo).mpr hc
        rw [if_pos ⟨⟨⟨by omega, h3⟩, hs.1⟩, hs.2⟩]
        have hlt := (List.getElem?_eq_some_iff.mp hc).1
        have hd : (TL.tl x).drop lo = c :: (TL.tl x).drop (lo + 1) := by
          rw [List.drop_eq_getElem_cons hlt, (List.getElem?_eq_some_iff.mp hc).2]
        have := ih (lo + 1) (st.1.push lo, lo + (⟨#[c]⟩ : Str).length) (by omega) (by rw [Array.size_push]; omega) (by show lo + 1 ≤ lo + 1; omega)
        simp only [pure_bind]
        refine Eq.trans this ?_
        show (st.1.push lo).size + _ = _
        rw [Array.size_push, hd, List.count_cons_self]
        omega
      · rw [if_neg (fun h => hc ((hsub lo).mp ⟨h.1.2, h.2⟩))]
        have := ih (lo + 1) (st.1, st.2) (by omega) (by show st.1.size ≤ lo + 1; omega) (by show st.2 ≤ lo + 1; omega)
        simp only [pure_bind]
        refine Eq.trans this ?_
        have hd : ((TL.tl x).drop lo).count c = ((TL.tl x).drop (lo + 1)).count c := by
          by_cases hlt : lo < (TL.tl x).length
          · rw [List.drop_eq_getElem_cons hlt]
            rw [List.getElem?_eq_getElem hlt] at hc
            have : (TL.tl x)[lo] ≠ c := fun e => hc (congrArg some e)
            exact List.count_cons_of_ne this
          · rw [List.drop_of_length_le (by omega), List.drop_of_length_le (by omega)]
        rw [hd]
  unfold Txt.count
  rw [occ_eq, Array.length_toList, Nat.sub_zero, key (x.length + 1) 0 (#[], 0) (by omega) (Nat.zero_le _) (Nat.zero_le _)]
  simp
theorem ends_one (x y : Str) (c : Nat) (hy : TL.tl y = [c]) : Txt.endswith x y = decide ((TL.tl x).getLast? = some c) := by
  obtain rfl : y = ⟨#[c]⟩ := TL.ext_tl hy
  unfold Txt.endswith
  rw [Bool.eq_iff_iff, Bool.and_eq_true, decide_eq_true_eq, decide_eq_true_eq]
  have hl : x.length = (TL.tl x).length := TL.len_tl x
  have h1 : (⟨#[c]⟩ : Str).length = 1 := rfl
  constructor
  · rintro ⟨h2, h3⟩
    have := (subAt_one x c (x.length - 1)).mp ⟨by rw [h1] at *; omega, h3⟩
    have e : (TL.tl x)[(TL.tl x).length - 1]? = some c := by rw [← hl]; exact this
    rw [List.getLast?_eq_getElem?]
    exact e
  · intro h
    rw [List.getLast?_eq_getElem?] at h
    have hlt := (List.getElem?_eq_some_iff.mp h).1
    have := (subAt_one x c (x.length - 1)).mpr (by rw [hl]; exact h)
    exact ⟨by rw [h1]; omega, this.2⟩
theorem rstrip_app (x y : Str) (c : Nat) (b : List Nat) (k : Nat) (hy : TL.tl y = [c]) (hx : TL.tl x = b ++ List.replicate k c) (hb : b.getLast? ≠ some c) : TL.tl (Txt.rstripChars x y) = b := by
  obtain rfl : y = ⟨#[c]⟩ := TL.ext_tl hy
  have hl : x.length = b.length + k := by rw [TL.len_tl, hx, List.length_append, List.length_replicate]
  have htw : ((x.cps.toList.drop 0).reverse.takeWhile (⟨#[c]⟩ : Str).cps.contains).length = k := by
    rw [List.drop_zero, show x.cps.toList = TL.tl x from rfl, hx, List.reverse_append, List.reverse_replicate]
    have hc : ∀ d, (⟨#[c]⟩ : Str).cps.contains d = decide (d = c) := fun d => by
      show (#[c] : Array Nat).contains d = _
      simp
    rw [List.takeWhile_append_of_pos (by intro d hd; rw [hc]; exact decide_eq_true (List.mem_replicate.mp hd).2)]
    rw [List.length_append, List.length_replicate]
    have : (b.reverse.takeWhile (⟨#[c]⟩ : Str).cps.contains) = [] := by
      rcases List.eq_nil_or_concat b with h | ⟨B, d, h⟩
      · rw [h]; rfl
      · rw [List.concat_eq_append] at h
        rw [h] at hb ⊢
        rw [List.getLast?_concat] at hb
        rw [List.reverse_append]
        show List.takeWhile _ (d :: B.reverse) = []
        rw [List.takeWhile_cons, hc, decide_eq_false (fun e => hb (congrArg some e))]
        rfl
    rw [this]
    rfl
  unfold Txt.rstripChars Txt.stripBy
  have hlo : stripLo (⟨#[c]⟩ : Str).cps.contains false x = 0 := rfl
  have hhi : stripHi (⟨#[c]⟩ : Str).cps.contains true x 0 = b.length := by
    unfold stripHi
    rw [if_pos rfl, htw, hl]
    omega
  split
  · rename_i h
    unfold stripSame at h
    rw [hlo, hhi, hl] at h
    simp only [beq_self_eq_true, Bool.true_and, beq_iff_eq] at h
    have : k = 0 := by omega
    rw [hx, this]
    simp
  · unfold stripped
    rw [hlo, hhi]
    show (strSub x 0 b.length).cps.toList = b
    rw [strSub_toList, show x.cps.toList = TL.tl x from rfl, hx]
    simp
end LH

namespace LH
open PySem PySem.Spec PyProof.Rows L2
/-! ### a text without one sign at its end -/
theorem rmsuffix_no (x y : Str) (c : Nat) (hy : TL.tl y = [c]) (h : (TL.tl x).getLast? ≠ some c) : Txt.removesuffix x y = x := by
  have he := ends_one x y c hy
  rw [decide_eq_false h] at he
  unfold Txt.endswith at he
  unfold Txt.removesuffix
  rw [Nat.zero_add] at he
  rw [he, if_neg Bool.false_ne_true]
  rfl
theorem rmsuffix_yes (x y z : Str) (c : Nat) (hy : TL.tl y = [c]) (h : TL.tl x = TL.tl z ++ [c]) : Txt.removesuffix x y = z := by
  have he := ends_one x y c hy
  rw [h, List.getLast?_concat, decide_eq_true rfl] at he
  unfold Txt.endswith at he
  unfold Txt.removesuffix
  rw [Nat.zero_add] at he
  rw [he, if_pos rfl]
  have hx : x.length = z.length + 1 := by rw [TL.len_tl, TL.len_tl z, h, List.length_append]; rfl
  have hyl : y.length = 1 := by rw [TL.len_tl, hy]; rfl
  show (if (x.length - y.length - 0 == x.length) = true then x else Builtin.Str.strSub x 0 (x.length - y.length)) = z
  rw [if_neg (by rw [beq_iff_eq]; omega)]
  refine TL.ext_tl ?_
  show (Builtin.Str.strSub x 0 (x.length - y.length)).cps.toList = _
  rw [StrLaws.strSub_toList]
  show ((TL.tl x).drop 0).take _ = _
  rw [List.drop_zero, h, show x.length - y.length - 0 = (TL.tl z).length by rw [hx, hyl, TL.len_tl z]; omega]
  simp
end LH

namespace LH
open PySem PySem.Spec PyProof.Rows L2
/-! ### a comprehension over triples, the last two under one name -/
theorem lc_tri {K : PySem.W.Frag} {a : Addr} {ts : List Addr} {ps : Nat → V × V × V} {te : TE} {c1 c2 : Nat} {σ : L2.St} {H1 : Hp} {D : Addr} {Qd : Hp → Prop} (f : Nat → V) (hne : c1 ≠ c2) (hL : SqL K H1 a (ts.map V.ref)) (hT : ∀ i, i < ts.length → SqT K H1 (ts.getD i 0) [(ps i).1, (ps i).2.1, (ps i).2.2])
    (hD : H1 D = none) (hn : ts.length ≤ sizeLine)
    (he : ∀ i H Q, i < ts.length → Same H1 H → Tell H (f i) Q → te (((((σ.set c2 none).set c1 none).set c1 (some (ps i).1)).set c2 (some (ps i).2.1)).set c2 (some (ps i).2.2)) H Q)
    (hd : ∀ H, Same H1 H → H D = some (.lst ((List.range ts.length).map f)) → Qd H) :
    ∃ W : Nat → Nat → Hp → Prop, (∃ m, W 0 m (upd H1 D (.lst []))) ∧ ∀ i m H, W i m H →
      ((Itl K a).stop i H ∧ Qd H) ∨ ((Itl K a).go i H ∧ ∃ Nx : Hp → Prop, (∀ H', Nx H' → ∃ m', m' < m ∧ W (i + 1) m' H') ∧ ∀ x H', (Itl K a).yld i H x H' → gTup K 3 (gCons (gName c1) (gCons (gName c2) (gCons (gName c2) gNil))) x (wipe σ [c1, c2]) H' fun σ2 H2 => wipe σ2 [c1, c2] = wipe σ [c1, c2] ∧ tYes σ2 H2 fun b H3 =>
        if b = true then te σ2 H3 fun y H4 => ∃ acc, H4 D = some (.lst acc) ∧ acc.length < sizeLine ∧ Nx (upd H4 D (.lst (acc ++ [y]))) else Nx H3) := by
  have hm : (ts.map V.ref).length = ts.length := List.length_map ..
  refine lc_it walk_list (fun i H => Same H1 H ∧ H D = some (.lst ((List.range i).map f))) ⟨same_upd hD, upd_same⟩ (fun i H _ h => h.1.seq hL) (fun i x H H' hi hP hy => ?_) (fun H h => hd H h.1 (by rw [← hm]; exact h.2))
  obtain ⟨sm, eD⟩ := hP
  obtain ⟨rfl, hx⟩ := hy
  rw [hm] at hi
  rw [List.getElem?_map, List.getElem?_eq_getElem hi] at hx
  obtain rfl := Option.some.inj hx
  have hTi := hT i hi
  rw [List.getD_eq_getElem?_getD, List.getElem?_eq_getElem hi] at hTi
  refine ⟨ts[i], _, rfl, seqT sm hTi, rfl, _, _, rfl, _, _, rfl, _, _, rfl, rfl, ?_, ?_⟩
  · show ((((((σ.set c2 none).set c1 none).set c1 (some (ps i).1)).set c2 (some (ps i).2.1)).set c2 (some (ps i).2.2)).set c2 none).set c1 none = (σ.set c2 none).set c1 none
    rw [List.set_set, List.set_set, List.set_set, List.set_comm _ _ hne, List.set_set, List.set_comm _ _ hne.symm, List.set_comm _ _ hne, List.set_set]
  · unfold tYes
    dsimp only
    rw [if_pos rfl]
    refine he i H' _ hi sm fun H3 s3 => ⟨_, s3 _ _ eD, ?_, ?_, ?_⟩
    · rw [List.length_map, List.length_range]; omega
    · intro b' o hb'
      rw [upd_ne (ne_of_none hb' hD)]
      exact s3 _ _ (sm _ _ hb')
    · rw [upd_same, List.range_succ, List.map_append]
      rfl
end LH

namespace K31
open PySem PySem.Spec PyProof.Rows L2 LH
def topS (i : Nat) : Stmt := PySem.Challenge.pw_letterhouse_k31_rules_read.main.body.getD i (.Pass ⟨0, 0, 0, 0⟩)
def clsS (i j : Nat) : Stmt := match topS i with
  | .ClassDef _ _ _ b _ _ _ _ _ _ _ => b.getD j (.Pass ⟨0, 0, 0, 0⟩)
  | s => s
def FIGS : Str := Str.ofString "0123456789"
def dayNames : List Str := [Str.ofString "Mon", Str.ofString "Tue", Str.ofString "Wed", Str.ofString "Thu", Str.ofString "Fri", Str.ofString "Sat", Str.ofString "Sun"]
def monthDays : List Int := [31, 28, 31, 30, 31, 30, 31, 31, 30, 31, 30, 31]
def LOCALT : Str := Str.ofString "abcdefghijklmnopqrstuvwxyz0123456789_-"
def HOUSET : Str := Str.ofString "abcdefghijklmnopqrstuvwxyz0123456789"
def SMALLT : Str := Str.ofString "abcdefghijklmnopqrstuvwxyz"
def namedDeeds : List Str := [Str.ofString "move", Str.ofString "copy", Str.ofString "mark", Str.ofString "unmark"]
def plainDeeds : List Str := [Str.ofString "refuse", Str.ofString "stop"]
structure Tx (K : PySem.W.Frag) (mg : Str → Option Value) (tk : Nat → Tok) (dn md : Addr) : Prop where
  n_abs : mg "abs" = none
  n_bool : mg "bool" = none
  n_divmod : mg "divmod" = none
  n_enumerate : mg "enumerate" = none
  n_int : mg "int" = none
  n_isinstance : mg "isinstance" = none
  n_len : mg "len" = none
  n_max : mg "max" = none
  n_range : mg "range" = none
  n_str : mg "str" = none
  n_list : mg "list" = none
  n_tuple : mg "tuple" = none
  n_min : mg "min" = none
  n_sum : mg "sum" = none
  m_FIGURES : mg "FIGURES" = some (.str FIGS (tk 0))
  m_LAST_YEAR : mg "LAST_YEAR" = some (.int 9999 (tk 1))
  m_DAY_MINUTES : mg "DAY_MINUTES" = some (.int 1440 (tk 2))
  m_MOST_HOURS : mg "MOST_HOURS" = some (.int 14 (tk 3))
  m_LOCAL_SIGNS : mg "LOCAL_SIGNS" = some (.str LOCALT (tk 4))
  m_LOCAL_MOST : mg "LOCAL_MOST" = some (.int 20 (tk 5))
  m_HOUSE_SIGNS : mg "HOUSE_SIGNS" = some (.str HOUSET (tk 6))
  m_HOUSE_MOST : mg "HOUSE_MOST" = some (.int 10 (tk 7))
  m_HOUSE_WORDS : mg "HOUSE_WORDS" = some (.int 3 (tk 8))
  m_SMALL : mg "SMALL" = some (.str SMALLT (tk 9))
  m_NAME_LETTERS : mg "NAME_LETTERS" = some (.int 12 (tk 10))
  m_MOST_NOTS : mg "MOST_NOTS" = some (.int 4 (tk 11))
  m_MOST_BRACKETS : mg "MOST_BRACKETS" = some (.int 4 (tk 12))
  m_DAY_NAMES : mg "DAY_NAMES" = some (.ref dn)
  m_MONTH_DAYS : mg "MONTH_DAYS" = some (.ref md)
  t_DAY_NAMES : ∀ H, SqT K H dn (dayNames.map V.str)
  t_MONTH_DAYS : ∀ H, SqT K H md (monthDays.map V.int)
/-- the tuples of the rules -/
structure Ty (K : PySem.W.Frag) (mg : Str → Option Value) (nd1 pd al : Addr) : Prop where
  m_NAMED_DEEDS : mg "NAMED_DEEDS" = some (.ref nd1)
  m_PLAIN_DEEDS : mg "PLAIN_DEEDS" = some (.ref pd)
  m_ALWAYS : mg "ALWAYS" = some (.ref al)
  t_NAMED_DEEDS : ∀ H, SqT K H nd1 (namedDeeds.map V.str)
  t_PLAIN_DEEDS : ∀ H, SqT K H pd (plainDeeds.map V.str)
end K31

namespace K31
open PySem PySem.Spec PyProof.Rows L2 LH
section
variable {P : Program} {w : World} {K : PySem.W.Frag} {mg : Str → Option Value} {base : Heap} {tk : Nat → Tok} {ca : Nat → Addr} {dn md C : Addr}
/-! ### a text read from its first sign on -/
def rfs (z : Str) (n : Nat) : List (Str × V) := [("signs", .str z), ("at", .int (n : Nat))]
def Rdr (H : Hp) (C a dx : Addr) (z : Str) (n : Nat) : Prop := H a = some (.ins C dx (rfs z n))
structure Rc (K : PySem.W.Frag) (C : Addr) : Prop where
  c : Cls K C
  n_signs : NoAttr K C "signs"
  n_at : NoAttr K C "at"
def oneV (c : Nat) : V := .str ⟨#[c]⟩
/-- a choice with the sign c -/
def ChIn (K : PySem.W.Frag) (H : Hp) (y : V) (c : Nat) : Prop := (∃ t : Str, y = .str t ∧ c ∈ TL.tl t) ∨ ∃ (p : Addr) (L : List Nat), y = .ref p ∧ H p = some (.lst (L.map oneV)) ∧ c ∈ L
/-! ### Reader___init__ -/
abbrev s_Reader___init__ : Stmt := clsS 9 0
abbrev N_Reader___init__ : List Str := ["self", "signs"]
abbrev P_Reader___init__ : List Str := ["self", "signs"]
theorem sc_Reader___init__ : FnScope N_Reader___init__ ["self", "signs"] (defScope s_Reader___init__) := ⟨rfl, rfl, rfl, by decide +kernel, rfl, by decide +kernel, by decide +kernel⟩
def sp_init (C : Addr) : Sp := fun vs H Q _ => ∃ (a dx : Addr) (z : Str), vs = [.ref a, .str z] ∧ H a = some (.ins C dx []) ∧ ∀ H', SameBut a H H' → Rdr H' C a dx z 0 → Q .non H'
theorem ok_init {f : Addr} {fd : FuncData} {k : Nat} (F : Fun K "__init__" "Reader.__init__" s_Reader___init__ f fd) (R : Rc K C) : FnOk P w K mg base CX0 (k + 1) f fd P_Reader___init__ (sp_init C) := by
  refine F.ok sc_Reader___init__ (fun vs H Q E h => ?_) (fun cdv A outer s H vs Q E hr h => ?_)
  · obtain ⟨a, dx, z, rfl, _⟩ := h
    rfl
  · have nd := sc_Reader___init__.nd
    obtain ⟨a, dx, z, rfl, e, q⟩ := h
    refine ⟨_, (pss_cons (ps_fld (pv 0) (pv 1) rfl)
      (pss_one (ps_fld (pv 0) pe_int rfl))), ?_⟩
    refine ⟨.str z, rfl, .ref a, rfl, a, C, dx, [], rfl, e, R.c, R.n_signs, (by show 0 < 1000; decide), ?_⟩
    refine ⟨.ref a, rfl, a, C, dx, _, rfl, upd_same, R.c, R.n_at, (by show 1 < 1000; decide), ?_⟩
    exact q _ (SameBut.trans (SameBut.upd _ _ _) (SameBut.upd _ _ _)) upd_same
/-! ### Reader_sees -/
abbrev s_Reader_sees : Stmt := clsS 9 1
abbrev N_Reader_sees : List Str := ["self", "choice"]
abbrev P_Reader_sees : List Str := ["self", "choice"]
theorem sc_Reader_sees : FnScope N_Reader_sees ["self", "choice"] (defScope s_Reader_sees) := ⟨rfl, rfl, rfl, by decide +kernel, rfl, by decide +kernel, by decide +kernel⟩
def sp_sees (K : PySem.W.Frag) (C : Addr) : Sp := fun vs H Q _ => ∃ (a dx : Addr) (z : Str) (n c : Nat) (y : V), vs = [.ref a, y] ∧ Rdr H C a dx z n ∧ z.length ≤ 100000 ∧ (TL.tl z)[n]? = some c ∧ ChIn K H y c ∧ Tell H (.bl true) Q
theorem ok_sees {f : Addr} {fd : FuncData} {k : Nat} (F : Fun K "sees" "Reader.sees" s_Reader_sees f fd) (T : Tx K mg tk dn md) (R : Rc K C) : FnOk P w K mg base CX0 (k + 1) f fd P_Reader_sees (sp_sees K C) := by
  refine F.ok sc_Reader_sees (fun vs H Q E h => ?_) (fun cdv A outer s H vs Q E hr h => ?_)
  · obtain ⟨a, dx, z, n, c, y, rfl, _⟩ := h
    rfl
  · have nd := sc_Reader_sees.nd
    obtain ⟨a, dx, z, n, c, y, rfl, e, hz, hc, hy, q⟩ := h
    refine ⟨_, (pss_one (ps_ret (pe_and (pe_cmpR op_lt (pe_fld (pv 0) rfl) (pe_callB call_len_str (by rfl) T.n_len (by decide +kernel) (pa_cons (pe_fld (pv 0) rfl) pa_nil)) (nomark _)) (pe_one (pe_cmpR (op_inBoth K) (pe_ix ix_str (pe_fld (pv 0) rfl) (pe_fld (pv 0) rfl) (fun _ _ => rfl)) (pv 1) rfl))))), ?_⟩
    have hlt := (List.getElem?_eq_some_iff.mp hc).1
    have hzl : z.length = (TL.tl z).length := TL.len_tl z
    have hzs : z.length ≤ sizeLine := by rw [sizeLine_eq]; omega
    refine andV true true (fun Q' q' => ?_) (fun _ H2 Q' s2 q' => ?_) q
    · refine ⟨.ref a, rfl, a, C, dx, _, _, rfl, e, R.c, R.n_at, rfl, .ref a, rfl, a, C, dx, _, _, rfl, e, R.c, R.n_signs, rfl, z, rfl, hzs, _, _, rfl, rfl, ?_⟩
      show Q' (.bl (decide (((n : Nat) : Int) < (z.length : Nat)))) _
      rw [decide_eq_true (by omega)]
      exact q' _ (Same.refl _)
    · have e2 := s2 _ _ e
      refine ⟨.ref a, rfl, a, C, dx, _, _, rfl, e2, R.c, R.n_signs, rfl, .ref a, rfl, a, C, dx, _, _, rfl, e2, R.c, R.n_at, rfl, z, _, c, rfl, rfl, hzs, atI_nat hc, y, rfl, ?_⟩
      rcases hy with ⟨t, rfl, ht⟩ | ⟨p, L, rfl, ep, hL⟩
      · refine .inl ⟨c, t, rfl, rfl, ?_⟩
        show Q' (.bl (decide (c ∈ TL.tl t))) _
        rw [decide_eq_true ht]
        exact q' _ (Same.refl _)
      · refine .inr ⟨p, _, rfl, .inl (.inl (.inl (s2 _ _ ep))), rfl, ?_, ?_⟩
        · rw [List.all_eq_true]
          intro v hv
          obtain ⟨d, _, rfl⟩ := List.mem_map.mp hv
          rfl
        · show Q' (.bl (inV (oneV c) (L.map oneV))) _
          rw [show inV (oneV c) (L.map oneV) = true by
            unfold inV
            rw [List.any_eq_true]
            exact ⟨oneV c, List.mem_map_of_mem hL, by simp [oneV, eqV]⟩]
          exact q' _ (Same.refl _)
/-! ### Reader_one_of -/
abbrev s_Reader_one_of : Stmt := clsS 9 3
abbrev N_Reader_one_of : List Str := ["self", "choice"]
abbrev P_Reader_one_of : List Str := ["self", "choice"]
theorem sc_Reader_one_of : FnScope N_Reader_one_of ["self", "choice"] (defScope s_Reader_one_of) := ⟨rfl, rfl, rfl, by decide +kernel, rfl, by decide +kernel, by decide +kernel⟩
def sp_one (K : PySem.W.Frag) (C : Addr) : Sp := fun vs H Q _ => ∃ (a dx : Addr) (z : Str) (n c : Nat) (y : V), vs = [.ref a, y] ∧ Rdr H C a dx z n ∧ z.length ≤ 100000 ∧ (TL.tl z)[n]? = some c ∧ ChIn K H y c ∧ ∀ H', SameBut a H H' → Rdr H' C a dx z (n + 1) → Q (oneV c) H'
theorem ok_one {f fS : Addr} {fd fdS : FuncData} (F : Fun K "one_of" "Reader.one_of" s_Reader_one_of f fd) (T : Tx K mg tk dn md) (R : Rc K C) (M_Reader_sees : DefM P w K mg base C "sees" 1 fS fdS P_Reader_sees (sp_sees K C)) : FnOk P w K mg base CX0 2 f fd P_Reader_one_of (sp_one K C) := by
  refine F.ok sc_Reader_one_of (fun vs H Q E h => ?_) (fun cdv A outer s H vs Q E hr h => ?_)
  · obtain ⟨a, dx, z, n, c, y, rfl, _⟩ := h
    rfl
  · have nd := sc_Reader_one_of.nd
    obtain ⟨a, dx, z, n, c, y, rfl, e, hz, hc, hy, q⟩ := h
    refine ⟨_, (pss_cons (ps_if (pt_not (pt_val (pe_meth (pv 0) M_Reader_sees.c M_Reader_sees.hm M_Reader_sees.ok (hr.mono (by decide)) M_Reader_sees.bd .nil pass0 (pa_cons (pv 1) pa_nil))))
        (pss_one ps_never)
        pss_nil)
      (pss_cons (ps_fldaug (pv 0) pe_int in_add)
      (pss_one (ps_ret (pe_ix ix_str (pe_fld (pv 0) rfl) (pe_op op_sub (pe_fld (pv 0) rfl) pe_int) (fun _ _ => rfl)))))), ?_⟩
    have hzs : z.length ≤ sizeLine := by rw [sizeLine_eq]; omega
    refine ifT false (fun k q1 => notT true (fun k q2 => ⟨.ref a, rfl, a, dx, _, rfl, e, rfl, y, rfl, a, dx, z, n, c, y, rfl, e, hz, hc, hy, fun H3 s3 => ⟨true, rfl, q2 _ s3⟩⟩) q1) (fun h => nomatch h) (fun _ H1 s1 => ?_)
    dsimp only [tNext, tSeq]
    have e1 := s1 _ _ e
    refine ⟨.ref a, rfl, a, C, dx, _, _, rfl, e1, R.c, R.n_at, rfl, _, 1, rfl, rfl, dx, _, e1, (by show 2 < 1000; decide), ?_⟩
    have e2 : Rdr (upd H1 a (.ins C dx (putF (Str.ofString "at") (.int ((n : Nat) + 1)) (rfs z n)))) C a dx z (n + 1) := by
      unfold Rdr
      rw [upd_same]
      rfl
    have s2 : SameBut a H (upd H1 a (.ins C dx (putF (Str.ofString "at") (.int ((n : Nat) + 1)) (rfs z n)))) := (SameBut.of s1).trans (SameBut.upd _ _ _)
    dsimp only
    generalize upd H1 a (.ins C dx (putF (Str.ofString "at") (.int ((n : Nat) + 1)) (rfs z n))) = H2 at *
    refine ⟨.ref a, rfl, a, C, dx, _, _, rfl, e2, R.c, R.n_signs, rfl, .ref a, rfl, a, C, dx, _, _, rfl, e2, R.c, R.n_at, rfl, _, 1, rfl, rfl, z, _, c, rfl, rfl, hzs, ?_, q _ s2 e2⟩
    rw [show ((n + 1 : Nat) : Int) - 1 = ((n : Nat) : Int) by omega]
    exact atI_nat hc
/-! ### Reader_sees_word -/
abbrev s_Reader_sees_word : Stmt := clsS 9 2
abbrev N_Reader_sees_word : List Str := ["self", "wanted"]
abbrev P_Reader_sees_word : List Str := ["self", "wanted"]
theorem sc_Reader_sees_word : FnScope N_Reader_sees_word ["self", "wanted"] (defScope s_Reader_sees_word) := ⟨rfl, rfl, rfl, by decide +kernel, rfl, by decide +kernel, by decide +kernel⟩
/-- whether the signs from n on are a word's -/
def aheadIs (l w : List Nat) (n : Nat) : Bool := decide ((l.drop n).take w.length = w)
def sp_seesword (C : Addr) : Sp := fun vs H Q _ => ∃ (a dx : Addr) (z t : Str) (n : Nat), vs = [.ref a, .str t] ∧ Rdr H C a dx z n ∧ z.length ≤ 100000 ∧ t.length ≤ 100000 ∧ Tell H (.bl (aheadIs (TL.tl z) (TL.tl t) n)) Q
theorem ok_seesword {f : Addr} {fd : FuncData} {k : Nat} (F : Fun K "sees_word" "Reader.sees_word" s_Reader_sees_word f fd) (T : Tx K mg tk dn md) (R : Rc K C) : FnOk P w K mg base CX0 (k + 1) f fd P_Reader_sees_word (sp_seesword C) := by
  refine F.ok sc_Reader_sees_word (fun vs H Q E h => ?_) (fun cdv A outer s H vs Q E hr h => ?_)
  · obtain ⟨a, dx, z, t, n, rfl, _⟩ := h
    rfl
  · have nd := sc_Reader_sees_word.nd
    obtain ⟨a, dx, z, t, n, rfl, e, hz, ht, q⟩ := h
    refine ⟨_, (pss_one (ps_ret (pe_cmpR op_eq (pe_slice sl_str (pe_fld (pv 0) rfl) (po_some (pe_fld (pv 0) rfl)) (po_some (pe_op op_add (pe_fld (pv 0) rfl) (pe_callB call_len_str (by rfl) T.n_len (by decide +kernel) (pa_cons (pv 1) pa_nil))))) (pv 1) (nomark _)))), ?_⟩
    have hzs : z.length ≤ sizeLine := by rw [sizeLine_eq]; omega
    have hts : t.length ≤ sizeLine := by rw [sizeLine_eq]; omega
    refine ⟨.ref a, rfl, a, C, dx, _, _, rfl, e, R.c, R.n_signs, rfl, .ref a, rfl, a, C, dx, _, _, rfl, e, R.c, R.n_at, rfl, _, rfl, .ref a, rfl, a, C, dx, _, _, rfl, e, R.c, R.n_at, rfl, .str t, rfl, t, rfl, hts, _, _, rfl, rfl, _, rfl, z, rfl, hzs, .str t, rfl, rfl, ?_⟩
    have et : decide (V.str (cutS z (some (n : Int)) (some ((n : Int) + (t.length : Nat)))) = V.str t) = aheadIs (TL.tl z) (TL.tl t) n := by
      have hl : t.length = (TL.tl t).length := TL.len_tl t
      rw [show ((n : Int) + (t.length : Nat)) = ((n + t.length : Nat) : Int) by omega, cutS_at, show n + t.length - n = (TL.tl t).length by omega]
      unfold aheadIs
      rw [decide_eq_decide]
      constructor
      · intro h
        exact congrArg TL.tl (V.str.inj h)
      · intro h
        exact congrArg V.str (TL.ext_tl h)
    show Q (.bl (decide (V.str (cutS z (some (n : Int)) (some ((n : Int) + (t.length : Nat)))) = V.str t))) H
    rw [et]
    exact q _ (Same.refl _)
/-! ### Reader_word -/
abbrev s_Reader_word : Stmt := clsS 9 4
abbrev N_Reader_word : List Str := ["self", "wanted", "sign"]
abbrev P_Reader_word : List Str := ["self", "wanted"]
theorem sc_Reader_word : FnScope N_Reader_word ["self", "wanted"] (defScope s_Reader_word) := ⟨rfl, rfl, rfl, by decide +kernel, rfl, by decide +kernel, by decide +kernel⟩
def sp_word (K : PySem.W.Frag) (C : Addr) : Sp := fun vs H Q _ => ∃ (a dx : Addr) (z t : Str) (n : Nat) (rest : List Nat), vs = [.ref a, .str t] ∧ Rdr H C a dx z n ∧ z.length ≤ 100000 ∧ (TL.tl z).drop n = TL.tl t ++ rest ∧ ∀ H', SameBut a H H' → Rdr H' C a dx z (n + (TL.tl t).length) → Q .non H'
theorem ok_word {f fO fW : Addr} {fd fdO fdW : FuncData} (F : Fun K "word" "Reader.word" s_Reader_word f fd) (T : Tx K mg tk dn md) (R : Rc K C) (M_Reader_one_of : DefM P w K mg base C "one_of" 2 fO fdO P_Reader_one_of (sp_one K C)) (M_Reader_sees_word : DefM P w K mg base C "sees_word" 1 fW fdW P_Reader_sees_word (sp_seesword C)) : FnOk P w K mg base CX0 3 f fd P_Reader_word (sp_word K C) := by
  refine F.ok sc_Reader_word (fun vs H Q E h => ?_) (fun cdv A outer s H vs Q E hr h => ?_)
  · obtain ⟨a, dx, z, t, n, rest, rfl, _⟩ := h
    rfl
  · have nd := sc_Reader_word.nd
    obtain ⟨a, dx, z, t, n, rest, rfl, e, hz, hd, q⟩ := h
    refine ⟨_, (pss_cons (ps_if (pt_val (pe_meth (pv 0) M_Reader_sees_word.c M_Reader_sees_word.hm M_Reader_sees_word.ok (hr.mono (by decide)) M_Reader_sees_word.bd .nil pass0 (pa_cons (pv 1) pa_nil)))
        (pss_cons (ps_fldaug (pv 0) (pe_callB call_len_str (by rfl) T.n_len (by decide +kernel) (pa_cons (pv 1) pa_nil)) in_add)
        (pss_one ps_retN))
        pss_nil)
      (pss_one (ps_for PassesOwn.never rfl (pi_str (pv 1)) (pg_name (i := 2) nd rfl (Or.inl rfl))
        (pss_one (ps_expr (pe_meth (pv 0) M_Reader_one_of.c M_Reader_one_of.hm M_Reader_one_of.ok (hr.mono (by decide)) M_Reader_one_of.bd .nil pass0 (pa_cons (pv 2) pa_nil))))))), ?_⟩
    have hts : t.length ≤ 100000 := by
      have := congrArg List.length hd
      rw [List.length_append, List.length_drop, ← TL.len_tl, ← TL.len_tl] at this
      omega
    dsimp only [gName, tSeq]
    refine ifT true (fun k q1 => ⟨.ref a, rfl, a, dx, _, rfl, e, rfl, .str t, rfl, a, dx, z, t, n, rfl, e, hz, hts, ?_⟩) (fun _ H1 s1 => ?_) (fun h => nomatch h)
    · rw [show aheadIs (TL.tl z) (TL.tl t) n = true by unfold aheadIs; rw [hd]; simp]
      exact fun H1 s1 => ⟨true, rfl, q1 _ s1⟩
    · dsimp only [tNext, tSeq]
      have e1 := s1 _ _ e
      have hl : t.length = (TL.tl t).length := TL.len_tl t
      have hts2 : t.length ≤ sizeLine := by rw [sizeLine_eq]; omega
      refine ⟨.ref a, rfl, a, C, dx, _, _, rfl, e1, R.c, R.n_at, rfl, .str t, rfl, t, rfl, hts2, _, _, rfl, rfl, dx, _, e1, (by show 2 < 1000; decide), ?_⟩
      dsimp only [tRetN]
      refine q _ ((SameBut.of s1).trans (SameBut.upd _ _ _)) ?_
      unfold Rdr
      rw [upd_same, ← hl]
      rfl
/-! ### Reader_refuse_number -/
abbrev s_Reader_refuse_number : Stmt := clsS 9 8
abbrev N_Reader_refuse_number : List Str := ["self", "low", "high", "found", "many", "sign"]
abbrev P_Reader_refuse_number : List Str := ["self", "low", "high"]
theorem sc_Reader_refuse_number : FnScope N_Reader_refuse_number ["self", "low", "high"] (defScope s_Reader_refuse_number) := ⟨rfl, rfl, rfl, by decide +kernel, rfl, by decide +kernel, by decide +kernel⟩
def sp_never : Sp := fun _ _ _ _ => False
theorem ok_refuse {f : Addr} {fd : FuncData} {k : Nat} (F : Fun K "refuse_number" "Reader.refuse_number" s_Reader_refuse_number f fd) : FnOk P w K mg base CX0 (k + 1) f fd P_Reader_refuse_number sp_never := by
  exact F.ok sc_Reader_refuse_number (fun vs H Q E h => h.elim) (fun cdv A outer s H vs Q E hr h => h.elim)
/-! ### Reader_number -/
abbrev s_Reader_number : Stmt := clsS 9 7
abbrev N_Reader_number : List Str := ["self", "low", "high", "found"]
abbrev P_Reader_number : List Str := ["self", "low", "high"]
theorem sc_Reader_number : FnScope N_Reader_number ["self", "low", "high"] (defScope s_Reader_number) := ⟨rfl, rfl, rfl, by decide +kernel, rfl, by decide +kernel, by decide +kernel⟩
/-- figures that are a number from lo to hi, place by place -/
def Fits (lo hi ds : List Nat) : Prop := lo.length = ds.length ∧ hi.length = ds.length ∧ 1 ≤ ds.length ∧ ds.length ≤ 4 ∧ (∀ d ∈ ds, 48 ≤ d ∧ d ≤ 57) ∧ ∀ j, j < ds.length → ¬ ds.take (j + 1) < lo.take (j + 1) ∧ ¬ hi.take (j + 1) < ds.take (j + 1)
def sp_number (K : PySem.W.Frag) (C : Addr) : Sp := fun vs H Q _ => ∃ (a dx : Addr) (z lo hi : Str) (n : Nat) (ds rest : List Nat), vs = [.ref a, .str lo, .str hi] ∧ Rdr H C a dx z n ∧ z.length ≤ 100000 ∧ (TL.tl z).drop n = ds ++ rest ∧ Fits (TL.tl lo) (TL.tl hi) ds ∧ ∀ H', SameBut a H H' → Rdr H' C a dx z (n + ds.length) → Q (.int (NumText.digitsVal ds : Nat)) H'
theorem ok_number {f fR : Addr} {fd fdR : FuncData} (F : Fun K "number" "Reader.number" s_Reader_number f fd) (T : Tx K mg tk dn md) (R : Rc K C) (M_Reader_refuse_number : DefM P w K mg base C "refuse_number" 1 fR fdR P_Reader_refuse_number sp_never) : FnOk P w K mg base CX0 3 f fd P_Reader_number (sp_number K C) := by
  refine F.ok sc_Reader_number (fun vs H Q E h => ?_) (fun cdv A outer s H vs Q E hr h => ?_)
  · obtain ⟨a, dx, z, lo, hi, n, ds, rest, rfl, _⟩ := h
    rfl
  · have nd := sc_Reader_number.nd
    obtain ⟨a, dx, z, lo, hi, n, ds, rest, rfl, e, hz, hd, ⟨hlo, hhi, h1, h4, hdig, hpre⟩, q⟩ := h
    refine ⟨_, (pss_cons (ps_set (i := 3) nd rfl (.inl rfl) (pe_slice sl_str (pe_fld (pv 0) rfl) (po_some (pe_fld (pv 0) rfl)) (po_some (pe_op op_add (pe_fld (pv 0) rfl) (pe_callB call_len_str (by rfl) T.n_len (by decide +kernel) (pa_cons (pv 1) pa_nil))))))
      (pss_cons (ps_if (PW.pt (pw_or (pt_cmpR op_lt (pe_callB call_len_str (by rfl) T.n_len (by decide +kernel) (pa_cons (pv 3) pa_nil)) (pe_callB call_len_str (by rfl) T.n_len (by decide +kernel) (pa_cons (pv 1) pa_nil)) (nomark _)) (pw_or (pt_cmpR op_ne (pe_m1 PySem.F.slot_str_strip PySem.F.type_str_strip mt_stripChars (pv 3) (pe_glob (v := .str FIGS) (by rfl) T.m_FIGURES ⟨_, rfl⟩)) pe_str (nomark _)) (pw_or1 (pt_not (pt_chain op_le_str op_le_str (pv 1) (pv 3) (pv 2)))))))
        (pss_one (ps_expr (pe_meth (pv 0) M_Reader_refuse_number.c M_Reader_refuse_number.hm M_Reader_refuse_number.ok (hr.mono (by decide)) M_Reader_refuse_number.bd .nil pass0 (pa_cons (pv 1) (pa_cons (pv 2) pa_nil)))))
        pss_nil)
      (pss_cons (ps_fldaug (pv 0) (pe_callB call_len_str (by rfl) T.n_len (by decide +kernel) (pa_cons (pv 1) pa_nil)) in_add)
      (pss_one (ps_ret (pe_callTy call_int_str (by rfl) T.n_int (by decide +kernel) (pa_cons (pv 3) pa_nil))))))), ?_⟩
    have hlol : lo.length = (TL.tl lo).length := TL.len_tl lo
    have hlos : lo.length ≤ sizeLine := by rw [sizeLine_eq]; omega
    dsimp only [gName, tSeq]
    have hzs : z.length ≤ sizeLine := by rw [sizeLine_eq]; omega
    have hne : ds ≠ [] := fun h => by rw [h] at h1; simp at h1
    have hcut : cutS z (some (n : Int)) (some ((n : Int) + (lo.length : Nat))) = SX.S ds := by
      rw [show ((n : Int) + (lo.length : Nat)) = ((n + lo.length : Nat) : Int) by omega, cutS_at, show n + lo.length - n = ds.length by omega, hd]
      apply TL.ext_tl
      simp [SX.S, hlo]
    have hfl : (SX.S ds).length = ds.length := by rw [TL.len_tl]
    refine ⟨.ref a, rfl, a, C, dx, _, _, rfl, e, R.c, R.n_signs, rfl, .ref a, rfl, a, C, dx, _, _, rfl, e, R.c, R.n_at, rfl, _, rfl, .ref a, rfl, a, C, dx, _, _, rfl, e, R.c, R.n_at, rfl, .str lo, rfl, lo, rfl, hlos, _, _, rfl, rfl, _, rfl, z, rfl, hzs, ?_⟩
    dsimp only [gName, tSeq]
    show tIfS _ _ _ _ [some (.ref a), some (.str lo), some (.str hi), some (.str (cutS z (some (n : Int)) (some ((n : Int) + (lo.length : Nat)))))] H
    rw [hcut]
    have hfs : (SX.S ds).length ≤ sizeLine := by rw [hfl, sizeLine_eq]; omega
    refine ifT false (fun k q1 => orT false false (fun k2 q2 => ⟨.str (SX.S ds), rfl, _, rfl, hfs, .str lo, rfl, lo, rfl, hlos, _, _, rfl, rfl, _, rfl, TellB.eq (decide_eq_false (by rw [hfl]; omega)) q2 _ (Same.refl _)⟩)
      (fun _ H1 k2 s1 q2 => orT false false (fun k3 q3 => ⟨.str (SX.S ds), rfl, ⟨_, rfl⟩, SX.S ds, FIGS, rfl, rfl, hfs, ?_⟩) (fun _ H2 k3 s2 q3 => notT true (fun k4 q4 => ?_) q3) q2) q1) (fun h => nomatch h) (fun _ H1 s1 => ?_)
    · refine ⟨rfl, _, rfl, TellB.eq ?_ q3 _ (Same.refl _)⟩
      rw [strip_eq, Bool.not_eq_false', List.all_eq_true]
      intro d hd'
      obtain ⟨g1, g2⟩ := hdig d hd'
      have hF : TL.tl FIGS = (List.range 10).map (· + 48) := by decide +kernel
      rw [decide_eq_true_eq, hF, List.mem_map]
      exact ⟨d - 48, List.mem_range.mpr (by omega), by omega⟩
    · have hp := hpre (ds.length - 1) (by omega)
      rw [show ds.length - 1 + 1 = ds.length by omega, List.take_length, List.take_of_length_le (by omega), List.take_of_length_le (by omega)] at hp
      refine ⟨.str lo, rfl, .str (SX.S ds), rfl, lo, SX.S ds, rfl, rfl, _, rfl, ?_⟩
      rw [show (!decide ((SX.S ds).cps.toList < lo.cps.toList)) = true by rw [Bool.not_eq_true']; exact decide_eq_false hp.1]
      refine iteT ⟨.str hi, rfl, SX.S ds, hi, rfl, rfl, _, rfl, TellB.eq ?_ q4 _ (Same.refl _)⟩
      rw [Bool.not_eq_true']
      exact decide_eq_false hp.2
    · dsimp only [tNext, tSeq]
      have e1 := s1 _ _ e
      refine ⟨.ref a, rfl, a, C, dx, _, _, rfl, e1, R.c, R.n_at, rfl, .str lo, rfl, lo, rfl, hlos, _, _, rfl, rfl, dx, _, e1, (by show 2 < 1000; decide), ?_⟩
      have hall : (ds.all fun c => decide (48 ≤ c) && decide (c ≤ 57)) = true := by
        rw [List.all_eq_true]
        intro c hc
        have := hdig c hc
        rw [decide_eq_true this.1, decide_eq_true this.2]
        rfl
      refine ⟨.str (SX.S ds), rfl, SX.S ds, _, rfl, SX.int_S hall hne (by omega), by rw [hfl]; omega, q _ ((SameBut.of s1).trans (SameBut.upd _ _ _)) ?_⟩
      unfold Rdr
      rw [upd_same, ← hlo, ← hlol]
      rfl
/-! ### Reader_end -/
abbrev s_Reader_end : Stmt := clsS 9 9
abbrev N_Reader_end : List Str := ["self"]
abbrev P_Reader_end : List Str := ["self"]
theorem sc_Reader_end : FnScope N_Reader_end ["self"] (defScope s_Reader_end) := ⟨rfl, rfl, rfl, by decide +kernel, rfl, by decide +kernel, by decide +kernel⟩
def sp_end (C : Addr) : Sp := fun vs H Q _ => ∃ (a dx : Addr) (z : Str), vs = [.ref a] ∧ Rdr H C a dx z (TL.tl z).length ∧ z.length ≤ 100000 ∧ Tell H .non Q
theorem ok_end {f : Addr} {fd : FuncData} {k : Nat} (F : Fun K "end" "Reader.end" s_Reader_end f fd) (T : Tx K mg tk dn md) (R : Rc K C) : FnOk P w K mg base CX0 (k + 1) f fd P_Reader_end (sp_end C) := by
  refine F.ok sc_Reader_end (fun vs H Q E h => ?_) (fun cdv A outer s H vs Q E hr h => ?_)
  · obtain ⟨a, dx, z, rfl, _⟩ := h
    rfl
  · have nd := sc_Reader_end.nd
    obtain ⟨a, dx, z, rfl, e, hz, q⟩ := h
    refine ⟨_, (pss_one (ps_if (pt_cmpR op_lt (pe_fld (pv 0) rfl) (pe_callB call_len_str (by rfl) T.n_len (by decide +kernel) (pa_cons (pe_fld (pv 0) rfl) pa_nil)) (nomark _))
        (pss_one ps_never)
        pss_nil)), ?_⟩
    have hzl : z.length = (TL.tl z).length := TL.len_tl z
    have hzs : z.length ≤ sizeLine := by rw [sizeLine_eq]; omega
    refine ifT false (fun k q1 => ⟨.ref a, rfl, a, C, dx, _, _, rfl, e, R.c, R.n_at, rfl, .ref a, rfl, a, C, dx, _, _, rfl, e, R.c, R.n_signs, rfl, z, rfl, hzs, _, _, rfl, rfl, _, rfl, TellB.eq (decide_eq_false (by omega)) q1 _ (Same.refl _)⟩) (fun h => nomatch h) (fun _ H1 s1 => q _ s1)
end
end K31

namespace K31
open PySem PySem.Spec PyProof.Rows L2 LH
section
variable {P : Program} {w : World} {K : PySem.W.Frag} {mg : Str → Option Value} {base : Heap} {tk : Nat → Tok} {ca : Nat → Addr} {dn md C : Addr}
/-! ### the calendar -/
def leapB (y : Int) : Bool := decide (y % 400 = 0) || (decide (y % 4 = 0) && decide (0 < y % 100))
def daysIn (y m : Int) : Int := if m = 2 then (if leapB y = true then 29 else 28) else if m = 4 ∨ m = 6 ∨ m = 9 ∨ m = 11 then 30 else 31
/-- days of the year ahead of a month -/
def daysTo (y : Int) : Nat → Int
  | 0 => 0
  | k + 1 => daysTo y k + daysIn y ((k : Nat) + 1)
def daysA (y m : Int) : Int := (y - 1) * 365 + ((y - 1) / 4 - (y - 1) / 100 + (y - 1) / 400) + daysTo y (m - 1).toNat
/-! ### has_leap_day -/
abbrev s_has_leap_day : Stmt := topS 41
abbrev N_has_leap_day : List Str := ["year"]
abbrev P_has_leap_day : List Str := ["year"]
theorem sc_has_leap_day : FnScope N_has_leap_day ["year"] (defScope s_has_leap_day) := ⟨rfl, rfl, rfl, by decide +kernel, rfl, by decide +kernel, by decide +kernel⟩
def sp_leap : Sp := fun vs H Q _ => ∃ y : Int, vs = [.int y] ∧ Tell H (.bl (leapB y)) Q
theorem ok_leap {f : Addr} {fd : FuncData} {k : Nat} (F : Fun K "has_leap_day" "has_leap_day" s_has_leap_day f fd) : FnOk P w K mg base CX0 (k + 1) f fd P_has_leap_day sp_leap := by
  refine F.ok sc_has_leap_day (fun vs H Q E h => ?_) (fun cdv A outer s H vs Q E hr h => ?_)
  · obtain ⟨y, rfl, _⟩ := h
    rfl
  · have nd := sc_has_leap_day.nd
    obtain ⟨y, rfl, q⟩ := h
    refine ⟨_, (pss_one (ps_ret (pe_or (pe_cmpR op_eq (pe_op op_mod (pv 0) pe_int) pe_int (nomark _)) (pe_one (pe_and (pe_cmpR op_eq (pe_op op_mod (pv 0) pe_int) pe_int (nomark _)) (pe_one (pe_cmpR op_gt (pe_op op_mod (pv 0) pe_int) pe_int (nomark _)))))))), ?_⟩
    refine orV (decide (y % 400 = 0)) (decide (y % 4 = 0) && decide (0 < y % 100)) (fun Q' q' => ⟨_, rfl, _, 400, rfl, rfl, (show (0 : Int) < 400 by decide), rfl, ?_⟩) (fun _ H2 Q' s2 q' => andV (decide (y % 4 = 0)) (decide (0 < y % 100)) (fun Q2 q2 => ⟨_, rfl, _, 4, rfl, rfl, (show (0 : Int) < 4 by decide), rfl, ?_⟩) (fun _ H3 Q2 s3 q2 => ⟨_, rfl, _, 100, rfl, rfl, (show (0 : Int) < 100 by decide), _, 0, rfl, rfl, q2 _ (Same.refl _)⟩) q') q
    · rw [vint_dec]; exact q' _ (Same.refl _)
    · rw [vint_dec]; exact q2 _ (Same.refl _)
/-! ### days_in -/
abbrev s_days_in : Stmt := topS 40
abbrev N_days_in : List Str := ["year", "month"]
abbrev P_days_in : List Str := ["year", "month"]
theorem sc_days_in : FnScope N_days_in ["year", "month"] (defScope s_days_in) := ⟨rfl, rfl, rfl, by decide +kernel, rfl, by decide +kernel, by decide +kernel⟩
theorem md_at : ∀ m : Fin 13, 1 ≤ m.val → monthDays[m.val - 1]? = some (if m.val = 2 then 28 else if m.val = 4 ∨ m.val = 6 ∨ m.val = 9 ∨ m.val = 11 then 30 else 31) := by decide
def sp_daysin : Sp := fun vs H Q _ => ∃ (y : Int) (m : Nat), vs = [.int y, .int (m : Nat)] ∧ 1 ≤ m ∧ m ≤ 12 ∧ Tell H (.int (daysIn y m)) Q
theorem ok_daysin {f fL : Addr} {fd fdL : FuncData} (F : Fun K "days_in" "days_in" s_days_in f fd) (T : Tx K mg tk dn md) (D_has_leap_day : Def P w K mg base "has_leap_day" 1 fL fdL P_has_leap_day sp_leap) : FnOk P w K mg base CX0 2 f fd P_days_in sp_daysin := by
  refine F.ok sc_days_in (fun vs H Q E h => ?_) (fun cdv A outer s H vs Q E hr h => ?_)
  · obtain ⟨y, m, rfl, _⟩ := h
    rfl
  · have nd := sc_days_in.nd
    obtain ⟨y, m, rfl, h1, h2, q⟩ := h
    refine ⟨_, (pss_one (ps_ret (pe_op op_add (pe_ix (ixT K) (pe_glob (v := .ref md) (by rfl) T.m_MONTH_DAYS rfl) (pe_op op_sub (pv 1) pe_int) (fun _ _ => rfl)) (pe_ifExp (PW.pt (pw_and (pt_cmpR op_eq (pv 1) pe_int (nomark _)) (pw_and1 (pt_val (pe_def D_has_leap_day (hr.mono (by decide)) (pa_cons (pv 0) pa_nil)))))) pe_int pe_int)))), ?_⟩
    have hm := md_at ⟨m, by omega⟩ h1
    dsimp only at hm
    have hat : atI (monthDays.map V.int) ((m : Nat) - 1 : Int) = some (.int (if m = 2 then 28 else if m = 4 ∨ m = 6 ∨ m = 9 ∨ m = 11 then 30 else 31)) := by
      rw [show ((m : Nat) : Int) - 1 = ((m - 1 : Nat) : Int) by omega]
      refine atI_nat ?_
      rw [List.getElem?_map, hm]
      rfl
    refine ⟨.int m, rfl, _, 1, rfl, rfl, md, _, _, _, rfl, rfl, T.t_MONTH_DAYS _, hat, ?_⟩
    refine andT (decide ((m : Int) = 2)) (leapB y) (fun k q1 => ⟨.int m, rfl, rfl, _, rfl, ?_⟩) (fun _ H1 k s1 q1 => ⟨.int y, rfl, y, rfl, fun H2 s2 => ⟨_, rfl, q1 _ s2⟩⟩) (fun H1 s1 => ?_)
    · rw [vint_dec]
      exact q1 _ (Same.refl _)
    have hq := q H1 s1
    unfold daysIn at hq
    cases hb : (decide ((m : Int) = 2) && leapB y) with
    | true =>
      obtain ⟨e2, el⟩ := Bool.and_eq_true_iff.mp hb
      have e2 := of_decide_eq_true e2
      have e3 : m = 2 := by omega
      refine iteT ⟨_, 1, rfl, rfl, ?_⟩
      rw [if_pos e2, if_pos el] at hq
      rw [if_pos e3]
      exact hq
    | false =>
      refine iteF ⟨_, 0, rfl, rfl, ?_⟩
      by_cases e2 : m = 2
      · have : leapB y = false := by
          cases h : leapB y with
          | false => rfl
          | true => rw [h, decide_eq_true (by omega : (m : Int) = 2)] at hb; exact nomatch hb
        rw [if_pos (by omega), this] at hq
        rw [if_pos e2]
        exact hq
      · rw [if_neg (by omega)] at hq
        rw [if_neg e2]
        by_cases e4 : m = 4 ∨ m = 6 ∨ m = 9 ∨ m = 11
        · rw [if_pos (by omega)] at hq
          rw [if_pos e4]
          exact hq
        · rw [if_neg (by omega)] at hq
          rw [if_neg e4]
          exact hq
/-! ### days_ahead -/
abbrev s_days_ahead : Stmt := topS 39
abbrev N_days_ahead : List Str := ["year", "month", "years", "leap_days"]
abbrev P_days_ahead : List Str := ["year", "month"]
theorem sc_days_ahead : FnScope N_days_ahead ["year", "month"] (defScope s_days_ahead) := ⟨rfl, rfl, rfl, by decide +kernel, rfl, by decide +kernel, by decide +kernel⟩
def sp_daysA : Sp := fun vs H Q _ => ∃ (y : Int) (m : Nat), vs = [.int y, .int (m : Nat)] ∧ 1 ≤ m ∧ m ≤ 13 ∧ Tell H (.int (daysA y m)) Q
theorem ok_daysA {f fL : Addr} {fd fdL : FuncData} (F : Fun K "days_ahead" "days_ahead" s_days_ahead f fd) (T : Tx K mg tk dn md) (D_has_leap_day : Def P w K mg base "has_leap_day" 1 fL fdL P_has_leap_day sp_leap) : FnOk P w K mg base CX0 3 f fd P_days_ahead sp_daysA := by
  refine F.ok sc_days_ahead (fun vs H Q E h => ?_) (fun cdv A outer s H vs Q E hr h => ?_)
  · obtain ⟨y, m, rfl, _⟩ := h
    rfl
  · have nd := sc_days_ahead.nd
    obtain ⟨y, m, rfl, h1, h2, q⟩ := h
    refine ⟨_, (pss_cons (ps_set (i := 2) nd rfl (.inl rfl) (pe_op op_sub (pv 0) pe_int))
      (pss_cons (ps_set (i := 3) nd rfl (.inl rfl) (pe_op op_add (pe_op op_sub (pe_op op_fdiv (pv 2) pe_int) (pe_op op_fdiv (pv 2) pe_int)) (pe_op op_fdiv (pv 2) pe_int)))
      (pss_cons (ps_if (PW.pt (pw_and (pt_cmpR op_gt (pv 1) pe_int (nomark _)) (pw_and1 (pt_val (pe_def D_has_leap_day (hr.mono (by decide)) (pa_cons (pv 0) pa_nil))))))
        (pss_one (ps_aug (i := 3) nd rfl (.inl rfl) pe_int ip_add))
        pss_nil)
      (pss_one (ps_ret (pe_op op_add (pe_op op_add (pe_op op_mul (pv 2) pe_int) (pv 3)) (pe_callB (sumT K (by rfl)) (by rfl) T.n_sum (by decide +kernel) (pa_cons (pe_slice (slA K) (pe_glob (v := .ref md) (by rfl) T.m_MONTH_DAYS rfl) po_none (po_some (pe_op op_sub (pv 1) pe_int))) pa_nil)))))))), ?_⟩
    dsimp only [gName, tSeq]
    refine ⟨.int y, rfl, _, 1, rfl, rfl, ?_⟩
    refine ⟨_, rfl, _, 4, rfl, rfl, ⟨by decide, by decide⟩, _, rfl, _, 100, rfl, rfl, ⟨by decide, by decide⟩, _, _, rfl, rfl, _, rfl, _, 400, rfl, rfl, ⟨by decide, by decide⟩, _, _, rfl, rfl, ?_⟩
    have hsum : ((monthDays.take (m - 1)).sum : Int) + (if (decide (2 < (m : Int)) && leapB y) = true then 1 else 0) = daysTo y (m - 1) := by
      have : m = 1 ∨ m = 2 ∨ m = 3 ∨ m = 4 ∨ m = 5 ∨ m = 6 ∨ m = 7 ∨ m = 8 ∨ m = 9 ∨ m = 10 ∨ m = 11 ∨ m = 12 ∨ m = 13 := by omega
      cases hb : leapB y <;> rcases this with rfl | rfl | rfl | rfl | rfl | rfl | rfl | rfl | rfl | rfl | rfl | rfl | rfl <;> simp [daysTo, daysIn, hb, monthDays]
    have fin : ∀ (H1 : Hp) (L : Int), Same H H1 → L = ((y - 1) / 4 - (y - 1) / 100 + (y - 1) / 400) + (if (decide (2 < (m : Int)) && leapB y) = true then 1 else 0) → ∀ v : Int, v = (y - 1) * 365 + L + (monthDays.take (m - 1)).sum → ∀ H2, Same H1 H2 → Q (.int v) H2 := fun H1 L s1 eL v ev H2 s2 => by
      have := q H2 (s1.trans s2)
      unfold daysA at this
      rw [show (((m : Nat) : Int) - 1).toNat = m - 1 by omega, ← hsum] at this
      rw [ev, eL]
      rw [show (y - 1) * 365 + ((y - 1) / 4 - (y - 1) / 100 + (y - 1) / 400 + if (decide (2 < (m : Int)) && leapB y) = true then 1 else 0) + (monthDays.take (m - 1)).sum = (y - 1) * 365 + ((y - 1) / 4 - (y - 1) / 100 + (y - 1) / 400) + ((monthDays.take (m - 1)).sum + if (decide (2 < (m : Int)) && leapB y) = true then 1 else 0) by omega]
      exact this
    have hcut : cutV (monthDays.map V.int) none (some (((m : Nat) : Int) - 1)) = (monthDays.take (m - 1)).map V.int := by
      rw [show ((m : Nat) : Int) - 1 = ((m - 1 : Nat) : Int) by omega]
      unfold cutV
      rw [HT.sIx_nat, HT.sIx_none, List.map_take, List.length_map]
      show ((monthDays.map V.int).drop 0).take (min (m - 1) 12 - 0) = _
      rw [List.drop_zero, show min (m - 1) 12 - 0 = m - 1 by omega]
    dsimp only [gName, tSeq]
    show tIfS _ _ _ _ [some (.int y), some (.int m), some (.int (y - 1)), some (.int ((y - 1) / 4 - (y - 1) / 100 + (y - 1) / 400))] H
    have hsq : ∀ H, SqT K H md (monthDays.map V.int) := T.t_MONTH_DAYS
    have ret : ∀ (H1 : Hp) (L : Int), Same H H1 → L = ((y - 1) / 4 - (y - 1) / 100 + (y - 1) / 400) + (if (decide (2 < (m : Int)) && leapB y) = true then 1 else 0) →
        tRet (tOp (rI0 fun i j => V.int (i + j)) (tOp (rI0 fun i j => V.int (i + j)) (tOp (rI CMul fun i j => V.int (i * j)) (tVar 2) (tC (V.int 365))) (tVar 3))
          (tCB (rSumT K) (tCons (tSl (rSlA K) (tC (V.ref md)) tNoPart (tPart (tOp (rI0 fun i j => V.int (i - j)) (tVar 1) (tC (V.int 1))))) tNil))) { nx := fun x H' => Q V.non H', rt := Q } [some (.int y), some (.int m), some (.int (y - 1)), some (.int L)] H1 := fun H1 L s1 eL => by
      refine ⟨_, rfl, _, 365, rfl, rfl, .inr ⟨by decide, by decide⟩, _, rfl, _, _, rfl, rfl, .int m, rfl, _, 1, rfl, rfl, _, rfl, md, _, rfl, hsq _, fun hw => ?_, fun _ p np => ?_⟩
      · have h13 : m = 13 := by
          have := hw.2
          rw [show ((m : Nat) : Int) - 1 = ((m - 1 : Nat) : Int) by omega, HT.sIx_nat, List.length_map] at this
          have h12 : monthDays.length = 12 := rfl
          omega
        subst h13
        exact ⟨md, monthDays, rfl, hsq _, _, _, rfl, rfl, fin _ _ s1 eL _ rfl _ (Same.refl _)⟩
      · refine ⟨p, monthDays.take (m - 1), rfl, ?_, _, _, rfl, rfl, fin _ _ s1 eL _ rfl _ (same_upd np)⟩
        rw [hcut]
        exact .inl (.inl upd_same)
    refine ifT (decide (2 < (m : Int)) && leapB y) (fun k q1 => andT (decide (2 < (m : Int))) (leapB y) (fun k2 q2 => ⟨.int m, rfl, _, _, rfl, rfl, _, rfl, q2 _ (Same.refl _)⟩) (fun _ H1 k2 s1 q2 => ⟨.int y, rfl, y, rfl, fun H2 s2 => ⟨_, rfl, q2 _ s2⟩⟩) q1) (fun hb H1 s1 => ?_) (fun hb H1 s1 => ?_)
    · refine ⟨_, rfl, _, 1, rfl, rfl, ?_⟩
      exact ret _ _ s1 (by rw [hb]; rfl)
    · dsimp only [tNext, tSeq]
      exact ret _ _ s1 (by rw [hb]; simp)
/-! ### day_name -/
abbrev s_day_name : Stmt := topS 38
abbrev N_day_name : List Str := ["day"]
abbrev P_day_name : List Str := ["day"]
theorem sc_day_name : FnScope N_day_name ["day"] (defScope s_day_name) := ⟨rfl, rfl, rfl, by decide +kernel, rfl, by decide +kernel, by decide +kernel⟩
def sp_dayname : Sp := fun vs H Q _ => ∃ d : Int, vs = [.int d] ∧ Tell H (.str (dayNames.getD (d % 7).toNat Str.empty)) Q
theorem ok_dayname {f : Addr} {fd : FuncData} {k : Nat} (F : Fun K "day_name" "day_name" s_day_name f fd) (T : Tx K mg tk dn md) : FnOk P w K mg base CX0 (k + 1) f fd P_day_name sp_dayname := by
  refine F.ok sc_day_name (fun vs H Q E h => ?_) (fun cdv A outer s H vs Q E hr h => ?_)
  · obtain ⟨d, rfl, _⟩ := h
    rfl
  · have nd := sc_day_name.nd
    obtain ⟨d, rfl, q⟩ := h
    refine ⟨_, (pss_one (ps_ret (pe_ix (ixT K) (pe_glob (v := .ref dn) (by rfl) T.m_DAY_NAMES rfl) (pe_op op_mod (pv 0) (pe_callB (cLen K) (by rfl) T.n_len (by decide +kernel) (pa_cons (pe_glob (v := .ref dn) (by rfl) T.m_DAY_NAMES rfl) pa_nil))) (fun _ _ => rfl)))), ?_⟩
    have h0 := Int.emod_nonneg d (by decide : (7 : Int) ≠ 0)
    have h7 := Int.emod_lt_of_pos d (by decide : (0 : Int) < 7)
    have hat : atI (dayNames.map V.str) (d % 7) = some (.str (dayNames.getD (d % 7).toNat Str.empty)) := by
      conv => lhs; rw [show d % 7 = ((d % 7).toNat : Int) by omega]
      have hl : (d % 7).toNat < dayNames.length := by show _ < 7; omega
      refine atI_nat ?_
      rw [List.getElem?_map, List.getElem?_eq_getElem hl, List.getD_eq_getElem?_getD, List.getElem?_eq_getElem hl]
      rfl
    exact ⟨.int d, rfl, dn, _, rfl, .inr (T.t_DAY_NAMES _), _, 7, rfl, rfl, (show (0 : Int) < 7 by decide), dn, _, _, _, rfl, rfl, T.t_DAY_NAMES _, hat, q _ (Same.refl _)⟩
/-! ### clock_text -/
abbrev s_clock_text : Stmt := topS 36
abbrev N_clock_text : List Str := ["clock", "hour", "minute"]
abbrev P_clock_text : List Str := ["clock"]
theorem sc_clock_text : FnScope N_clock_text ["clock"] (defScope s_clock_text) := ⟨rfl, rfl, rfl, by decide +kernel, rfl, by decide +kernel, by decide +kernel⟩
def two (n : Nat) : List Nat := [48 + n / 10, 48 + n % 10]
def four (n : Nat) : List Nat := [48 + n / 1000, 48 + n / 100 % 10, 48 + n / 10 % 10, 48 + n % 10]
def sp_clock : Sp := fun vs H Q _ => ∃ n : Nat, vs = [.int (n : Nat)] ∧ n < 1440 ∧ Tell H (.str (SX.S (two (n / 60) ++ [58] ++ two (n % 60)))) Q
theorem ok_clock {f : Addr} {fd : FuncData} {k : Nat} (F : Fun K "clock_text" "clock_text" s_clock_text f fd) (T : Tx K mg tk dn md) : FnOk P w K mg base CX0 (k + 1) f fd P_clock_text sp_clock := by
  refine F.ok sc_clock_text (fun vs H Q E h => ?_) (fun cdv A outer s H vs Q E hr h => ?_)
  · obtain ⟨n, rfl, _⟩ := h
    rfl
  · have nd := sc_clock_text.nd
    obtain ⟨n, rfl, hn, q⟩ := h
    refine ⟨_, (pss_cons (ps_asg (pe_callB call_divmod (by rfl) T.n_divmod (by decide +kernel) (pa_cons (pv 0) (pa_cons pe_int pa_nil))) (pg_tup rfl (pgs_cons (pg_name (i := 1) nd rfl (Or.inl rfl)) (pgs_cons (pg_name (i := 2) nd rfl (Or.inl rfl)) pgs_nil))))
      (pss_one (ps_ret (pe_joined (PJ.cons (pe_fmtS (pv 1) (pe_joined1 pe_str)) (PJ.cons pe_str (PJ.cons (pe_fmtS (pv 2) (pe_joined1 pe_str)) PJ.nil))))))), ?_⟩
    dsimp only [gName, tSeq]
    refine ⟨.int n, rfl, _, _, rfl, ⟨by decide, by decide⟩, fun p hp => ⟨p, _, rfl, .inl (.inl upd_same), rfl, _, _, rfl, _, _, rfl, rfl, ?_⟩⟩
    have hb1 : (two (n / 60)).length = 2 := rfl
    refine ⟨_, rfl, ((n / 60 : Nat) : Int), _, by rw [Int.natCast_ediv]; rfl, fmt_dec2 (by omega), _, rfl, by show 0 + 2 ≤ _; rw [sizeLine_eq]; decide, Str.ofString ":", rfl, by rw [len_app]; show 0 + 2 + 1 ≤ _; rw [sizeLine_eq]; decide, _, rfl, ((n % 60 : Nat) : Int), _, by rw [Int.natCast_emod]; rfl, fmt_dec2 (by omega), _, rfl, by rw [len_app, len_app]; show 0 + 2 + 1 + 2 ≤ _; rw [sizeLine_eq]; decide, ?_⟩
    have e : Str.empty ++ (⟨#[48 + n / 60 / 10, 48 + n / 60 % 10]⟩ : Str) ++ Str.ofString ":" ++ (⟨#[48 + n % 60 / 10, 48 + n % 60 % 10]⟩ : Str) = SX.S (two (n / 60) ++ [58] ++ two (n % 60)) := TL.ext_tl (by rw [TL.tl_append, TL.tl_append, TL.tl_append, show TL.tl Str.empty = [] from rfl, show TL.tl (Str.ofString ":") = [58] by decide +kernel]; rfl)
    have := q (upd H p (.tup [.int ((n : Int) / 60), .int ((n : Int) % 60)])) (same_upd hp)
    rw [← e] at this
    exact this
/-! ### ahead_text -/
abbrev s_ahead_text : Stmt := topS 37
abbrev N_ahead_text : List Str := ["ahead", "mark", "hours", "minutes"]
abbrev P_ahead_text : List Str := ["ahead"]
theorem sc_ahead_text : FnScope N_ahead_text ["ahead"] (defScope s_ahead_text) := ⟨rfl, rfl, rfl, by decide +kernel, rfl, by decide +kernel, by decide +kernel⟩
def aheadL (a : Int) : List Nat := [if a < 0 then 45 else 43] ++ two (a.natAbs / 60) ++ two (a.natAbs % 60)
def sp_ahead : Sp := fun vs H Q _ => ∃ a : Int, vs = [.int a] ∧ a.natAbs ≤ 840 ∧ Tell H (.str (SX.S (aheadL a))) Q
theorem ok_ahead {f : Addr} {fd : FuncData} {k : Nat} (F : Fun K "ahead_text" "ahead_text" s_ahead_text f fd) (T : Tx K mg tk dn md) : FnOk P w K mg base CX0 (k + 1) f fd P_ahead_text sp_ahead := by
  refine F.ok sc_ahead_text (fun vs H Q E h => ?_) (fun cdv A outer s H vs Q E hr h => ?_)
  · obtain ⟨a, rfl, _⟩ := h
    rfl
  · have nd := sc_ahead_text.nd
    obtain ⟨a, rfl, ha, q⟩ := h
    refine ⟨_, (pss_cons (ps_asg (pe_callB call_divmod (by rfl) T.n_divmod (by decide +kernel) (pa_cons (pe_callB call_abs (by rfl) T.n_abs (by decide +kernel) (pa_cons (pv 0) pa_nil)) (pa_cons pe_int pa_nil))) (pg_tup rfl (pgs_cons (pg_name (i := 2) nd rfl (Or.inl rfl)) (pgs_cons (pg_name (i := 3) nd rfl (Or.inl rfl)) pgs_nil))))
      (pss_cons (ps_set (i := 1) nd rfl (.inl rfl) (pe_ifExp (pt_cmpR op_lt (pv 0) pe_int (nomark _)) pe_str pe_str))
      (pss_one (ps_ret (pe_joined (PJ.cons (pe_fmt (pv 1)) (PJ.cons (pe_fmtS (pv 2) (pe_joined1 pe_str)) (PJ.cons (pe_fmtS (pv 3) (pe_joined1 pe_str)) PJ.nil)))))))), ?_⟩
    dsimp only [gName, tSeq]
    have hab : (if a < 0 then -a else a) = ((a.natAbs : Nat) : Int) := by split <;> omega
    have ht : a.natAbs / 60 < 100 := by omega
    have hm : a.natAbs % 60 < 100 := by omega
    refine ⟨.int a, rfl, a, rfl, ?_⟩
    rw [hab]
    refine ⟨_, _, rfl, ⟨by decide, by decide⟩, fun p hp => ⟨p, _, rfl, .inl (.inl upd_same), rfl, _, _, rfl, _, _, rfl, rfl, ?_⟩⟩
    have key : ∀ (x : Nat) (H1 : Hp), (x = if a < 0 then 45 else 43) → Same H H1 → Q (.str (Str.empty ++ (⟨#[x]⟩ : Str) ++ (⟨#[48 + a.natAbs / 60 / 10, 48 + a.natAbs / 60 % 10]⟩ : Str) ++ (⟨#[48 + a.natAbs % 60 / 10, 48 + a.natAbs % 60 % 10]⟩ : Str))) H1 := by
      intro x H1 hx s1
      have e : Str.empty ++ (⟨#[x]⟩ : Str) ++ (⟨#[48 + a.natAbs / 60 / 10, 48 + a.natAbs / 60 % 10]⟩ : Str) ++ (⟨#[48 + a.natAbs % 60 / 10, 48 + a.natAbs % 60 % 10]⟩ : Str) = SX.S (aheadL a) := TL.ext_tl (by rw [TL.tl_append, TL.tl_append, TL.tl_append, show TL.tl Str.empty = [] from rfl]; unfold aheadL; rw [← hx]; rfl)
      rw [e]
      exact q _ s1
    refine ⟨.int a, rfl, a, 0, rfl, rfl, _, rfl, ?_⟩
    by_cases h0 : a < 0
    · rw [decide_eq_true h0]
      refine iteT ?_
      have ht1 : Str.ofString "-" = ⟨#[45]⟩ := TL.ext_tl (by decide +kernel)
      refine ⟨_, rfl, .inl ⟨Str.ofString "-", rfl, by rw [ht1, sizeLine_eq]; decide, _, rfl, by rw [ht1, len_app, sizeLine_eq]; decide, _, rfl, ((a.natAbs / 60 : Nat) : Int), _, by rw [Int.natCast_ediv]; rfl, fmt_dec2 ht, _, rfl, by rw [len_app, len_app, ht1]; show 0 + 1 + 2 ≤ _; rw [sizeLine_eq]; decide, _, rfl, ((a.natAbs % 60 : Nat) : Int), _, by rw [Int.natCast_emod]; rfl, fmt_dec2 hm, _, rfl, by rw [len_app, len_app, len_app, ht1]; show 0 + 1 + 2 + 2 ≤ _; rw [sizeLine_eq]; decide, ?_⟩⟩
      rw [ht1]
      exact key 45 _ (by rw [if_pos h0]) (same_upd hp)
    · rw [decide_eq_false h0]
      refine iteF ?_
      have ht1 : Str.ofString "+" = ⟨#[43]⟩ := TL.ext_tl (by decide +kernel)
      refine ⟨_, rfl, .inl ⟨Str.ofString "+", rfl, by rw [ht1, sizeLine_eq]; decide, _, rfl, by rw [ht1, len_app, sizeLine_eq]; decide, _, rfl, ((a.natAbs / 60 : Nat) : Int), _, by rw [Int.natCast_ediv]; rfl, fmt_dec2 ht, _, rfl, by rw [len_app, len_app, ht1]; show 0 + 1 + 2 ≤ _; rw [sizeLine_eq]; decide, _, rfl, ((a.natAbs % 60 : Nat) : Int), _, by rw [Int.natCast_emod]; rfl, fmt_dec2 hm, _, rfl, by rw [len_app, len_app, len_app, ht1]; show 0 + 1 + 2 + 2 ≤ _; rw [sizeLine_eq]; decide, ?_⟩⟩
      rw [ht1]
      exact key 43 _ (by rw [if_neg h0]) (same_upd hp)
end
end K31

namespace K31
open PySem PySem.Spec PyProof.Rows L2 LH
section
variable {P : Program} {w : World} {K : PySem.W.Frag} {mg : Str → Option Value} {base : Heap} {tk : Nat → Tok} {ca : Nat → Addr} {dn md C : Addr}
/-! ### the calendar's arithmetic -/
def leapI (y : Int) : Int := if leapB y = true then 1 else 0
theorem leapI_val (y : Int) : leapI y = y / 4 - y / 100 + y / 400 - ((y - 1) / 4 - (y - 1) / 100 + (y - 1) / 400) := by
  unfold leapI leapB
  by_cases h4 : y % 4 = 0 <;> by_cases h1 : y % 100 = 0 <;> by_cases h400 : y % 400 = 0 <;> simp [h4, h1, h400] <;> first | omega | (split <;> omega)
theorem leapI_01 (y : Int) : leapI y = 0 ∨ leapI y = 1 := by unfold leapI; split <;> simp
theorem daysIn_val (y m : Int) : daysIn y m = if m = 2 then 28 + leapI y else if m = 4 ∨ m = 6 ∨ m = 9 ∨ m = 11 then 30 else 31 := by
  unfold daysIn leapI
  split
  · split <;> rfl
  · rfl
theorem daysIn_ge (y m : Int) : 28 ≤ daysIn y m ∧ daysIn y m ≤ 31 := by
  rw [daysIn_val]
  have := leapI_01 y
  split
  · omega
  · split <;> omega
theorem daysTo_val (y : Int) : ∀ m : Nat, 1 ≤ m → m ≤ 13 → daysTo y (m - 1) = if m = 1 then 0 else if m = 2 then 31 else if m = 13 then 365 + leapI y else (153 * ((m : Int) - 3) + 2) / 5 + 59 + leapI y := by
  intro m h1 h2
  have h : m = 1 ∨ m = 2 ∨ m = 3 ∨ m = 4 ∨ m = 5 ∨ m = 6 ∨ m = 7 ∨ m = 8 ∨ m = 9 ∨ m = 10 ∨ m = 11 ∨ m = 12 ∨ m = 13 := by omega
  rcases h with rfl | rfl | rfl | rfl | rfl | rfl | rfl | rfl | rfl | rfl | rfl | rfl | rfl <;> simp [daysTo, daysIn_val] <;> omega
theorem daysA_val (y : Int) (m : Nat) : daysA y m = (y - 1) * 365 + ((y - 1) / 4 - (y - 1) / 100 + (y - 1) / 400) + daysTo y (m - 1) := by
  unfold daysA
  rw [show (((m : Nat) : Int) - 1).toNat = m - 1 by omega]
theorem daysA_succ (y : Int) (k : Nat) (h : 1 ≤ k) : daysA y (k + 1 : Nat) = daysA y k + daysIn y k := by
  rw [daysA_val, daysA_val]
  obtain ⟨j, rfl⟩ : ∃ j, k = j + 1 := ⟨k - 1, by omega⟩
  simp only [Nat.add_sub_cancel, daysTo]
  rw [show ((j + 1 : Nat) : Int) = (j : Int) + 1 by omega]
  omega
theorem daysA_mono (y : Int) {k m : Nat} (h1 : 1 ≤ k) (h : k ≤ m) : daysA y k ≤ daysA y m := by
  induction m with
  | zero => omega
  | succ n ih =>
    by_cases e : k = n + 1
    · rw [e]; exact Int.le_refl _
    · have := ih (by omega)
      rw [daysA_succ y n (by omega)]
      have := daysIn_ge y n
      omega
theorem daysA_one (y : Int) : daysA y (1 : Nat) = (y - 1) * 365 + ((y - 1) / 4 - (y - 1) / 100 + (y - 1) / 400) := by rw [daysA_val]; simp [daysTo]
theorem daysA_13 (y : Int) : daysA y (13 : Nat) = daysA (y + 1) (1 : Nat) := by
  rw [daysA_one, daysA_val, daysTo_val y 13 (by decide) (by decide), leapI_val]
  simp
  omega
theorem daysA_years {y1 y2 : Int} (h : y1 ≤ y2) : daysA y1 (1 : Nat) ≤ daysA y2 (1 : Nat) := by
  rw [daysA_one, daysA_one]
  omega
theorem daysA_small {y : Int} (h : 1 ≤ y) : daysA y (1 : Nat) ≤ (y - 1) * 366 ∧ 0 ≤ daysA y (1 : Nat) := by
  rw [daysA_one]
  omega
theorem daysA_in (y : Int) {m d : Nat} (h1 : 1 ≤ m) (h2 : m ≤ 12) (hd : 1 ≤ d) (hd2 : (d : Int) ≤ daysIn y m) : daysA y (1 : Nat) ≤ daysA y m + d - 1 ∧ daysA y m + d - 1 < daysA (y + 1) (1 : Nat) := by
  have a := daysA_mono y (Nat.le_refl 1) h1
  have b := daysA_mono y (show 1 ≤ m + 1 by omega) (show m + 1 ≤ 13 by omega)
  rw [daysA_13, daysA_succ y m h1] at b
  omega
def dateL (y m d : Nat) : List Nat := four y ++ [45] ++ two m ++ [45] ++ two d
/-- a day of the calendar -/
def Date (y m d : Nat) : Prop := 1 ≤ y ∧ y ≤ 9999 ∧ 1 ≤ m ∧ m ≤ 12 ∧ 1 ≤ d ∧ (d : Int) ≤ daysIn y m
def dayNo (y m d : Nat) : Int := daysA y m + d - 1
/-! ### day_text -/
abbrev s_day_text : Stmt := topS 35
abbrev N_day_text : List Str := ["day", "year", "month"]
abbrev P_day_text : List Str := ["day"]
theorem sc_day_text : FnScope N_day_text ["day"] (defScope s_day_text) := ⟨rfl, rfl, rfl, by decide +kernel, rfl, by decide +kernel, by decide +kernel⟩
def sp_daytext : Sp := fun vs H Q _ => ∃ y m d : Nat, vs = [.int (dayNo y m d)] ∧ Date y m d ∧ Tell H (.str (SX.S (dateL y m d))) Q
theorem ok_daytext {f fA : Addr} {fd fdA : FuncData} (F : Fun K "day_text" "day_text" s_day_text f fd) (T : Tx K mg tk dn md) (D_days_ahead : Def P w K mg base "days_ahead" 3 fA fdA P_days_ahead sp_daysA) : FnOk P w K mg base CX0 4 f fd P_day_text sp_daytext := by
  refine F.ok sc_day_text (fun vs H Q E h => ?_) (fun cdv A outer s H vs Q E hr h => ?_)
  · obtain ⟨y, m, d, rfl, _⟩ := h
    rfl
  · have nd := sc_day_text.nd
    obtain ⟨y, m, d, rfl, ⟨y1, y2, m1, m2, d1, d2⟩, q⟩ := h
    refine ⟨_, (pss_cons (ps_set (i := 1) nd rfl (.inl rfl) (pe_op op_add (pe_op op_fdiv (pv 0) pe_int) pe_int))
      (pss_cons (ps_while PassesOwn.never (pt_cmpR op_le (pe_def D_days_ahead (hr.mono (by decide)) (pa_cons (pe_op op_add (pv 1) pe_int) (pa_cons pe_int pa_nil))) (pv 0) (nomark _))
        (pss_one (ps_aug (i := 1) nd rfl (.inl rfl) pe_int ip_add)))
      (pss_cons (ps_set (i := 2) nd rfl (.inl rfl) pe_int)
      (pss_cons (ps_while PassesOwn.never (pt_cmpR op_le (pe_def D_days_ahead (hr.mono (by decide)) (pa_cons (pv 1) (pa_cons (pe_op op_add (pv 2) pe_int) pa_nil))) (pv 0) (nomark _))
        (pss_one (ps_aug (i := 2) nd rfl (.inl rfl) pe_int ip_add)))
      (pss_one (ps_ret (pe_joined (PJ.cons (pe_fmtS (pv 1) (pe_joined1 pe_str)) (PJ.cons pe_str (PJ.cons (pe_fmtS (pv 2) (pe_joined1 pe_str)) (PJ.cons pe_str (PJ.cons (pe_fmtS (pe_op op_add (pe_op op_sub (pv 0) (pe_def D_days_ahead (hr.mono (by decide)) (pa_cons (pv 1) (pa_cons (pv 2) pa_nil)))) pe_int) (pe_joined1 pe_str)) PJ.nil)))))))))))), ?_⟩
    dsimp only [gName, tSeq]
    have hin := daysA_in y m1 m2 d1 d2
    have hsm := daysA_small (y := y) (by omega)
    have hsm2 := daysA_small (y := (y : Int) + 1) (by omega)
    have h31 := (daysIn_ge y m).2
    have hdef : dayNo y m d = daysA y m + d - 1 := rfl
    have hy0 : ∃ n : Nat, dayNo y m d / 366 + 1 = (n : Int) ∧ 1 ≤ n ∧ n ≤ y := ⟨(dayNo y m d / 366 + 1).toNat, by omega, by omega, by omega⟩
    obtain ⟨n0, en0, hn1, hn2⟩ := hy0
    refine ⟨_, rfl, _, 366, rfl, rfl, ⟨by decide, by decide⟩, _, 1, rfl, rfl, ?_⟩
    dsimp only [gName]
    rw [en0]
    refine whileT (fun σ H' => ∃ n : Nat, σ = [some (.int (dayNo y m d)), some (.int (n : Nat)), none] ∧ 1 ≤ n ∧ n ≤ y ∧ Same H H') (fun σ H' => match σ with | [_, some (.int i), _] => y - i.toNat | _ => 0) ⟨n0, rfl, hn1, hn2, Same.refl _⟩ (fun σ H1 hP => ?_)
    obtain ⟨n, rfl, h1, h2, s1⟩ := hP
    have hlt : decide (daysA ((n : Int) + 1) (1 : Nat) ≤ dayNo y m d) = decide (n < y) := by
      by_cases hny : n < y
      · have := daysA_years (show (n : Int) + 1 ≤ y by omega)
        rw [decide_eq_true hny, decide_eq_true (by omega)]
      · have : n = y := by omega
        rw [decide_eq_false hny, decide_eq_false (by rw [this]; omega)]
    refine ⟨decide (n < y), fun k q1 => ⟨_, rfl, _, 1, rfl, rfl, (n : Int) + 1, 1, rfl, by decide, by decide, fun H2 s2 => ⟨_, rfl, _, _, rfl, rfl, _, rfl, TellB.eq hlt q1 _ s2⟩⟩, fun hb H2 s2 => ?_, fun hb H2 s2 => ?_⟩
    · have := of_decide_eq_true hb
      refine ⟨_, rfl, _, 1, rfl, rfl, ?_⟩
      refine ⟨⟨n + 1, ?_, by omega, by omega, s1.trans s2⟩, ?_⟩
      · rfl
      · show y - ((n : Int) + 1).toNat < y - ((n : Nat) : Int).toNat
        omega
    have hny : n = y := by have := of_decide_eq_false hb; omega
    subst hny
    have s2 := s1.trans s2
    dsimp only [tSeq, tAsg, gName]
    refine whileT (fun σ H' => ∃ j : Nat, σ = [some (.int (dayNo n m d)), some (.int (n : Nat)), some (.int (j : Nat))] ∧ 1 ≤ j ∧ j ≤ m ∧ Same H H') (fun σ H' => match σ with | [_, _, some (.int i)] => m - i.toNat | _ => 0) ⟨1, rfl, Nat.le_refl _, m1, s2⟩ (fun σ H3 hP => ?_)
    obtain ⟨j, rfl, j1, j2, s3⟩ := hP
    have hlt2 : decide (daysA (n : Int) (j + 1 : Nat) ≤ dayNo n m d) = decide (j < m) := by
      by_cases hjm : j < m
      · have := daysA_mono (n : Int) (show 1 ≤ j + 1 by omega) (show j + 1 ≤ m by omega)
        rw [decide_eq_true hjm, decide_eq_true (by omega)]
      · have : j = m := by omega
        subst this
        rw [decide_eq_false hjm, decide_eq_false (by rw [daysA_succ _ _ m1]; omega)]
    refine ⟨decide (j < m), fun k q1 => ⟨_, rfl, _, rfl, _, 1, rfl, rfl, (n : Int), j + 1, rfl, by omega, by omega, fun H4 s4 => ⟨_, rfl, _, _, rfl, rfl, _, rfl, TellB.eq hlt2 q1 _ s4⟩⟩, fun hb H4 s4 => ?_, fun hb H4 s4 => ?_⟩
    · have := of_decide_eq_true hb
      refine ⟨_, rfl, _, 1, rfl, rfl, ?_⟩
      refine ⟨⟨j + 1, ?_, by omega, by omega, s3.trans s4⟩, ?_⟩
      · rfl
      · show m - ((j : Int) + 1).toNat < m - ((j : Nat) : Int).toNat
        omega
    have hjm : j = m := by have := of_decide_eq_false hb; omega
    subst hjm
    have s4 := s3.trans s4
    have e2 : dayNo n j d - daysA n j + 1 = ((d : Nat) : Int) := by omega
    refine ⟨_, rfl, ((n : Nat) : Int), _, rfl, fmt_dec4 (by omega), _, rfl, by show 0 + 4 ≤ _; rw [sizeLine_eq]; decide, Str.ofString "-", rfl, by rw [len_app]; show 0 + 4 + 1 ≤ _; rw [sizeLine_eq]; decide, _, rfl, ((j : Nat) : Int), _, rfl, fmt_dec2 (by omega), _, rfl, by rw [len_app, len_app]; show 0 + 4 + 1 + 2 ≤ _; rw [sizeLine_eq]; decide, Str.ofString "-", rfl, by rw [len_app, len_app, len_app]; show 0 + 4 + 1 + 2 + 1 ≤ _; rw [sizeLine_eq]; decide, ?_⟩
    refine ⟨_, rfl, _, rfl, _, rfl, (n : Int), j, rfl, m1, by omega, fun H5 s5 => ⟨_, _, rfl, rfl, _, 1, rfl, rfl, ((d : Nat) : Int), _, congrArg V.int e2, fmt_dec2 (by omega), _, rfl, by rw [len_app, len_app, len_app, len_app]; show 0 + 4 + 1 + 2 + 1 + 2 ≤ _; rw [sizeLine_eq]; decide, ?_⟩⟩
    have e : Str.empty ++ (⟨#[48 + n / 1000, 48 + n / 100 % 10, 48 + n / 10 % 10, 48 + n % 10]⟩ : Str) ++ Str.ofString "-" ++ (⟨#[48 + j / 10, 48 + j % 10]⟩ : Str) ++ Str.ofString "-" ++ (⟨#[48 + d / 10, 48 + d % 10]⟩ : Str) = SX.S (dateL n j d) := TL.ext_tl (by rw [TL.tl_append, TL.tl_append, TL.tl_append, TL.tl_append, TL.tl_append, show TL.tl Str.empty = [] from rfl, show TL.tl (Str.ofString "-") = [45] by decide +kernel]; rfl)
    have := q _ (s4.trans s5)
    rw [← e] at this
    exact this
/-! ### a minute's text -/
/-! ### is_number -/
abbrev s_is_number : Stmt := topS 19
abbrev N_is_number : List Str := ["thing"]
abbrev P_is_number : List Str := ["thing"]
theorem sc_is_number : FnScope N_is_number ["thing"] (defScope s_is_number) := ⟨rfl, rfl, rfl, by decide +kernel, rfl, by decide +kernel, by decide +kernel⟩
def sp_isnum : Sp := fun vs H Q _ => ∃ i : Int, vs = [.int i] ∧ Tell H (.bl true) Q
theorem ok_isnum {f : Addr} {fd : FuncData} {k : Nat} (F : Fun K "is_number" "is_number" s_is_number f fd) (T : Tx K mg tk dn md) : FnOk P w K mg base CX0 (k + 1) f fd P_is_number sp_isnum := by
  refine F.ok sc_is_number (fun vs H Q E h => ?_) (fun cdv A outer s H vs Q E hr h => ?_)
  · obtain ⟨i, rfl, _⟩ := h
    rfl
  · have nd := sc_is_number.nd
    obtain ⟨i, rfl, q⟩ := h
    refine ⟨_, (pss_one (ps_ret (pe_and (pe_callB (cIsi K) (by rfl) T.n_isinstance (by decide +kernel) (pa_cons (pv 0) (pa_cons (pe_bltn (v := .ty "int") (by rfl) T.n_int (by decide +kernel) rfl) pa_nil))) (pe_one (pe_not (pe_callB (cIsi K) (by rfl) T.n_isinstance (by decide +kernel) (pa_cons (pv 0) (pa_cons (pe_bltn (v := .ty "bool") (by rfl) T.n_bool (by decide +kernel) rfl) pa_nil)))))))), ?_⟩
    refine ⟨.int i, rfl, .int i, .ty "int", _, _, true, rfl, .ty _, .base (.int i), kit_ty (by decide +kernel), true, rfl, iteT ⟨.int i, rfl, .int i, .ty "bool", _, _, false, rfl, .ty _, .base (.int i), kit_ty (by decide +kernel), false, rfl, q H (Same.refl _)⟩⟩
/-- the signs of a time -/
def timeL (y m d l : Nat) (a : Int) : List Nat := dateL y m d ++ [32] ++ TL.tl (dayNames.getD (dayNo y m d % 7).toNat Str.empty) ++ [32] ++ (two (l / 60) ++ [58] ++ two (l % 60)) ++ [32] ++ aheadL a
/-! ### time_text -/
abbrev s_time_text : Stmt := topS 34
abbrev N_time_text : List Str := ["minute", "ahead", "day", "clock"]
abbrev P_time_text : List Str := ["minute", "ahead"]
theorem sc_time_text : FnScope N_time_text ["minute", "ahead"] (defScope s_time_text) := ⟨rfl, rfl, rfl, by decide +kernel, rfl, by decide +kernel, by decide +kernel⟩
def sp_ttext : Sp := fun vs H Q _ => ∃ (y m d l : Nat) (a : Int), vs = [.int (1440 * dayNo y m d + l - a), .int a] ∧ Date y m d ∧ l < 1440 ∧ a.natAbs ≤ 840 ∧ Tell H (.str (SX.S (timeL y m d l a))) Q
theorem ok_ttext {fN fA fY fM fC fH f : Addr} {fdN fdA fdY fdM fdC fdH fd : FuncData} (F : Fun K "time_text" "time_text" s_time_text f fd) (T : Tx K mg tk dn md)
    (D_is_number : Def P w K mg base "is_number" 1 fN fdN P_is_number sp_isnum) (D_days_ahead : Def P w K mg base "days_ahead" 3 fA fdA P_days_ahead sp_daysA) (D_day_text : Def P w K mg base "day_text" 4 fY fdY P_day_text sp_daytext)
    (D_day_name : Def P w K mg base "day_name" 1 fM fdM P_day_name sp_dayname) (D_clock_text : Def P w K mg base "clock_text" 1 fC fdC P_clock_text sp_clock) (D_ahead_text : Def P w K mg base "ahead_text" 1 fH fdH P_ahead_text sp_ahead) : FnOk P w K mg base CX0 5 f fd P_time_text sp_ttext := by
  refine F.ok sc_time_text (fun vs H Q E h => ?_) (fun cdv A outer s H vs Q E hr h => ?_)
  · obtain ⟨y, m, d, l, a, rfl, _⟩ := h
    rfl
  · have nd := sc_time_text.nd
    obtain ⟨y, m, d, l, a, rfl, hD, hl, ha, q⟩ := h
    refine ⟨_, (pss_cons (ps_if (PW.pt (pw_or (pt_not (pt_val (pe_def D_is_number (hr.mono (by decide)) (pa_cons (pv 0) pa_nil)))) (pw_or1 (pt_not (pt_val (pe_def D_is_number (hr.mono (by decide)) (pa_cons (pv 1) pa_nil)))))))
        (pss_one ps_never)
        pss_nil)
      (pss_cons (ps_if (pt_cmpR op_gt (pe_callB call_abs (by rfl) T.n_abs (by decide +kernel) (pa_cons (pv 1) pa_nil)) (pe_op op_mul (pe_glob (v := .int 14) (by rfl) T.m_MOST_HOURS ⟨_, rfl⟩) pe_int) (nomark _))
        (pss_one ps_never)
        pss_nil)
      (pss_cons (ps_asg (pe_callB call_divmod (by rfl) T.n_divmod (by decide +kernel) (pa_cons (pe_op op_add (pv 0) (pv 1)) (pa_cons (pe_glob (v := .int 1440) (by rfl) T.m_DAY_MINUTES ⟨_, rfl⟩) pa_nil))) (pg_tup rfl (pgs_cons (pg_name (i := 2) nd rfl (Or.inl rfl)) (pgs_cons (pg_name (i := 3) nd rfl (Or.inl rfl)) pgs_nil))))
      (pss_cons (ps_if (pt_not (pt_chain op_le op_lt pe_int (pv 2) (pe_def D_days_ahead (hr.mono (by decide)) (pa_cons (pe_op op_add (pe_glob (v := .int 9999) (by rfl) T.m_LAST_YEAR ⟨_, rfl⟩) pe_int) (pa_cons pe_int pa_nil)))))
        (pss_one ps_never)
        pss_nil)
      (pss_one (ps_ret (pe_joined (PJ.cons (pe_fmt (pe_def D_day_text (hr.mono (by decide)) (pa_cons (pv 2) pa_nil))) (PJ.cons pe_str (PJ.cons (pe_fmt (pe_def D_day_name (hr.mono (by decide)) (pa_cons (pv 2) pa_nil))) (PJ.cons pe_str (PJ.cons (pe_fmt (pe_def D_clock_text (hr.mono (by decide)) (pa_cons (pv 3) pa_nil))) (PJ.cons pe_str (PJ.cons (pe_fmt (pe_def D_ahead_text (hr.mono (by decide)) (pa_cons (pv 1) pa_nil))) PJ.nil)))))))))))))), ?_⟩
    dsimp only [gName, tSeq]
    obtain ⟨y1, y2, m1, m2, d1, d2⟩ := hD
    have hD : Date y m d := ⟨y1, y2, m1, m2, d1, d2⟩
    have hin := daysA_in y m1 m2 d1 d2
    have hsm := daysA_small (y := y) (by omega)
    have hlast := daysA_years (show (y : Int) + 1 ≤ 10000 by omega)
    have hdef : dayNo y m d = daysA y m + d - 1 := rfl
    refine ifT false (fun k q1 => orT false false (fun k q1 => notT true (fun k q2 => ⟨_, rfl, _, rfl, fun H2 s2 => ⟨true, rfl, q2 _ s2⟩⟩) q1) (fun _ H1 k s1 q1 => notT true (fun k q2 => ⟨_, rfl, _, rfl, fun H2 s2 => ⟨true, rfl, q2 _ s2⟩⟩) q1) q1) (fun h => nomatch h) (fun _ H1 s1 => ?_)
    dsimp only [tNext, tSeq]
    refine ifT false (fun k q1 => ⟨.int a, rfl, a, rfl, 14, 60, rfl, rfl, .inl ⟨by decide, by decide⟩, _, _, rfl, rfl, _, rfl, TellB.eq (decide_eq_false (by split <;> omega)) q1 _ (Same.refl _)⟩) (fun h => nomatch h) (fun _ H2 s2 => ?_)
    dsimp only [tNext, tSeq]
    have eD : (1440 * dayNo y m d + l - a + a) / 1440 = dayNo y m d := by omega
    have eL : (1440 * dayNo y m d + l - a + a) % 1440 = ((l : Nat) : Int) := by omega
    refine ⟨_, rfl, _, rfl, _, _, rfl, rfl, _, _, rfl, ⟨by decide, by decide⟩, fun p hp => ⟨p, _, rfl, .inl (.inl upd_same), rfl, _, _, rfl, _, _, rfl, rfl, ?_⟩⟩
    dsimp only
    rw [eD, eL]
    have s3 := (s1.trans s2).trans (same_upd (o := .tup [.int (dayNo y m d), .int ((l : Nat) : Int)]) hp)
    generalize upd H2 p (.tup [.int (dayNo y m d), .int ((l : Nat) : Int)]) = H3 at *
    refine ifT false (fun k q1 => notT true (fun k q2 => ⟨_, rfl, _, _, rfl, rfl, true, congrArg V.bl (decide_eq_true (by omega)), iteT ⟨9999, 1, rfl, rfl, 10000, 1, rfl, by decide, by decide, fun H4 s4 => ⟨_, _, rfl, rfl, _, rfl, TellB.eq (decide_eq_true (by omega)) q2 _ s4⟩⟩⟩) q1) (fun h => nomatch h) (fun _ H4 s4 => ?_)
    dsimp only [tNext]
    have n1 : (SX.S (dateL y m d)).length = 10 := by rw [TL.len_tl]; rfl
    have n2 : (dayNames.getD (dayNo y m d % 7).toNat Str.empty).length ≤ 3 := by
      have : ∀ i, i < 7 → (dayNames.getD i Str.empty).length ≤ 3 := by decide +kernel
      exact this _ (by omega)
    have n3 : (SX.S (two (l / 60) ++ [58] ++ two (l % 60))).length = 5 := by rw [TL.len_tl]; rfl
    have n4 : (SX.S (aheadL a)).length = 5 := by rw [TL.len_tl]; rfl
    have n5 : (Str.ofString " ").length = 1 := by decide +kernel
    have n0 : Str.empty.length = 0 := rfl
    refine ⟨_, rfl, y, m, d, rfl, hD, fun H5 s5 => .inl ⟨_, rfl, by rw [n1, sizeLine_eq]; decide, _, rfl, by simp only [len_app, sizeLine_eq]; omega, Str.ofString " ", rfl, by simp only [len_app, sizeLine_eq]; omega, ?_⟩⟩
    refine ⟨_, rfl, _, rfl, fun H6 s6 => .inl ⟨_, rfl, by rw [sizeLine_eq]; omega, _, rfl, by simp only [len_app, sizeLine_eq]; omega, Str.ofString " ", rfl, by simp only [len_app, sizeLine_eq]; omega, ?_⟩⟩
    refine ⟨_, rfl, l, rfl, hl, fun H7 s7 => .inl ⟨_, rfl, by rw [n3, sizeLine_eq]; decide, _, rfl, by simp only [len_app, sizeLine_eq]; omega, Str.ofString " ", rfl, by simp only [len_app, sizeLine_eq]; omega, ?_⟩⟩
    refine ⟨_, rfl, a, rfl, ha, fun H8 s8 => .inl ⟨_, rfl, by rw [n4, sizeLine_eq]; decide, _, rfl, by simp only [len_app, sizeLine_eq]; omega, ?_⟩⟩
    have e : Str.empty ++ SX.S (dateL y m d) ++ Str.ofString " " ++ dayNames.getD (dayNo y m d % 7).toNat Str.empty ++ Str.ofString " " ++ SX.S (two (l / 60) ++ [58] ++ two (l % 60)) ++ Str.ofString " " ++ SX.S (aheadL a) = SX.S (timeL y m d l a) := TL.ext_tl (by simp only [TL.tl_append, show TL.tl Str.empty = [] from rfl, show TL.tl (Str.ofString " ") = [32] by decide +kernel]; rfl)
    have := q _ (((((s3.trans s4).trans s5).trans s6).trans s7).trans s8)
    rw [← e] at this
    exact this
end
end K31

namespace K31
open PySem PySem.Spec PyProof.Rows L2 LH
section
variable {P : Program} {w : World} {K : PySem.W.Frag} {mg : Str → Option Value} {base : Heap} {tk : Nat → Tok} {ca : Nat → Addr} {dn md C : Addr}
/-! ### figures in their bounds -/
theorem lt2 (a b c d : Nat) : [a, b] < [c, d] ↔ a < c ∨ (a = c ∧ b < d) := by
  rw [List.cons_lt_cons_iff, List.cons_lt_cons_iff]
  simp
theorem fits2 {L U v : Nat} (h1 : L ≤ v) (h2 : v ≤ U) (h3 : U < 100) : Fits (two L) (two U) (two v) := by
  refine ⟨rfl, rfl, by show 1 ≤ 2; decide, by show 2 ≤ 4; decide, fun d hd => ?_, fun j hj => ?_⟩
  · simp only [two, List.mem_cons, List.not_mem_nil, or_false] at hd
    omega
  · have : j = 0 ∨ j = 1 := by have : (two v).length = 2 := rfl; omega
    rcases this with rfl | rfl
    · show ¬ [48 + v / 10] < [48 + L / 10] ∧ ¬ [48 + U / 10] < [48 + v / 10]
      simp only [List.cons_lt_cons_iff, List.not_lt_nil, and_false, or_false]
      omega
    · show ¬ [48 + v / 10, 48 + v % 10] < [48 + L / 10, 48 + L % 10] ∧ ¬ [48 + U / 10, 48 + U % 10] < [48 + v / 10, 48 + v % 10]
      rw [lt2, lt2]
      omega
theorem val2 {v : Nat} (h : v < 100) : NumText.digitsVal (two v) = v := by
  simp [NumText.digitsVal, two]
  omega
theorem val4 {v : Nat} (h : v < 10000) : NumText.digitsVal (four v) = v := by
  simp [NumText.digitsVal, four]
  omega
theorem fits4 {v : Nat} (h1 : 1 ≤ v) (h2 : v ≤ 9999) : Fits [48, 48, 48, 49] [57, 57, 57, 57] (four v) := by
  refine ⟨rfl, rfl, by show 1 ≤ 4; decide, by show 4 ≤ 4; decide, fun d hd => ?_, fun j hj => ?_⟩
  · simp only [four, List.mem_cons, List.not_mem_nil, or_false] at hd
    omega
  · have : j = 0 ∨ j = 1 ∨ j = 2 ∨ j = 3 := by have : (four v).length = 4 := rfl; omega
    rcases this with rfl | rfl | rfl | rfl <;> simp only [four, List.take_succ_cons, List.take_zero, List.cons_lt_cons_iff, List.not_lt_nil, and_false, or_false] <;> omega
theorem tl_dash : TL.tl (Str.ofString "-") = [45] := by decide +kernel
theorem tl_colon : TL.tl (Str.ofString ":") = [58] := by decide +kernel
theorem tl_blank : TL.tl (Str.ofString " ") = [32] := by decide +kernel
theorem tl_0001 : TL.tl (Str.ofString "0001") = [48, 48, 48, 49] := by decide +kernel
theorem tl_9999 : TL.tl (Str.ofString (toString (9999 : Int))) = [57, 57, 57, 57] := by decide +kernel
theorem tl_00 : TL.tl (Str.ofString "00") = two 0 := by decide +kernel
theorem tl_01 : TL.tl (Str.ofString "01") = two 1 := by decide +kernel
theorem tl_23 : TL.tl (Str.ofString "23") = two 23 := by decide +kernel
theorem tl_59 : TL.tl (Str.ofString "59") = two 59 := by decide +kernel
theorem tl_12 : TL.tl (Str.ofString (toString (12 : Int))) = two 12 := by decide +kernel
theorem tl_14 : TL.tl (Str.ofString (toString (14 : Int))) = two 14 := by decide +kernel
theorem tl_days {v : Int} (h1 : 28 ≤ v) (h2 : v ≤ 31) : TL.tl (Str.ofString (toString v)) = two v.toNat := by
  have : v = 28 ∨ v = 29 ∨ v = 30 ∨ v = 31 := by omega
  rcases this with rfl | rfl | rfl | rfl <;> decide +kernel
theorem small_log {i : Int} (h : i.natAbs < 1920) : i.natAbs.log2 < 1920 := Nat.lt_of_le_of_lt (Nat.log2_le_self _) h
/-! ### read_day -/
abbrev s_read_day : Stmt := topS 31
abbrev N_read_day : List Str := ["reader", "year", "month", "day"]
abbrev P_read_day : List Str := ["reader"]
theorem sc_read_day : FnScope N_read_day ["reader"] (defScope s_read_day) := ⟨rfl, rfl, rfl, by decide +kernel, rfl, by decide +kernel, by decide +kernel⟩
def sp_readday (C : Addr) : Sp := fun vs H Q _ => ∃ (a dx : Addr) (z : Str) (y m d : Nat) (rest : List Nat), vs = [.ref a] ∧ Rdr H C a dx z 0 ∧ z.length ≤ 100000 ∧ TL.tl z = dateL y m d ++ rest ∧ Date y m d ∧ ∀ H', SameBut a H H' → Rdr H' C a dx z 10 → Q (.int (dayNo y m d)) H'
theorem ok_readday {fN fW fI fA f : Addr} {fdN fdW fdI fdA fd : FuncData} (F : Fun K "read_day" "read_day" s_read_day f fd) (T : Tx K mg tk dn md)
    (M_Reader_number : DefM P w K mg base C "number" 3 fN fdN P_Reader_number (sp_number K C)) (M_Reader_word : DefM P w K mg base C "word" 3 fW fdW P_Reader_word (sp_word K C))
    (D_days_in : Def P w K mg base "days_in" 2 fI fdI P_days_in sp_daysin) (D_days_ahead : Def P w K mg base "days_ahead" 3 fA fdA P_days_ahead sp_daysA) : FnOk P w K mg base CX0 4 f fd P_read_day (sp_readday C) := by
  refine F.ok sc_read_day (fun vs H Q E h => ?_) (fun cdv A outer s H vs Q E hr h => ?_)
  · obtain ⟨a, dx, z, y, m, d, rest, rfl, _⟩ := h
    rfl
  · have nd := sc_read_day.nd
    obtain ⟨a, dx, z, y, m, d, rest, rfl, e, hz, hd, hD, q⟩ := h
    refine ⟨_, (pss_cons (ps_set (i := 1) nd rfl (.inl rfl) (pe_meth (pv 0) M_Reader_number.c M_Reader_number.hm M_Reader_number.ok (hr.mono (by decide)) M_Reader_number.bd .nil pass0 (pa_cons pe_str (pa_cons (pe_callTy call_str_int (by rfl) T.n_str (by decide +kernel) (pa_cons (pe_glob (v := .int 9999) (by rfl) T.m_LAST_YEAR ⟨_, rfl⟩) pa_nil)) pa_nil))))
      (pss_cons (ps_expr (pe_meth (pv 0) M_Reader_word.c M_Reader_word.hm M_Reader_word.ok (hr.mono (by decide)) M_Reader_word.bd .nil pass0 (pa_cons pe_str pa_nil)))
      (pss_cons (ps_set (i := 2) nd rfl (.inl rfl) (pe_meth (pv 0) M_Reader_number.c M_Reader_number.hm M_Reader_number.ok (hr.mono (by decide)) M_Reader_number.bd .nil pass0 (pa_cons pe_str (pa_cons (pe_callTy call_str_int (by rfl) T.n_str (by decide +kernel) (pa_cons (pe_callB (cLen K) (by rfl) T.n_len (by decide +kernel) (pa_cons (pe_glob (v := .ref md) (by rfl) T.m_MONTH_DAYS rfl) pa_nil)) pa_nil)) pa_nil))))
      (pss_cons (ps_expr (pe_meth (pv 0) M_Reader_word.c M_Reader_word.hm M_Reader_word.ok (hr.mono (by decide)) M_Reader_word.bd .nil pass0 (pa_cons pe_str pa_nil)))
      (pss_cons (ps_set (i := 3) nd rfl (.inl rfl) (pe_meth (pv 0) M_Reader_number.c M_Reader_number.hm M_Reader_number.ok (hr.mono (by decide)) M_Reader_number.bd .nil pass0 (pa_cons pe_str (pa_cons (pe_callTy call_str_int (by rfl) T.n_str (by decide +kernel) (pa_cons (pe_def D_days_in (hr.mono (by decide)) (pa_cons (pv 1) (pa_cons (pv 2) pa_nil))) pa_nil)) pa_nil))))
      (pss_one (ps_ret (pe_op op_sub (pe_op op_add (pe_def D_days_ahead (hr.mono (by decide)) (pa_cons (pv 1) (pa_cons (pv 2) pa_nil))) (pv 3)) pe_int)))))))), ?_⟩
    dsimp only [gName, tSeq]
    obtain ⟨y1, y2, m1, m2, d1, d2⟩ := hD
    refine ⟨.ref a, rfl, a, dx, _, rfl, e, rfl, 9999, rfl, by decide +kernel, a, dx, z, _, _, 0, four y, [45] ++ two m ++ [45] ++ two d ++ rest, rfl, e, hz, by rw [hd]; rfl, by rw [tl_0001, tl_9999]; exact fits4 y1 y2, fun H1 s1 e1 => ?_⟩
    rw [val4 (by omega)]
    refine ⟨.ref a, rfl, a, dx, _, rfl, e1, rfl, a, dx, z, Str.ofString "-", 4, two m ++ [45] ++ two d ++ rest, rfl, e1, hz, by rw [hd, tl_dash]; rfl, fun H2 s2 e2 => ?_⟩
    rw [tl_dash] at e2
    refine ⟨.ref a, rfl, a, dx, _, rfl, e2, rfl, md, _, rfl, .inr (T.t_MONTH_DAYS _), 12, rfl, by decide +kernel, a, dx, z, _, _, 5, two m, [45] ++ two d ++ rest, rfl, e2, hz, by rw [hd]; rfl, by rw [tl_01, tl_12]; exact fits2 m1 m2 (by decide), fun H3 s3 e3 => ?_⟩
    rw [val2 (by omega)]
    refine ⟨.ref a, rfl, a, dx, _, rfl, e3, rfl, a, dx, z, Str.ofString "-", 7, two d ++ rest, rfl, e3, hz, by rw [hd, tl_dash]; rfl, fun H4 s4 e4 => ?_⟩
    rw [tl_dash] at e4
    have hdv := daysIn_ge y m
    refine ⟨.ref a, rfl, a, dx, _, rfl, e4, rfl, .int y, rfl, .int m, rfl, (y : Int), m, rfl, m1, m2, fun H5 s5 => ⟨_, rfl, small_log (by omega), a, dx, z, _, _, 8, two d, rest, rfl, s5 _ _ e4, hz, by rw [hd]; rfl, by rw [tl_01, tl_days hdv.1 hdv.2]; exact fits2 d1 (by omega) (by omega), fun H6 s6 e6 => ?_⟩⟩
    rw [val2 (by omega)]
    refine ⟨.int y, rfl, .int m, rfl, (y : Int), m, rfl, m1, by omega, fun H7 s7 => ⟨_, rfl, _, _, rfl, rfl, _, 1, rfl, rfl, ?_⟩⟩
    exact q _ ((((((s1.trans s2).trans s3).trans s4).trans (SameBut.of s5)).trans s6).trans (SameBut.of s7)) (s7 _ _ e6)
/-! ### read_clock -/
abbrev s_read_clock : Stmt := topS 32
abbrev N_read_clock : List Str := ["reader", "hour"]
abbrev P_read_clock : List Str := ["reader"]
theorem sc_read_clock : FnScope N_read_clock ["reader"] (defScope s_read_clock) := ⟨rfl, rfl, rfl, by decide +kernel, rfl, by decide +kernel, by decide +kernel⟩
def sp_readclock (C : Addr) : Sp := fun vs H Q _ => ∃ (a dx : Addr) (z : Str) (n l : Nat) (rest : List Nat), vs = [.ref a] ∧ Rdr H C a dx z n ∧ z.length ≤ 100000 ∧ (TL.tl z).drop n = two (l / 60) ++ [58] ++ two (l % 60) ++ rest ∧ l < 1440 ∧ ∀ H', SameBut a H H' → Rdr H' C a dx z (n + 5) → Q (.int (l : Nat)) H'
theorem ok_readclock {fN fW f : Addr} {fdN fdW fd : FuncData} (F : Fun K "read_clock" "read_clock" s_read_clock f fd)
    (M_Reader_number : DefM P w K mg base C "number" 3 fN fdN P_Reader_number (sp_number K C)) (M_Reader_word : DefM P w K mg base C "word" 3 fW fdW P_Reader_word (sp_word K C)) : FnOk P w K mg base CX0 4 f fd P_read_clock (sp_readclock C) := by
  refine F.ok sc_read_clock (fun vs H Q E h => ?_) (fun cdv A outer s H vs Q E hr h => ?_)
  · obtain ⟨a, dx, z, n, l, rest, rfl, _⟩ := h
    rfl
  · have nd := sc_read_clock.nd
    obtain ⟨a, dx, z, n, l, rest, rfl, e, hz, hd, hl, q⟩ := h
    refine ⟨_, (pss_cons (ps_set (i := 1) nd rfl (.inl rfl) (pe_meth (pv 0) M_Reader_number.c M_Reader_number.hm M_Reader_number.ok (hr.mono (by decide)) M_Reader_number.bd .nil pass0 (pa_cons pe_str (pa_cons pe_str pa_nil))))
      (pss_cons (ps_expr (pe_meth (pv 0) M_Reader_word.c M_Reader_word.hm M_Reader_word.ok (hr.mono (by decide)) M_Reader_word.bd .nil pass0 (pa_cons pe_str pa_nil)))
      (pss_one (ps_ret (pe_op op_add (pe_op op_mul (pv 1) pe_int) (pe_meth (pv 0) M_Reader_number.c M_Reader_number.hm M_Reader_number.ok (hr.mono (by decide)) M_Reader_number.bd .nil pass0 (pa_cons pe_str (pa_cons pe_str pa_nil)))))))), ?_⟩
    dsimp only [gName, tSeq]
    have hdr : ∀ k, (TL.tl z).drop (n + k) = (two (l / 60) ++ [58] ++ two (l % 60) ++ rest).drop k := fun k => by rw [← List.drop_drop, hd]
    refine ⟨.ref a, rfl, a, dx, _, rfl, e, rfl, a, dx, z, _, _, n, two (l / 60), [58] ++ two (l % 60) ++ rest, rfl, e, hz, by rw [hd]; rfl, by rw [tl_00, tl_23]; exact fits2 (by omega) (by omega) (by decide), fun H1 s1 e1 => ?_⟩
    rw [val2 (by omega)]
    refine ⟨.ref a, rfl, a, dx, _, rfl, e1, rfl, a, dx, z, Str.ofString ":", n + 2, two (l % 60) ++ rest, rfl, e1, hz, by rw [hdr, tl_colon]; rfl, fun H2 s2 e2 => ?_⟩
    rw [tl_colon] at e2
    refine ⟨_, rfl, _, 60, rfl, rfl, .inr ⟨by decide, by decide⟩, .ref a, rfl, a, dx, _, rfl, e2, rfl, a, dx, z, _, _, n + 3, two (l % 60), rest, rfl, e2, hz, by rw [hdr]; rfl, by rw [tl_00, tl_59]; exact fits2 (by omega) (by omega) (by decide), fun H3 s3 e3 => ?_⟩
    rw [val2 (by omega)]
    refine ⟨_, _, rfl, rfl, ?_⟩
    have := q _ ((s1.trans s2).trans s3) e3
    rw [show ((l : Nat) : Int) = ((l / 60 : Nat) : Int) * 60 + ((l % 60 : Nat) : Int) by omega] at this
    exact this
/-! ### read_ahead -/
abbrev s_read_ahead : Stmt := topS 33
abbrev N_read_ahead : List Str := ["reader", "behind", "hours", "low", "high", "minutes"]
abbrev P_read_ahead : List Str := ["reader"]
theorem sc_read_ahead : FnScope N_read_ahead ["reader"] (defScope s_read_ahead) := ⟨rfl, rfl, rfl, by decide +kernel, rfl, by decide +kernel, by decide +kernel⟩
def sp_readahead (C : Addr) : Sp := fun vs H Q _ => ∃ (a dx : Addr) (z : Str) (n : Nat) (i : Int) (rest : List Nat), vs = [.ref a] ∧ Rdr H C a dx z n ∧ z.length ≤ 100000 ∧ (TL.tl z).drop n = aheadL i ++ rest ∧ i.natAbs ≤ 840 ∧ ∀ H', SameBut a H H' → Rdr H' C a dx z (n + 5) → Q (.int i) H'
theorem ok_readahead {fN fO f : Addr} {fdN fdO fd : FuncData} (F : Fun K "read_ahead" "read_ahead" s_read_ahead f fd) (T : Tx K mg tk dn md)
    (M_Reader_number : DefM P w K mg base C "number" 3 fN fdN P_Reader_number (sp_number K C)) (M_Reader_one_of : DefM P w K mg base C "one_of" 2 fO fdO P_Reader_one_of (sp_one K C)) : FnOk P w K mg base CX0 4 f fd P_read_ahead (sp_readahead C) := by
  refine F.ok sc_read_ahead (fun vs H Q E h => ?_) (fun cdv A outer s H vs Q E hr h => ?_)
  · obtain ⟨a, dx, z, n, i, rest, rfl, _⟩ := h
    rfl
  · have nd := sc_read_ahead.nd
    obtain ⟨a, dx, z, n, i, rest, rfl, e, hz, hd, hi, q⟩ := h
    refine ⟨_, (pss_cons (ps_set (i := 1) nd rfl (.inl rfl) (pe_cmpR op_eq (pe_meth (pv 0) M_Reader_one_of.c M_Reader_one_of.hm M_Reader_one_of.ok (hr.mono (by decide)) M_Reader_one_of.bd .nil pass0 (pa_cons pe_str pa_nil)) pe_str (nomark _)))
      (pss_cons (ps_set (i := 2) nd rfl (.inl rfl) (pe_meth (pv 0) M_Reader_number.c M_Reader_number.hm M_Reader_number.ok (hr.mono (by decide)) M_Reader_number.bd .nil pass0 (pa_cons pe_str (pa_cons (pe_callTy call_str_int (by rfl) T.n_str (by decide +kernel) (pa_cons (pe_glob (v := .int 14) (by rfl) T.m_MOST_HOURS ⟨_, rfl⟩) pa_nil)) pa_nil))))
      (pss_cons (ps_set (i := 3) nd rfl (.inl rfl) (pe_ifExp (PW.pt (pw_and (pt_val (pv 1)) (pw_and1 (pt_cmpR op_eq (pv 2) pe_int (nomark _))))) pe_str pe_str))
      (pss_cons (ps_set (i := 4) nd rfl (.inl rfl) (pe_ifExp (pt_cmpR op_eq (pv 2) (pe_glob (v := .int 14) (by rfl) T.m_MOST_HOURS ⟨_, rfl⟩) (nomark _)) pe_str pe_str))
      (pss_cons (ps_set (i := 5) nd rfl (.inl rfl) (pe_op op_add (pe_op op_mul (pv 2) pe_int) (pe_meth (pv 0) M_Reader_number.c M_Reader_number.hm M_Reader_number.ok (hr.mono (by decide)) M_Reader_number.bd .nil pass0 (pa_cons (pv 3) (pa_cons (pv 4) pa_nil)))))
      (pss_one (ps_ret (pe_ifExp (pt_val (pv 1)) (pe_un un_neg (pv 5)) (pv 5))))))))), ?_⟩
    dsimp only [gName, tSeq]
    have hdr : ∀ k, (TL.tl z).drop (n + k) = (aheadL i ++ rest).drop k := fun k => by rw [← List.drop_drop, hd]
    have hpm : TL.tl (Str.ofString "+-") = [43, 45] := by decide +kernel
    have hc : (TL.tl z)[n]? = some (if i < 0 then 45 else 43) := by
      have := congrArg (fun l => l[0]?) hd
      simp only [List.getElem?_drop] at this
      exact this
    have hbe : decide (oneV (if i < 0 then 45 else 43) = V.str (Str.ofString "-")) = decide (i < 0) := by
      rw [show Str.ofString "-" = ⟨#[45]⟩ from TL.ext_tl (by decide +kernel)]
      split
      · rename_i h; rw [decide_eq_true h]; rfl
      · rename_i h; rw [decide_eq_false h]; rfl
    refine ⟨.ref a, rfl, a, dx, _, rfl, e, rfl, a, dx, z, n, _, _, rfl, e, hz, hc, .inl ⟨_, rfl, by rw [hpm]; split <;> simp⟩, fun H1 s1 e1 => ⟨rfl, ?_⟩⟩
    rw [hbe]
    refine ⟨.ref a, rfl, a, dx, _, rfl, e1, rfl, 14, rfl, by decide +kernel, a, dx, z, _, _, n + 1, two (i.natAbs / 60), two (i.natAbs % 60) ++ rest, rfl, e1, hz, by rw [hdr]; rfl, by rw [tl_00, tl_14]; exact fits2 (by omega) (by omega) (by decide), fun H2 s2 e2 => ?_⟩
    rw [val2 (by omega)]
    have fin : ∀ (lo hi : V) (H4 : Hp), SameBut a H H4 → Rdr H4 C a dx z (n + 5) → tOp (rI0 fun i j => V.int (i + j)) (tC (.int (((i.natAbs / 60 : Nat) : Int) * 60))) (tC (.int ((i.natAbs % 60 : Nat) : Int))) [some (.ref a), some (.bl (decide (i < 0))), some (.int ((i.natAbs / 60 : Nat) : Int)), some lo, some hi, none] H4 (fun x H1 => gName 5 x [some (.ref a), some (.bl (decide (i < 0))), some (.int ((i.natAbs / 60 : Nat) : Int)), some lo, some hi, none] H1 (tRet (tIf (tB (tVar 1)) (tUn (rU fun i => V.int (-i)) (tVar 5)) (tVar 5)) { nx := fun x H' => Q V.non H', rt := Q })) := by
      intro lo hi H4 s4 e4
      refine ⟨_, _, rfl, rfl, _, rfl, _, rfl, ?_⟩
      by_cases h0 : i < 0
      · rw [decide_eq_true h0]
        refine iteT ⟨_, rfl, _, rfl, ?_⟩
        have := q _ s4 e4
        rw [show i = -(((i.natAbs / 60 : Nat) : Int) * 60 + ((i.natAbs % 60 : Nat) : Int)) by omega] at this
        exact this
      · rw [decide_eq_false h0]
        refine iteF ⟨_, rfl, ?_⟩
        have := q _ s4 e4
        rw [show i = ((i.natAbs / 60 : Nat) : Int) * 60 + ((i.natAbs % 60 : Nat) : Int) by omega] at this
        exact this
    dsimp only [gName, tSeq, tAsg, tIf]
    by_cases ha : i < 0 ∧ i.natAbs / 60 = 0
    · have hb : ¬ i.natAbs / 60 = 14 := by omega
      refine andT (decide (i < 0)) (decide (i.natAbs / 60 = 0)) (fun k q1 => ⟨_, rfl, _, rfl, q1 _ (Same.refl _)⟩) (fun _ H3 k s3 q1 => ⟨_, rfl, rfl, _, rfl, ?_⟩) (fun H3 s3 => ?_)
      · rw [vint_dec, show decide (((i.natAbs / 60 : Nat) : Int) = 0) = decide (i.natAbs / 60 = 0) from decide_eq_decide.mpr (by omega)]
        exact q1 _ (Same.refl _)
      rw [show (decide (i < 0) && decide (i.natAbs / 60 = 0)) = true by rw [decide_eq_true ha.1, decide_eq_true ha.2]; rfl]
      refine iteT ⟨_, rfl, rfl, _, rfl, ?_⟩
      rw [vint_dec, decide_eq_false (show ¬ ((i.natAbs / 60 : Nat) : Int) = 14 by omega)]
      refine iteF ?_
      have e3 := s3 _ _ e2
      refine ⟨_, rfl, _, 60, rfl, rfl, .inr ⟨by decide, by decide⟩, .ref a, rfl, a, dx, _, rfl, e3, rfl, _, rfl, _, rfl, a, dx, z, Str.ofString "01", Str.ofString "59", n + 3, two (i.natAbs % 60), rest, rfl, e3, hz, by rw [hdr]; rfl, by rw [tl_01, tl_59]; exact fits2 (by omega) (by omega) (by decide), fun H4 s4 e4 => ?_⟩
      rw [val2 (by omega)]
      exact fin _ _ _ ((s1.trans s2).trans (SameBut.of s3) |>.trans s4) e4
    by_cases hb : i.natAbs / 60 = 14
    · have : True := trivial
      refine andT (decide (i < 0)) (decide (i.natAbs / 60 = 0)) (fun k q1 => ⟨_, rfl, _, rfl, q1 _ (Same.refl _)⟩) (fun _ H3 k s3 q1 => ⟨_, rfl, rfl, _, rfl, ?_⟩) (fun H3 s3 => ?_)
      · rw [vint_dec, show decide (((i.natAbs / 60 : Nat) : Int) = 0) = decide (i.natAbs / 60 = 0) from decide_eq_decide.mpr (by omega)]
        exact q1 _ (Same.refl _)
      rw [show (decide (i < 0) && decide (i.natAbs / 60 = 0)) = false by cases h : (decide (i < 0) && decide (i.natAbs / 60 = 0)) with | false => rfl | true => obtain ⟨h1, h2⟩ := Bool.and_eq_true_iff.mp h; exact absurd ⟨of_decide_eq_true h1, of_decide_eq_true h2⟩ ha]
      refine iteF ⟨_, rfl, rfl, _, rfl, ?_⟩
      rw [vint_dec, decide_eq_true (show ((i.natAbs / 60 : Nat) : Int) = 14 by omega)]
      refine iteT ?_
      have e3 := s3 _ _ e2
      refine ⟨_, rfl, _, 60, rfl, rfl, .inr ⟨by decide, by decide⟩, .ref a, rfl, a, dx, _, rfl, e3, rfl, _, rfl, _, rfl, a, dx, z, Str.ofString "00", Str.ofString "00", n + 3, two (i.natAbs % 60), rest, rfl, e3, hz, by rw [hdr]; rfl, by rw [tl_00]; exact fits2 (by omega) (by omega) (by decide), fun H4 s4 e4 => ?_⟩
      rw [val2 (by omega)]
      exact fin _ _ _ ((s1.trans s2).trans (SameBut.of s3) |>.trans s4) e4
    · have : True := trivial
      refine andT (decide (i < 0)) (decide (i.natAbs / 60 = 0)) (fun k q1 => ⟨_, rfl, _, rfl, q1 _ (Same.refl _)⟩) (fun _ H3 k s3 q1 => ⟨_, rfl, rfl, _, rfl, ?_⟩) (fun H3 s3 => ?_)
      · rw [vint_dec, show decide (((i.natAbs / 60 : Nat) : Int) = 0) = decide (i.natAbs / 60 = 0) from decide_eq_decide.mpr (by omega)]
        exact q1 _ (Same.refl _)
      rw [show (decide (i < 0) && decide (i.natAbs / 60 = 0)) = false by cases h : (decide (i < 0) && decide (i.natAbs / 60 = 0)) with | false => rfl | true => obtain ⟨h1, h2⟩ := Bool.and_eq_true_iff.mp h; exact absurd ⟨of_decide_eq_true h1, of_decide_eq_true h2⟩ ha]
      refine iteF ⟨_, rfl, rfl, _, rfl, ?_⟩
      rw [vint_dec, decide_eq_false (show ¬ ((i.natAbs / 60 : Nat) : Int) = 14 by omega)]
      refine iteF ?_
      have e3 := s3 _ _ e2
      refine ⟨_, rfl, _, 60, rfl, rfl, .inr ⟨by decide, by decide⟩, .ref a, rfl, a, dx, _, rfl, e3, rfl, _, rfl, _, rfl, a, dx, z, Str.ofString "00", Str.ofString "59", n + 3, two (i.natAbs % 60), rest, rfl, e3, hz, by rw [hdr]; rfl, by rw [tl_00, tl_59]; exact fits2 (by omega) (by omega) (by decide), fun H4 s4 e4 => ?_⟩
      rw [val2 (by omega)]
      exact fin _ _ _ ((s1.trans s2).trans (SameBut.of s3) |>.trans s4) e4
end
end K31

namespace K31
open PySem PySem.Spec PyProof.Rows L2 LH
/-! ### names and addresses -/
def GoodRun (z s : List Nat) (m : Nat) : Prop := 1 ≤ z.length ∧ z.length ≤ m ∧ ∀ c ∈ z, c ∈ s
def GoodName (z : List Nat) : Prop := GoodRun z (TL.tl SMALLT) 12
def GoodAddr (z : List Nat) : Prop := ∃ (loc : List Nat) (ws : List (List Nat)), z = loc ++ 64 :: TL.joinL [46] ws ∧ GoodRun loc (TL.tl LOCALT) 20 ∧ 1 ≤ ws.length ∧ ws.length ≤ 3 ∧ ∀ x ∈ ws, GoodRun x (TL.tl HOUSET) 10
section
variable {P : Program} {w : World} {K : PySem.W.Frag} {mg : Str → Option Value} {base : Heap} {tk : Nat → Tok} {ca : Nat → Addr} {dn md nd1 pd al : Addr}
/-! ### is_run -/
abbrev s_is_run : Stmt := topS 17
abbrev N_is_run : List Str := ["text", "signs", "most"]
abbrev P_is_run : List Str := ["text", "signs", "most"]
theorem sc_is_run : FnScope N_is_run ["text", "signs", "most"] (defScope s_is_run) := ⟨rfl, rfl, rfl, by decide +kernel, rfl, by decide +kernel, by decide +kernel⟩
def sp_run : Sp := fun vs H Q _ => ∃ (z s : Str) (m : Nat), vs = [.str z, .str s, .int (m : Int)] ∧ m ≤ 1000 ∧ GoodRun (TL.tl z) (TL.tl s) m ∧ Tell H (.bl true) Q
theorem ok_run {f : Addr} {fd : FuncData} {k : Nat} (F : Fun K "is_run" "is_run" s_is_run f fd) (T : Tx K mg tk dn md) : FnOk P w K mg base CX0 (k + 1) f fd P_is_run sp_run := by
  refine F.ok sc_is_run (fun vs H Q E h => ?_) (fun cdv A outer s H vs Q E hr h => ?_)
  · obtain ⟨z, sg, m, rfl, _⟩ := h
    rfl
  · have nd := sc_is_run.nd
    obtain ⟨z, sg, m, rfl, hm, hg, q⟩ := h
    refine ⟨_, (pss_one (ps_ret (pe_and (pe_chain op_le op_le pe_int (pe_callB call_len_str (by rfl) T.n_len (by decide +kernel) (pa_cons (pv 0) pa_nil)) (pv 2)) (pe_one (pe_cmpR op_eq (pe_m1 PySem.F.slot_str_strip PySem.F.type_str_strip mt_stripChars (pv 0) (pv 1)) pe_str (nomark _)))))), ?_⟩
    have hzl : z.length = (TL.tl z).length := TL.len_tl z
    have hsl : z.length ≤ sizeLine := by rw [sizeLine_eq, hzl]; have := hg.2.1; omega
    refine ⟨.str z, rfl, z, rfl, hsl, 1, _, rfl, rfl, _, rfl, ?_⟩
    rw [decide_eq_true (show (1 : Int) ≤ ((z.length : Nat) : Int) by have := hg.1; omega)]
    refine iteT ⟨.int m, rfl, _, _, rfl, rfl, _, rfl, ?_⟩
    rw [decide_eq_true (show ((z.length : Nat) : Int) ≤ (m : Int) by have := hg.2.1; omega)]
    refine iteT ⟨.str z, rfl, ⟨_, rfl⟩, _, rfl, z, sg, rfl, rfl, hsl, ?_⟩
    refine ⟨rfl, ?_⟩
    rw [strip_eq, List.all_eq_true.mpr fun c hc => decide_eq_true (hg.2.2 c hc)]
    exact q H (Same.refl _)
/-! ### is_small_word -/
abbrev s_is_small_word : Stmt := topS 23
abbrev N_is_small_word : List Str := ["text", "most"]
abbrev P_is_small_word : List Str := ["text", "most"]
theorem sc_is_small_word : FnScope N_is_small_word ["text", "most"] (defScope s_is_small_word) := ⟨rfl, rfl, rfl, by decide +kernel, rfl, by decide +kernel, by decide +kernel⟩
def sp_smallw : Sp := fun vs H Q _ => ∃ (z : Str) (m : Nat), vs = [.str z, .int (m : Int)] ∧ m ≤ 1000 ∧ GoodRun (TL.tl z) (TL.tl SMALLT) m ∧ Tell H (.bl true) Q
theorem ok_smallw {f : Addr} {fd : FuncData} {k : Nat} (F : Fun K "is_small_word" "is_small_word" s_is_small_word f fd) (T : Tx K mg tk dn md) : FnOk P w K mg base CX0 (k + 1) f fd P_is_small_word sp_smallw := by
  refine F.ok sc_is_small_word (fun vs H Q E h => ?_) (fun cdv A outer s H vs Q E hr h => ?_)
  · obtain ⟨z, m, rfl, _⟩ := h
    rfl
  · have nd := sc_is_small_word.nd
    obtain ⟨z, m, rfl, hm, hg, q⟩ := h
    refine ⟨_, (pss_one (ps_ret (pe_and (pe_chain op_le op_le pe_int (pe_callB call_len_str (by rfl) T.n_len (by decide +kernel) (pa_cons (pv 0) pa_nil)) (pv 1)) (pe_one (pe_cmpR op_eq (pe_m1 PySem.F.slot_str_strip PySem.F.type_str_strip mt_stripChars (pv 0) (pe_glob (v := .str SMALLT) (by rfl) T.m_SMALL ⟨_, rfl⟩)) pe_str (nomark _)))))), ?_⟩
    have hzl : z.length = (TL.tl z).length := TL.len_tl z
    have hsl : z.length ≤ sizeLine := by rw [sizeLine_eq, hzl]; have := hg.2.1; omega
    refine ⟨.str z, rfl, z, rfl, hsl, 1, _, rfl, rfl, _, rfl, ?_⟩
    rw [decide_eq_true (show (1 : Int) ≤ ((z.length : Nat) : Int) by have := hg.1; omega)]
    refine iteT ⟨.int m, rfl, _, _, rfl, rfl, _, rfl, ?_⟩
    rw [decide_eq_true (show ((z.length : Nat) : Int) ≤ (m : Int) by have := hg.2.1; omega)]
    refine iteT ⟨.str z, rfl, ⟨_, rfl⟩, z, SMALLT, rfl, rfl, hsl, ?_⟩
    refine ⟨rfl, ?_⟩
    rw [strip_eq, List.all_eq_true.mpr fun c hc => decide_eq_true (hg.2.2 c hc)]
    exact q H (Same.refl _)
/-! ### is_name -/
abbrev s_is_name : Stmt := topS 24
abbrev N_is_name : List Str := ["thing"]
abbrev P_is_name : List Str := ["thing"]
theorem sc_is_name : FnScope N_is_name ["thing"] (defScope s_is_name) := ⟨rfl, rfl, rfl, by decide +kernel, rfl, by decide +kernel, by decide +kernel⟩
def sp_isname : Sp := fun vs H Q _ => ∃ z : Str, vs = [.str z] ∧ GoodName (TL.tl z) ∧ Tell H (.bl true) Q
theorem ok_isname {f f1 : Addr} {fd fd1 : FuncData} (F : Fun K "is_name" "is_name" s_is_name f fd) (T : Tx K mg tk dn md) (D_is_small_word : Def P w K mg base "is_small_word" 1 f1 fd1 P_is_small_word sp_smallw) : FnOk P w K mg base CX0 2 f fd P_is_name sp_isname := by
  refine F.ok sc_is_name (fun vs H Q E h => ?_) (fun cdv A outer s H vs Q E hr h => ?_)
  · obtain ⟨z, rfl, _⟩ := h
    rfl
  · have nd := sc_is_name.nd
    obtain ⟨z, rfl, hg, q⟩ := h
    refine ⟨_, (pss_one (ps_ret (pe_and (pe_callB (cIsi K) (by rfl) T.n_isinstance (by decide +kernel) (pa_cons (pv 0) (pa_cons (pe_bltn (v := .ty "str") (by rfl) T.n_str (by decide +kernel) rfl) pa_nil))) (pe_one (pe_def D_is_small_word (hr.mono (by decide)) (pa_cons (pv 0) (pa_cons (pe_glob (v := .int 12) (by rfl) T.m_NAME_LETTERS ⟨_, rfl⟩) pa_nil))))))), ?_⟩
    exact andV true true (fun Q' q' => ⟨.str z, rfl, .str z, .ty "str", _, _, true, rfl, .ty _, .base (.str _), kit_ty (by decide +kernel), q' _ (Same.refl _)⟩) (fun _ H1 Q' s1 q' => ⟨.str z, rfl, z, 12, rfl, by decide, hg, q'⟩) q
/-! ### is_address -/
abbrev s_is_address : Stmt := topS 16
abbrev N_is_address : List Str := ["text", "words", "word", "local", "_", "house"]
abbrev P_is_address : List Str := ["text"]
theorem sc_is_address : FnScope N_is_address ["text"] (defScope s_is_address) := ⟨rfl, rfl, rfl, by decide +kernel, rfl, by decide +kernel, by decide +kernel⟩
def sp_isaddr : Sp := fun vs H Q _ => ∃ z : Str, vs = [.str z] ∧ GoodAddr (TL.tl z) ∧ Tell H (.bl true) Q
theorem ok_isaddr {f f1 : Addr} {fd fd1 : FuncData} (F : Fun K "is_address" "is_address" s_is_address f fd) (T : Tx K mg tk dn md) (D_is_run : Def P w K mg base "is_run" 1 f1 fd1 P_is_run sp_run) : FnOk P w K mg base CX0 2 f fd P_is_address sp_isaddr := by
  refine F.ok sc_is_address (fun vs H Q E h => ?_) (fun cdv A outer s H vs Q E hr h => ?_)
  · obtain ⟨z, rfl, _⟩ := h
    rfl
  · have nd := sc_is_address.nd
    obtain ⟨z, rfl, hg, q⟩ := h
    refine ⟨_, (pss_cons (ps_asg (pe_partition (pv 0) pe_str) (pg_tup rfl (pgs_cons (pg_name (i := 3) nd rfl (Or.inl rfl)) (pgs_cons (pg_name (i := 4) nd rfl (Or.inl rfl)) (pgs_cons (pg_name (i := 5) nd rfl (Or.inl rfl)) pgs_nil)))))
      (pss_cons (ps_set (i := 1) nd rfl (.inl rfl) (pe_bm PySem.F.plainAttrs_str PySem.F.slot_str_split PySem.F.type_str_split mt_splitMax (pv 5) (pa_cons pe_str (pa_cons (pe_glob (v := .int 3) (by rfl) T.m_HOUSE_WORDS ⟨_, rfl⟩) pa_nil))))
      (pss_cons (ps_if (PW.pt (pw_or (pt_cmpR op_gt (pe_callB (cLen K) (by rfl) T.n_len (by decide +kernel) (pa_cons (pv 1) pa_nil)) (pe_glob (v := .int 3) (by rfl) T.m_HOUSE_WORDS ⟨_, rfl⟩) (nomark _)) (pw_or1 (pt_not (pt_val (pe_def D_is_run (hr.mono (by decide)) (pa_cons (pv 3) (pa_cons (pe_glob (v := .str LOCALT) (by rfl) T.m_LOCAL_SIGNS ⟨_, rfl⟩) (pa_cons (pe_glob (v := .int 20) (by rfl) T.m_LOCAL_MOST ⟨_, rfl⟩) pa_nil)))))))))
        (pss_one (ps_ret pe_bl))
        pss_nil)
      (pss_cons (ps_for PassesOwn.never rfl (pi_list (pv 1)) (pg_name (i := 2) nd rfl (Or.inl rfl))
        (pss_one (ps_if (pt_not (pt_val (pe_def D_is_run (hr.mono (by decide)) (pa_cons (pv 2) (pa_cons (pe_glob (v := .str HOUSET) (by rfl) T.m_HOUSE_SIGNS ⟨_, rfl⟩) (pa_cons (pe_glob (v := .int 10) (by rfl) T.m_HOUSE_MOST ⟨_, rfl⟩) pa_nil))))))
          (pss_one (ps_ret pe_bl))
          pss_nil)))
      (pss_one (ps_ret pe_bl)))))), ?_⟩
    dsimp only [tSeq, tAsg, gName]
    obtain ⟨loc, ws, hz, hloc, hw1, hw3, hws⟩ := hg
    have hzl : z.length = (TL.tl z).length := TL.len_tl z
    have hjl := joinL_len [46] ws
    have hsum := sum_le 10 (ws.map List.length) (fun x hx => by
      obtain ⟨y, hy, rfl⟩ := List.mem_map.mp hx
      exact (hws y hy).2.1)
    rw [List.length_map, List.length_singleton] at *
    have hzb : z.length ≤ 100 := by
      rw [hzl, hz, List.length_append, List.length_cons]
      have := hloc.2.1
      omega
    have hpt := part_at z (Str.ofString "@") 64 loc (TL.joinL [46] ws) (by decide +kernel) hz (fun h => by
      have := hloc.2.2 64 h
      revert this
      decide +kernel)
    have hpl := part_lens z (Str.ofString "@")
    refine ⟨.str z, rfl, ⟨_, rfl⟩, _, Str.ofString "@", rfl, rfl, by decide +kernel, by rw [sizeLine_eq]; omega, fun p np => ?_⟩
    have s1 := same_upd (o := .tup [.str (Txt.partition z (Str.ofString "@")).1, .str (Txt.partition z (Str.ofString "@")).2.1, .str (Txt.partition z (Str.ofString "@")).2.2]) np
    generalize (Txt.partition z (Str.ofString "@")).1 = x1 at *
    generalize (Txt.partition z (Str.ofString "@")).2.1 = x2 at *
    generalize (Txt.partition z (Str.ofString "@")).2.2 = x3 at *
    refine ⟨p, _, rfl, .inl (.inl upd_same), rfl, _, _, rfl, _, _, rfl, _, _, rfl, rfl, ?_⟩
    dsimp only [tSeq, tAsg, gName]
    have hsp := split_tl (x := x3) (y := Str.ofString ".") (s := 46) (by decide +kernel) (by decide)
    rw [hpt.2, splitL_join 46 ws (by intro h; rw [h] at hw1; simp at hw1) (fun x hx h => by
      have := (hws x hx).2.2 46 h
      revert this
      decide +kernel)] at hsp
    have hspl : (Txt.split x3 (Str.ofString ".")).length = ws.length := by
      rw [← hsp, List.length_map]
    have hmax := split_max x3 (Str.ofString ".") (k := 3) (by omega)
    refine ⟨_, rfl, rfl, x3, Str.ofString ".", 3, rfl, rfl, by decide +kernel, by decide, by decide, by rw [sizeLine_eq]; omega, fun g ng => ?_⟩
    rw [show Txt.splitMax x3 (Str.ofString ".") 3 = Txt.split x3 (Str.ofString ".") from hmax]
    have s2 := s1.trans (same_upd (o := .lst ((Txt.split x3 (Str.ofString ".")).map V.str)) ng)
    have eg : upd (upd H p (.tup [.str x1, .str x2, .str x3])) g (.lst ((Txt.split x3 (Str.ofString ".")).map V.str)) g = some (.lst ((Txt.split x3 (Str.ofString ".")).map V.str)) := upd_same
    generalize upd (upd H p (.tup [.str x1, .str x2, .str x3])) g (.lst ((Txt.split x3 (Str.ofString ".")).map V.str)) = H2 at eg s2
    generalize Txt.split x3 (Str.ofString ".") = vs at *
    have hml : (vs.map V.str).length = ws.length := by rw [List.length_map]; exact hspl
    refine ifT false (fun k q1 => orT false false (fun k q2 => ⟨.ref g, rfl, g, _, rfl, .inl (.inl (.inl eg)), _, 3, rfl, rfl, _, rfl, TellB.eq (decide_eq_false (by rw [hml]; omega)) q2 _ (Same.refl _)⟩) (fun _ H3 k s3 q2 => notT true (fun k q3 => ⟨_, rfl, x1, LOCALT, 20, rfl, by decide, by rw [hpt.1]; exact hloc, fun H4 s4 => ⟨true, rfl, q3 _ s4⟩⟩) q2) q1) (fun h => nomatch h) (fun _ H3 s3 => ?_)
    dsimp only [tNext, tSeq]
    have eg3 := s3 _ _ eg
    refine ⟨.ref g, rfl, g, rfl, ⟨_, .inl (.inl eg3)⟩, for_it walk_list (fun i σ H' => ∃ y2 : Option V, σ = [some (.str z), some (.ref g), y2, some (.str x1), some (.str x2), some (.str x3)] ∧ Same H3 H')
      ⟨_, rfl, Same.refl _⟩ (fun i σ H' _ h => by obtain ⟨_, rfl, sm⟩ := h; exact .inl (.inl (sm _ _ eg3))) (fun i x σ H' H'' hi hP hy => ?_) (fun σ H' hP => ?_)⟩
    · obtain ⟨y2, rfl, sm⟩ := hP
      obtain ⟨rfl, hx⟩ := hy
      rw [List.length_map] at hi
      rw [List.getElem?_map, List.getElem?_eq_getElem hi] at hx
      obtain rfl := Option.some.inj hx
      have hgi : GoodRun (TL.tl vs[i]) (TL.tl HOUSET) 10 := hws _ (by rw [← hsp]; exact List.mem_map.mpr ⟨_, List.getElem_mem hi, rfl⟩)
      exact ifT false (fun k q1 => notT true (fun k q2 => ⟨_, rfl, vs[i], HOUSET, 10, rfl, by decide, hgi, fun H4 s4 => ⟨true, rfl, q2 _ s4⟩⟩) q1) (fun h => nomatch h) (fun _ H4 s4 => ⟨_, rfl, sm.trans s4⟩)
    · obtain ⟨y2, rfl, sm⟩ := hP
      exact q _ (s2.trans (s3.trans sm))
end
end K31

namespace K31
open PySem PySem.Spec PyProof.Rows L2 LH
/-! ### the words of a time; deeds -/
/-- a list of words at p -/
def WordsR (H : Hp) (p : Addr) (W : List Str) : Prop := H p = some (.lst (W.map V.str))
theorem word_at {W : List Str} {i : Nat} {z : Str} (h : W[i]? = some z) : atI (W.map V.str) ((i : Nat) : Int) = some (.str z) := atI_nat (by rw [List.getElem?_map, h]; rfl)
theorem drop_at {W : List Str} {i : Nat} {us post : List Str} {j : Nat} {z : Str} (h : W.drop i = us ++ post) (hz : (us ++ post)[j]? = some z) : W[i + j]? = some z := by
  rw [← h, List.getElem?_drop] at hz
  exact hz
theorem drop_more {W : List Str} {i : Nat} {us post : List Str} (h : W.drop i = us ++ post) : W.drop (i + us.length) = post := by
  rw [← List.drop_drop, h, List.drop_left]
def NewPair (H : Hp) (j : Nat) (Q : VK) : Prop := ∀ H' p x, Same H H' → H p = none → H' p = some (.tup [x, .int (j : Nat)]) → Q (.ref p) H'
def comma : Str := Str.ofString ","
/-- deeds, word by word -/
inductive DeedsW : List Str → Prop
  | named1 (w z : Str) : w ∈ namedDeeds → GoodName (TL.tl z) → DeedsW [w, z]
  | namedM (w z y : Str) (r : List Str) : w ∈ namedDeeds → GoodName (TL.tl z) → TL.tl y = TL.tl z ++ [44] → DeedsW r → DeedsW (w :: y :: r)
  | plain1 (w : Str) : w ∈ plainDeeds → DeedsW [w]
  | plainM (w y : Str) (r : List Str) : w ∈ plainDeeds → TL.tl y = TL.tl w ++ [44] → DeedsW r → DeedsW (y :: r)
theorem name_last {z : List Nat} (h : GoodName z) : z.getLast? ≠ some 44 := fun e => by
  have := h.2.2 44 (List.mem_of_getLast? e)
  revert this
  decide +kernel
theorem named_in {w : Str} (h : w ∈ namedDeeds) : inV (.str w) (namedDeeds.map V.str) = true ∧ w.length ≤ 6 := by
  simp only [namedDeeds, List.mem_cons, List.mem_nil_iff, or_false] at h
  rcases h with rfl | rfl | rfl | rfl <;> exact ⟨by decide +kernel, by decide +kernel⟩
theorem plain_in {w : Str} (h : w ∈ plainDeeds) : inV (.str w) (namedDeeds.map V.str) = false ∧ inV (.str w) (plainDeeds.map V.str) = true ∧ w.length ≤ 6 ∧ (TL.tl w).getLast? ≠ some 44 := by
  simp only [plainDeeds, List.mem_cons, List.mem_nil_iff, or_false] at h
  rcases h with rfl | rfl <;> exact ⟨by decide +kernel, by decide +kernel, by decide +kernel, by decide +kernel⟩
theorem plain_comma {w y : Str} (h : w ∈ plainDeeds) (hy : TL.tl y = TL.tl w ++ [44]) : inV (.str y) (namedDeeds.map V.str) = false ∧ y.length ≤ 7 := by
  simp only [plainDeeds, List.mem_cons, List.mem_nil_iff, or_false] at h
  rcases h with rfl | rfl
  · obtain rfl : y = Str.ofString "refuse," := TL.ext_tl (by rw [hy]; decide +kernel)
    exact ⟨by decide +kernel, by decide +kernel⟩
  · obtain rfl : y = Str.ofString "stop," := TL.ext_tl (by rw [hy]; decide +kernel)
    exact ⟨by decide +kernel, by decide +kernel⟩
section
variable {P : Program} {w : World} {K : PySem.W.Frag} {mg : Str → Option Value} {base : Heap} {tk : Nat → Tok} {ca : Nat → Addr} {dn md nd1 pd al C : Addr}
theorem whileN {c : TT} {tb : TS} {D : Ends} {σ : L2.St} {H : Hp} (Pv : Nat → L2.St → Hp → Prop) (h0 : ∃ m, Pv m σ H)
    (hs : ∀ m σ H, Pv m σ H → ∃ b : Bool, (∀ k, TellB H b k → c σ H k) ∧ (b = true → ∀ H1, Same H H1 → tb { D with nx := fun σ' H' => ∃ m', m' < m ∧ Pv m' σ' H', ct := fun σ' H' => ∃ m', m' < m ∧ Pv m' σ' H', bk := D.nx } σ H1) ∧ (b = false → ∀ H1, Same H H1 → D.nx σ H1)) : tWhile c tb D σ H := by
  refine ⟨Pv, h0, ?_⟩
  intro m σ H p
  obtain ⟨b, ht, h1, h2⟩ := hs m σ H p
  refine ht _ fun H1 s1 => ?_
  cases b with
  | true => exact ⟨fun σ' H' => ∃ m', m' < m ∧ Pv m' σ' H', fun σ' H' h => h, h1 rfl H1 s1⟩
  | false => exact h2 rfl H1 s1
/-! ### read_whole -/
abbrev s_read_whole : Stmt := topS 56
abbrev N_read_whole : List Str := ["read", "words", "at", "reader", "found"]
abbrev P_read_whole : List Str := ["read", "words", "at"]
theorem sc_read_whole : FnScope N_read_whole ["read", "words", "at"] (defScope s_read_whole) := ⟨rfl, rfl, rfl, by decide +kernel, rfl, by decide +kernel, by decide +kernel⟩
/-- what reads a whole word and tells v -/
def ReadsW (C : Addr) (sp : Sp) (z : Str) (v : V) : Prop := ∀ (H : Hp) (a dx : Addr) (Q : VK), Rdr H C a dx z 0 → (∀ H', SameBut a H H' → Rdr H' C a dx z (TL.tl z).length → Q v H') → sp [.ref a] H Q E0
def sp_whole (P : Program) (w : World) (K : PySem.W.Frag) (mg : Str → Option Value) (base : Heap) (C : Addr) (k : Nat) : Sp := fun vs H Q _ => ∃ (fr pw : Addr) (i : Nat) (sp : Sp) (W : List Str) (z : Str) (v : V), vs = [.ref fr, .ref pw, .int (i : Nat)] ∧ FnV P w K mg base k fr sp ∧ WordsR H pw W ∧ W[i]? = some z ∧ z.length ≤ 1000 ∧ ReadsW C sp z v ∧ Tell H v Q
theorem ok_whole {f fC fE : Addr} {fd fdC fdE : FuncData} (F : Fun K "read_whole" "read_whole" s_read_whole f fd) (R : Rc K C) (C_Reader : DefC P w K mg base "Reader" C 1 fC fdC P_Reader___init__ (sp_init C)) (M_Reader_end : DefM P w K mg base C "end" 1 fE fdE P_Reader_end (sp_end C)) : FnOk P w K mg base CX0 5 f fd P_read_whole (sp_whole P w K mg base C 4) := by
  refine F.ok sc_read_whole (fun vs H Q E h => ?_) (fun cdv A outer s H vs Q E hr h => ?_)
  · obtain ⟨fr, pw, i, sp, W, z, v, rfl, _⟩ := h
    rfl
  · have nd := sc_read_whole.nd
    obtain ⟨fr, pw, i, sp, W, z, v, rfl, hF, hW, hz, hzl, hR, q⟩ := h
    refine ⟨_, (pss_cons (ps_set (i := 3) nd rfl (.inl rfl) (pe_make C_Reader.make C_Reader.ok (hr.mono (by decide)) (by rfl) C_Reader.mg C_Reader.bd .nil pass0 (pa_cons (pe_ix (ixL K) (pv 1) (pv 2) (fun _ _ => rfl)) pa_nil)))
      (pss_cons (ps_try_never (fun _ _ h => h) (pss_cons (ps_set (i := 4) nd rfl (.inl rfl) (pe_callV (k := 4) (hr.mono (by first | decide | exact Nat.le_refl _)) (pv 0) (pa_cons (pv 3) pa_nil)))
        (pss_one (ps_expr (pe_meth0 (pv 3) M_Reader_end.c M_Reader_end.hm M_Reader_end.ok (hr.mono (by decide)) M_Reader_end.bd .nil pass0)))) pss_nil)
      (pss_one (ps_ret (pv 4))))), ?_⟩
    dsimp only [tSeq, tAsg, gName]
    refine ⟨.ref pw, rfl, _, rfl, pw, _, _, _, rfl, rfl, .inl (.inl hW), word_at hz, fun x dx nx ndx hne => ?_⟩
    refine ⟨x, dx, z, rfl, upd_same, fun H1 sb e1 => ⟨rfl, ?_⟩⟩
    have s1 : Same H H1 := fun b o hb => sb b o (ne_of_none hb nx) (by rw [upd_ne (ne_of_none hb nx), upd_ne (ne_of_none hb ndx)]; exact hb)
    refine ⟨.ref fr, rfl, fr, sp, rfl, hF, .ref x, rfl, hR H1 x dx _ e1 fun H2 sb2 e2 => ?_⟩
    have s2 : Same H H2 := fun b o hb => sb2 b o (ne_of_none hb nx) (s1 b o hb)
    exact ⟨.ref x, rfl, x, dx, _, rfl, e2, rfl, x, dx, z, rfl, e2, by omega, fun H3 s3 => ⟨v, rfl, q _ (s2.trans s3)⟩⟩
/-! ### read_deeds -/
abbrev s_read_deeds : Stmt := topS 57
abbrev N_read_deeds : List Str := ["words", "at", "deeds", "goes_on", "deed", "name"]
abbrev P_read_deeds : List Str := ["words", "at"]
theorem sc_read_deeds : FnScope N_read_deeds ["words", "at"] (defScope s_read_deeds) := ⟨rfl, rfl, rfl, by decide +kernel, rfl, by decide +kernel, by decide +kernel⟩
def sp_deeds : Sp := fun vs H Q _ => ∃ (pw : Addr) (i : Nat) (W us post : List Str), vs = [.ref pw, .int (i : Nat)] ∧ WordsR H pw W ∧ W.drop i = us ++ post ∧ DeedsW us ∧ i + us.length ≤ 100000 ∧ NewPair H (i + us.length) Q
theorem ok_deeds {f f1 : Addr} {fd fd1 : FuncData} (F : Fun K "read_deeds" "read_deeds" s_read_deeds f fd) (T : Tx K mg tk dn md) (Y : Ty K mg nd1 pd al) (D_is_name : Def P w K mg base "is_name" 2 f1 fd1 P_is_name sp_isname) : FnOk P w K mg base CX0 3 f fd P_read_deeds sp_deeds := by
  refine F.ok sc_read_deeds (fun vs H Q E h => ?_) (fun cdv A outer s H vs Q E hr h => ?_)
  · obtain ⟨pw, i, W, us, post, rfl, _⟩ := h
    rfl
  · have nd := sc_read_deeds.nd
    obtain ⟨pw, i, W, us, post, rfl, hW, hd, hD, hul, q⟩ := h
    refine ⟨_, (pss_cons (ps_set (i := 2) nd rfl (.inl rfl) (pe_lst pa_nil))
      (pss_cons (ps_set (i := 3) nd rfl (.inl rfl) pe_bl)
      (pss_cons (ps_while PassesOwn.never (pt_val (pv 3))
        (pss_cons (ps_set (i := 4) nd rfl (.inl rfl) (pe_ix (ixL K) (pv 0) (pv 1) (fun _ _ => rfl)))
        (pss_cons (ps_if (pt_cmpR (oIn K) (pv 4) (pe_glob (v := .ref nd1) (by rfl) Y.m_NAMED_DEEDS rfl) (by rfl))
          (pss_cons (ps_aug (i := 1) nd rfl (.inl rfl) pe_int ip_add)
          (pss_cons (ps_set (i := 5) nd rfl (.inl rfl) (pe_m1 PySem.F.slot_str_removesuffix PySem.F.type_str_removesuffix mt_removesuffix (pe_ix (ixL K) (pv 0) (pv 1) (fun _ _ => rfl)) pe_str))
          (pss_one (ps_if (pt_not (pt_val (pe_def D_is_name (hr.mono (by decide)) (pa_cons (pv 5) pa_nil))))
            (pss_one ps_never)
            pss_nil))))
          (pss_cons (ps_par (i := 4) (j := 5) (by rfl) nd rfl rfl (by decide) rfl rfl (pa_cons (pe_m1 PySem.F.slot_str_removesuffix PySem.F.type_str_removesuffix mt_removesuffix (pv 4) pe_str) (pa_cons pe_non pa_nil)) (by rfl))
          (pss_one (ps_if (pt_cmpR (oNotIn K) (pv 4) (pe_glob (v := .ref pd) (by rfl) Y.m_PLAIN_DEEDS rfl) (by rfl))
            (pss_one ps_never)
            pss_nil))))
        (pss_cons (ps_expr (pe_bm PySem.F.plainAttrs_list PySem.F.slot_list_append PySem.F.type_list_append mt_append (pv 2) (pa_cons (pe_tup (pa_cons (pv 4) (pa_cons (pv 5) pa_nil))) pa_nil)))
        (pss_cons (ps_set (i := 3) nd rfl (.inl rfl) (pe_m1 PySem.F.slot_str_endswith PySem.F.type_str_endswith mt_endswith (pe_ix (ixL K) (pv 0) (pv 1) (fun _ _ => rfl)) pe_str))
        (pss_one (ps_aug (i := 1) nd rfl (.inl rfl) pe_int ip_add)))))))
      (pss_one (ps_ret (pe_tup (pa_cons (pe_callTy call_tuple_of (by rfl) T.n_tuple (by decide +kernel) (pa_cons (pv 2) pa_nil)) (pa_cons (pv 1) pa_nil)))))))), ?_⟩
    dsimp only [tSeq, tAsg, gName]
    refine ⟨Nat.zero_le _, fun o no => ?_⟩
    have s0 := same_upd (o := .lst []) no
    have hfn : (namedDeeds.map V.str).all flatV = true := by decide +kernel
    have hfp : (plainDeeds.map V.str).all flatV = true := by decide +kernel
    have tcm : TL.tl (Str.ofString ",") = [44] := by decide +kernel
    have nl : ∀ z : Str, GoodName (TL.tl z) → z.length ≤ 12 := fun z h => by rw [TL.len_tl]; exact h.2.1
    have cl : ∀ z y : Str, TL.tl y = TL.tl z ++ [44] → y.length = z.length + 1 := fun z y h => by rw [TL.len_tl, h, List.length_append, TL.len_tl z]; rfl
    refine whileN (fun m σ H' => ∃ (j : Nat) (g : Bool) (xs : List V) (y4 y5 : Option V), σ = [some (.ref pw), some (.int (j : Nat)), some (.ref o), some (.bl g), y4, y5] ∧ Same H H' ∧ H' o = some (.lst xs) ∧ xs.length ≤ j ∧ j + m = i + us.length ∧ (g = false → m = 0) ∧ (g = true → ∃ vs, W.drop j = vs ++ post ∧ DeedsW vs ∧ vs.length = m)) ⟨us.length, i, true, [], none, none, rfl, s0, upd_same, Nat.zero_le _, rfl, (fun h => nomatch h), fun _ => ⟨us, hd, hD, rfl⟩⟩ (fun m σ H' hP => ?_)
    obtain ⟨j, g, xs, y4, y5, rfl, sm, eo, hxs, hjm, hg0, hg1⟩ := hP
    have hWj : WordsR H' pw W := sm _ _ hW
    refine ⟨g, fun k q1 => ⟨.bl g, rfl, g, rfl, q1 _ (Same.refl _)⟩, fun hg H1 s1 => ?_, fun hg H1 s1 => ?_⟩
    · obtain ⟨vs, hd, hD, hvl⟩ := hg1 hg
      have hW1 : WordsR H1 pw W := s1 _ _ hWj
      have eo1 := s1 _ _ eo
      have sm1 := sm.trans s1
      have ej : ((j : Nat) : Int) + 1 = ((j + 1 : Nat) : Int) := by omega
      have ej2 : ((j + 1 : Nat) : Int) + 1 = ((j + 2 : Nat) : Int) := by omega
      dsimp only [tSeq, tAsg, gName]
      -- what follows the branches: a deed put behind, whether a comma stands
      have fin : ∀ (H2 : Hp) (a : Nat) (z : Str) (b : Bool) (y5' : V) (m' : Nat), Same H1 H2 → W[a]? = some z → Txt.endswith z (Str.ofString ",") = b → a + 1 + m' = i + us.length → j ≤ a → m' < m → (b = false → m' = 0) → (b = true → ∃ vs, W.drop (a + 1) = vs ++ post ∧ DeedsW vs ∧ vs.length = m') → ∀ (w4 : V) (D : Ends), (D.nx = fun σ' H' => ∃ m', m' < m ∧ ∃ (j : Nat) (g : Bool) (xs : List V) (y4 y5 : Option V), σ' = [some (.ref pw), some (.int (j : Nat)), some (.ref o), some (.bl g), y4, y5] ∧ Same H H' ∧ H' o = some (.lst xs) ∧ xs.length ≤ j ∧ j + m' = i + us.length ∧ (g = false → m' = 0) ∧ (g = true → ∃ vs, W.drop j = vs ++ post ∧ DeedsW vs ∧ vs.length = m')) →
          tSeq (tDrop (tBM K "list" rAppend (tVar 2) (tCons (tTup (tCons (tVar 4) (tCons (tVar 5) tNil))) tNil))) (tSeq (tAsg (tM1 (fun x xs H Q => ∃ a b, x = V.str a ∧ xs = [V.str b] ∧ Q (V.bl (Txt.endswith a b)) H) (tOp (rIxL K) (tVar 0) (tVar 1)) (tC (V.str (Str.ofString ",")))) (gName 3)) (tAug 1 (tC (V.int 1)) (ipI fun i j => i + j))) D [some (.ref pw), some (.int (a : Nat)), some (.ref o), some (.bl g), some w4, some y5'] H2 := fun H2 a z b y5' m' s2 hz hb hm1 hja hmm h0 h1 w4 D hD' => by
        dsimp only [tSeq, tAsg, gName]
        have eo2 := s2 _ _ eo1
        refine ⟨.ref o, rfl, .inl ⟨rfl, _, .inl (.inl eo2)⟩, _, rfl, _, rfl, by show 2 ≤ _; rw [sizeLine_eq]; omega, fun t nt => ?_⟩
        have st := same_upd (o := .tup [w4, y5']) nt
        have eo3 := st _ _ eo2
        refine ⟨o, _, _, rfl, rfl, eo3, by rw [sizeLine_eq]; omega, ?_⟩
        have hWo : pw ≠ o := fun e => by rw [e] at hW; rw [WordsR, no] at hW; exact nomatch hW
        refine ⟨.ref pw, rfl, _, rfl, pw, _, _, _, rfl, rfl, .inl (.inl (by rw [upd_ne hWo]; exact st _ _ (s2 _ _ hW1))), word_at hz, ⟨_, rfl⟩, _, _, rfl, rfl, ?_⟩
        rw [hb]
        refine ⟨_, rfl, _, _, rfl, rfl, ?_⟩
        rw [hD']
        refine ⟨m', hmm, a + 1, b, xs ++ [.ref t], some w4, some y5', rfl, fun c x hc => ?_, upd_same, by rw [List.length_append, List.length_singleton]; omega, hm1, h0, h1⟩
        rw [upd_ne (ne_of_none hc no)]
        exact st _ _ (s2 _ _ (sm1 _ _ hc))
      have at0 : ∀ w, vs[0]? = some w → W[j]? = some w := fun w h => drop_at (j := 0) hd (by rw [List.getElem?_append_left (by have := (List.getElem?_eq_some_iff.mp h).1; exact this)]; exact h)
      have at1 : ∀ w, vs[1]? = some w → W[j + 1]? = some w := fun w h => drop_at (j := 1) hd (by rw [List.getElem?_append_left (by have := (List.getElem?_eq_some_iff.mp h).1; exact this)]; exact h)
      cases hD with
      | named1 w z hw hz =>
        have hw1 := at0 w rfl
        have hz1 := at1 z rfl
        obtain rfl : 2 = m := hvl
        refine ⟨.ref pw, rfl, _, rfl, pw, _, _, _, rfl, rfl, .inl (.inl hW1), word_at hw1, ?_⟩
        refine ifT true (fun k q1 => ⟨_, rfl, nd1, _, rfl, .inr (Y.t_NAMED_DEEDS _), rfl, hfn, _, rfl, TellB.eq (named_in hw).1 q1 _ (Same.refl _)⟩) (fun _ H2 s2 => ?_) (fun h => nomatch h)
        dsimp only [tSeq, tAsg, gName]
        refine ⟨_, rfl, _, _, rfl, rfl, .ref pw, rfl, _, rfl, pw, _, ((j + 1 : Nat) : Int), _, rfl, rfl, .inl (.inl (s2 _ _ hW1)), word_at hz1, ⟨_, rfl⟩, _, _, rfl, rfl, by rw [sizeLine_eq]; have := nl z hz; omega, ?_⟩
        rw [rmsuffix_no z _ 44 tcm (name_last hz)]
        dsimp only [gName]
        refine ifT false (fun k q1 => notT true (fun k q2 => ⟨_, rfl, z, rfl, hz, fun H3 s3 => ⟨true, rfl, q2 _ s3⟩⟩) q1) (fun h => nomatch h) (fun _ H3 s3 => ?_)
        exact fin H3 (j + 1) z false (.str z) 0 (s2.trans s3) hz1 (by rw [ends_one _ _ 44 tcm, decide_eq_false (name_last hz)]) (by omega) (by omega) (by omega) (fun _ => rfl) (fun h => nomatch h) (.str w) _ rfl
      | namedM w z y r hw hz hy hr =>
        have hw1 := at0 w rfl
        have hy1 := at1 y rfl
        rw [List.length_cons, List.length_cons] at hvl
        have hyl := cl z y hy
        have hdr : W.drop (j + 1 + 1) = r ++ post := by
          have := congrArg (List.drop 2) hd
          rw [List.drop_drop] at this
          exact this
        refine ⟨.ref pw, rfl, _, rfl, pw, _, _, _, rfl, rfl, .inl (.inl hW1), word_at hw1, ?_⟩
        refine ifT true (fun k q1 => ⟨_, rfl, nd1, _, rfl, .inr (Y.t_NAMED_DEEDS _), rfl, hfn, _, rfl, TellB.eq (named_in hw).1 q1 _ (Same.refl _)⟩) (fun _ H2 s2 => ?_) (fun h => nomatch h)
        dsimp only [tSeq, tAsg, gName]
        refine ⟨_, rfl, _, _, rfl, rfl, .ref pw, rfl, _, rfl, pw, _, ((j + 1 : Nat) : Int), _, rfl, rfl, .inl (.inl (s2 _ _ hW1)), word_at hy1, ⟨_, rfl⟩, _, _, rfl, rfl, by rw [sizeLine_eq]; have := nl z hz; omega, ?_⟩
        rw [rmsuffix_yes y _ z 44 tcm hy]
        dsimp only [gName]
        refine ifT false (fun k q1 => notT true (fun k q2 => ⟨_, rfl, z, rfl, hz, fun H3 s3 => ⟨true, rfl, q2 _ s3⟩⟩) q1) (fun h => nomatch h) (fun _ H3 s3 => ?_)
        exact fin H3 (j + 1) y true (.str z) r.length (s2.trans s3) hy1 (by rw [ends_one _ _ 44 tcm, hy, List.getLast?_concat, decide_eq_true rfl]) (by omega) (by omega) (by omega) (fun h => nomatch h) (fun _ => ⟨r, hdr, hr, rfl⟩) (.str w) _ rfl
      | plain1 w hw =>
        have hw1 := at0 w rfl
        obtain rfl : 1 = m := hvl
        have hp := plain_in hw
        refine ⟨.ref pw, rfl, _, rfl, pw, _, _, _, rfl, rfl, .inl (.inl hW1), word_at hw1, ?_⟩
        refine ifT false (fun k q1 => ⟨_, rfl, nd1, _, rfl, .inr (Y.t_NAMED_DEEDS _), rfl, hfn, _, rfl, TellB.eq hp.1 q1 _ (Same.refl _)⟩) (fun h => nomatch h) (fun _ H2 s2 => ?_)
        dsimp only [tSeq, tAsg, gName]
        refine ⟨_, rfl, ⟨_, rfl⟩, _, _, rfl, rfl, by rw [sizeLine_eq]; have := hp.2.2.1; omega, ?_⟩
        rw [rmsuffix_no w _ 44 tcm hp.2.2.2]
        refine ⟨_, _, rfl, ?_⟩
        dsimp only
        refine ifT false (fun k q1 => ⟨_, rfl, pd, _, rfl, .inr (Y.t_PLAIN_DEEDS _), rfl, hfp, _, rfl, TellB.eq (by rw [if_pos rfl, hp.2.1]; rfl) q1 _ (Same.refl _)⟩) (fun h => nomatch h) (fun _ H3 s3 => ?_)
        exact fin H3 j w false .non 0 (s2.trans s3) hw1 (by rw [ends_one _ _ 44 tcm, decide_eq_false hp.2.2.2]) (by omega) (by omega) (by omega) (fun _ => rfl) (fun h => nomatch h) (.str w) _ rfl
      | plainM w y r hw hy hr =>
        have hy1 := at0 y rfl
        rw [List.length_cons] at hvl
        have hp := plain_in hw
        have hpc := plain_comma hw hy
        have hdr : W.drop (j + 1) = r ++ post := by
          have := congrArg (List.drop 1) hd
          rw [List.drop_drop] at this
          exact this
        refine ⟨.ref pw, rfl, _, rfl, pw, _, _, _, rfl, rfl, .inl (.inl hW1), word_at hy1, ?_⟩
        refine ifT false (fun k q1 => ⟨_, rfl, nd1, _, rfl, .inr (Y.t_NAMED_DEEDS _), rfl, hfn, _, rfl, TellB.eq hpc.1 q1 _ (Same.refl _)⟩) (fun h => nomatch h) (fun _ H2 s2 => ?_)
        dsimp only [tSeq, tAsg, gName]
        refine ⟨_, rfl, ⟨_, rfl⟩, _, _, rfl, rfl, by rw [sizeLine_eq]; have := hpc.2; omega, ?_⟩
        rw [rmsuffix_yes y _ w 44 tcm hy]
        refine ⟨_, _, rfl, ?_⟩
        dsimp only
        refine ifT false (fun k q1 => ⟨_, rfl, pd, _, rfl, .inr (Y.t_PLAIN_DEEDS _), rfl, hfp, _, rfl, TellB.eq (by rw [if_pos rfl, hp.2.1]; rfl) q1 _ (Same.refl _)⟩) (fun h => nomatch h) (fun _ H3 s3 => ?_)
        exact fin H3 j y true .non r.length (s2.trans s3) hy1 (by rw [ends_one _ _ 44 tcm, hy, List.getLast?_concat, decide_eq_true rfl]) (by omega) (by omega) (by omega) (fun h => nomatch h) (fun _ => ⟨r, hdr, hr, rfl⟩) (.str w) _ rfl
    · have hm0 := hg0 hg
      refine ⟨.ref o, rfl, o, xs, rfl, .inl ⟨.inl (.inl (s1 _ _ eo)), fun p np => ⟨_, rfl, by show 2 ≤ _; rw [sizeLine_eq]; omega, fun p2 np2 => ?_⟩⟩⟩
      have sA := sm.trans (s1.trans (same_upd (o := .tup xs) np))
      refine q _ p2 (.ref p) (sA.trans (same_upd np2)) (sA.free np2) ?_
      rw [upd_same, show i + us.length = j by omega]
end
end K31

namespace K31
open PySem PySem.Spec PyProof.Rows L2 LH
/-! ### facts, word by word -/
def dayS (y m d : Nat) : Str := dayNames.getD (dayNo y m d % 7).toNat Str.empty
def clockL (l : Nat) : List Nat := two (l / 60) ++ [58] ++ two (l % 60)
def TimeW (us : List Str) : Prop := ∃ (y m d l : Nat) (a : Int), Date y m d ∧ l < 1440 ∧ a.natAbs ≤ 840 ∧ us = [SX.S (dateL y m d), dayS y m d, SX.S (clockL l), SX.S (aheadL a)]
def wd (s : String) : Str := Str.ofString s
def PlainW (F : List Str → Prop) (us : List Str) : Prop :=
  us = [Str.ofString "always"] ∨ (∃ w z, us = [w, z] ∧ (w = Str.ofString "about" ∨ w = Str.ofString "marked") ∧ GoodName (TL.tl z)) ∨ (∃ w z, us = [w, z] ∧ (w = Str.ofString "from" ∨ w = Str.ofString "to") ∧ GoodAddr (TL.tl z)) ∨
  (∃ ts, us = Str.ofString "before" :: ts ∧ TimeW ts) ∨ ∃ fs, us = Str.ofString "(" :: (fs ++ [Str.ofString ")"]) ∧ F fs
def FactW (P : List Str → Prop) (us : List Str) : Prop := ∃ (n : Nat) (ps : List Str), n ≤ 4 ∧ us = List.replicate n (Str.ofString "not") ++ ps ∧ P ps
inductive SeqW (P : List Str → Prop) : List Str → Prop
  | one (us : List Str) : P us → SeqW P us
  | more (us : List Str) (c : Str) (r : List Str) : P us → (c = Str.ofString "and" ∨ c = Str.ofString "or") → SeqW P r → SeqW P (us ++ c :: r)
def FactsD : Nat → List Str → Prop
  | 0 => fun _ => False
  | d + 1 => SeqW (FactW (PlainW (FactsD d)))
def sp_plainF (F : List Str → Prop) (b : Nat) : Sp := fun vs H Q _ => ∃ (pw : Addr) (i : Nat) (W us post : List Str), vs = [.ref pw, .int (i : Nat), .int (b : Nat)] ∧ WordsR H pw W ∧ W.drop i = us ++ post ∧ PlainW F us ∧ i + us.length ≤ 100000 ∧ NewPair H (i + us.length) Q
def sp_factF (F : List Str → Prop) (b : Nat) : Sp := fun vs H Q _ => ∃ (pw : Addr) (i : Nat) (W us post : List Str), vs = [.ref pw, .int (i : Nat), .int (b : Nat)] ∧ WordsR H pw W ∧ W.drop i = us ++ post ∧ FactW (PlainW F) us ∧ i + us.length ≤ 100000 ∧ NewPair H (i + us.length) Q
def sp_factsF (F : List Str → Prop) (b : Nat) : Sp := fun vs H Q _ => ∃ (pw : Addr) (i : Nat) (W us : List Str) (p0 : Str) (post : List Str), vs = [.ref pw, .int (i : Nat), .int (b : Nat)] ∧ WordsR H pw W ∧ W.drop i = us ++ p0 :: post ∧ p0 ≠ Str.ofString "and" ∧ p0 ≠ Str.ofString "or" ∧ F us ∧ i + us.length ≤ 100000 ∧ NewPair H (i + us.length) Q
theorem fn_empty {P : Program} {w : World} {K : PySem.W.Frag} {mg : Str → Option Value} {base : Heap} {CX : CXT} {k : Nat} {f : Addr} {fd : FuncData} {ps : List Str} {sp : Sp} (h : ∀ vs H Q E, ¬ sp vs H Q E) : FnOk P w K mg base CX k f fd ps sp :=
  ⟨fun _ _ _ _ x => (h _ _ _ _ x).elim, fun _ _ _ _ _ _ _ _ _ _ _ _ _ x => (h _ _ _ _ x).elim⟩
section
variable {P : Program} {w : World} {K : PySem.W.Frag} {mg : Str → Option Value} {base : Heap} {tk : Nat → Tok} {ca : Nat → Addr} {dn md nd1 pd al C : Addr}
/-! ### read_minute -/
abbrev s_read_minute : Stmt := topS 55
abbrev N_read_minute : List Str := ["words", "at", "day", "clock"]
abbrev P_read_minute : List Str := ["words", "at"]
theorem sc_read_minute : FnScope N_read_minute ["words", "at"] (defScope s_read_minute) := ⟨rfl, rfl, rfl, by decide +kernel, rfl, by decide +kernel, by decide +kernel⟩
def sp_minute : Sp := fun vs H Q _ => ∃ (pw : Addr) (i : Nat) (W us post : List Str), vs = [.ref pw, .int (i : Nat)] ∧ WordsR H pw W ∧ W.drop i = us ++ post ∧ TimeW us ∧ ∀ n : Int, Tell H (.int n) Q
theorem ok_minute {f f1 f2 f3 f4 f5 : Addr} {fd fd1 fd2 fd3 fd4 fd5 : FuncData} (F : Fun K "read_minute" "read_minute" s_read_minute f fd) (T : Tx K mg tk dn md) (D_read_whole : Def P w K mg base "read_whole" 5 f1 fd1 P_read_whole (sp_whole P w K mg base C 4)) (D_read_day : Def P w K mg base "read_day" 4 f2 fd2 P_read_day (sp_readday C)) (D_read_clock : Def P w K mg base "read_clock" 4 f3 fd3 P_read_clock (sp_readclock C)) (D_read_ahead : Def P w K mg base "read_ahead" 4 f4 fd4 P_read_ahead (sp_readahead C)) (D_day_name : Def P w K mg base "day_name" 1 f5 fd5 P_day_name sp_dayname) : FnOk P w K mg base CX0 6 f fd P_read_minute sp_minute := by
  refine F.ok sc_read_minute (fun vs H Q E h => ?_) (fun cdv A outer s H vs Q E hr h => ?_)
  · obtain ⟨pw, i, W, us, post, rfl, _⟩ := h
    rfl
  · have nd := sc_read_minute.nd
    obtain ⟨pw, i, W, us, post, rfl, hW, hd, ⟨y, m, d, l, a, hD, hl, ha, rfl⟩, q⟩ := h
    refine ⟨_, (pss_cons (ps_set (i := 2) nd rfl (.inl rfl) (pe_def D_read_whole (hr.mono (by decide)) (pa_cons (pe_glob (v := .ref _) (by rfl) D_read_day.mg rfl) (pa_cons (pv 0) (pa_cons (pv 1) pa_nil)))))
      (pss_cons (ps_if (pt_cmpR op_ne (pe_ix (ixL K) (pv 0) (pe_op op_add (pv 1) pe_int) (fun _ _ => rfl)) (pe_def D_day_name (hr.mono (by decide)) (pa_cons (pv 2) pa_nil)) (nomark _))
        (pss_one ps_never)
        pss_nil)
      (pss_cons (ps_set (i := 3) nd rfl (.inl rfl) (pe_def D_read_whole (hr.mono (by decide)) (pa_cons (pe_glob (v := .ref _) (by rfl) D_read_clock.mg rfl) (pa_cons (pv 0) (pa_cons (pe_op op_add (pv 1) pe_int) pa_nil)))))
      (pss_one (ps_ret (pe_op op_sub (pe_op op_add (pe_op op_mul (pv 2) (pe_glob (v := .int 1440) (by rfl) T.m_DAY_MINUTES ⟨_, rfl⟩)) (pv 3)) (pe_def D_read_whole (hr.mono (by decide)) (pa_cons (pe_glob (v := .ref _) (by rfl) D_read_ahead.mg rfl) (pa_cons (pv 0) (pa_cons (pe_op op_add (pv 1) pe_int) pa_nil)))))))))), ?_⟩
    dsimp only [tSeq, tAsg, gName]
    have e1 : ((i : Nat) : Int) + 1 = ((i + 1 : Nat) : Int) := by omega
    have e2 : ((i : Nat) : Int) + 2 = ((i + 2 : Nat) : Int) := by omega
    have e3 : ((i : Nat) : Int) + 3 = ((i + 3 : Nat) : Int) := by omega
    have w0 := drop_at (j := 0) hd rfl
    have w1 := drop_at (j := 1) hd rfl
    have w2 := drop_at (j := 2) hd rfl
    have w3 := drop_at (j := 3) hd rfl
    have sl : ∀ l : List Nat, (SX.S l).length = l.length := fun l => mk_len l
    have r1 : ReadsW C (sp_readday C) (SX.S (dateL y m d)) (.int (dayNo y m d)) := fun H a dx Q e q => ⟨a, dx, _, y, m, d, [], rfl, e, by rw [sl]; show 10 ≤ 100000; decide, by rw [List.append_nil], hD, q⟩
    have r2 : ReadsW C (sp_readclock C) (SX.S (clockL l)) (.int (l : Nat)) := fun H a dx Q e q => ⟨a, dx, _, 0, l, [], rfl, e, by rw [sl]; show 5 ≤ 100000; decide, by rw [List.append_nil]; rfl, hl, q⟩
    have r3 : ReadsW C (sp_readahead C) (SX.S (aheadL a)) (.int a) := fun H a' dx Q e q => ⟨a', dx, _, 0, a, [], rfl, e, by rw [sl]; show 5 ≤ 100000; decide, by rw [List.append_nil]; rfl, ha, q⟩
    refine ⟨.ref pw, rfl, .int (i : Nat), rfl, f2, pw, i, _, W, _, _, rfl, FnV.of D_read_day, hW, w0, by rw [sl]; show 10 ≤ 1000; decide, r1, fun H1 s1 => ?_⟩
    refine ifT false (fun k q1 => ⟨.ref pw, rfl, _, rfl, _, 1, rfl, rfl, pw, _, ((i + 1 : Nat) : Int), _, rfl, rfl, .inl (.inl (s1 _ _ hW)), word_at w1, _, rfl, _, rfl, fun H2 s2 => ⟨rfl, _, rfl, TellB.eq (by rw [show dayS y m d = dayNames.getD (dayNo y m d % 7).toNat Str.empty from rfl, decide_eq_true rfl]; rfl) q1 _ s2⟩⟩) (fun h => nomatch h) (fun _ H2 s2 => ?_)
    dsimp only [tNext, tSeq, tAsg, gName]
    have s12 := s1.trans s2
    refine ⟨.ref pw, rfl, _, rfl, _, 2, rfl, rfl, f3, pw, i + 2, _, W, _, _, rfl, FnV.of D_read_clock, s12 _ _ hW, w2, by rw [sl]; show 5 ≤ 1000; decide, r2, fun H3 s3 => ?_⟩
    refine ⟨_, rfl, _, 1440, rfl, rfl, .inr ⟨by decide, by decide⟩, _, rfl, _, _, rfl, rfl, .ref pw, rfl, _, rfl, _, 3, rfl, rfl, f4, pw, i + 3, _, W, _, _, rfl, FnV.of D_read_ahead, s3 _ _ (s12 _ _ hW), w3, by rw [sl]; show 5 ≤ 1000; decide, r3, fun H4 s4 => ⟨_, _, rfl, rfl, q _ _ (s12.trans (s3.trans s4))⟩⟩
/-! ### read_plain_fact -/
abbrev s_read_plain_fact : Stmt := topS 54
abbrev N_read_plain_fact : List Str := ["words", "at", "brackets", "word", "facts"]
abbrev P_read_plain_fact : List Str := ["words", "at", "brackets"]
theorem sc_read_plain_fact : FnScope N_read_plain_fact ["words", "at", "brackets"] (defScope s_read_plain_fact) := ⟨rfl, rfl, rfl, by decide +kernel, rfl, by decide +kernel, by decide +kernel⟩
theorem ok_plain {k b : Nat} {Fp : List Str → Prop} {f f1 f2 f3 f4 : Addr} {fd fd1 fd2 fd3 fd4 : FuncData} (hk : 6 ≤ k) (hb : b ≤ 4) (h4 : b = 4 → ∀ us, ¬ Fp us) (F : Fun K "read_plain_fact" "read_plain_fact" s_read_plain_fact f fd) (T : Tx K mg tk dn md) (Y : Ty K mg nd1 pd al) (D_is_name : Def P w K mg base "is_name" 2 f1 fd1 P_is_name sp_isname) (D_is_address : Def P w K mg base "is_address" 2 f2 fd2 P_is_address sp_isaddr) (D_read_minute : Def P w K mg base "read_minute" 6 f3 fd3 P_read_minute sp_minute) (D_read_facts : Def P w K mg base "read_facts" k f4 fd4 ["words", "at", "brackets"] (sp_factsF Fp (b + 1))) : FnOk P w K mg base CX0 (k + 1) f fd P_read_plain_fact (sp_plainF Fp b) := by
  refine F.ok sc_read_plain_fact (fun vs H Q E h => ?_) (fun cdv A outer s H vs Q E hr h => ?_)
  · obtain ⟨pw, i, W, us, post, rfl, _⟩ := h
    rfl
  · have nd := sc_read_plain_fact.nd
    obtain ⟨pw, i, W, us, post, rfl, hW, hd, hP, hl, q⟩ := h
    refine ⟨_, (pss_cons (ps_set (i := 3) nd rfl (.inl rfl) (pe_ix (ixL K) (pv 0) (pv 1) (fun _ _ => rfl)))
      (pss_cons (ps_match (pv 3) (pm_lit pl_str (pss_one (ps_ret (pe_tup (pa_cons (pe_glob (v := .ref al) (by rfl) Y.m_ALWAYS rfl) (pa_cons (pe_op op_add (pv 1) pe_int) pa_nil)))))
        (pm_lit (pl_or (pls_cons pl_str (pls_cons pl_str pls_nil))) (pss_one (ps_if (pt_not (pt_val (pe_def D_is_name (hr.mono (by omega)) (pa_cons (pe_ix (ixL K) (pv 0) (pe_op op_add (pv 1) pe_int) (fun _ _ => rfl)) pa_nil))))
          (pss_one ps_never)
          pss_nil))
        (pm_lit (pl_or (pls_cons pl_str (pls_cons pl_str pls_nil))) (pss_one (ps_if (pt_not (pt_val (pe_def D_is_address (hr.mono (by omega)) (pa_cons (pe_ix (ixL K) (pv 0) (pe_op op_add (pv 1) pe_int) (fun _ _ => rfl)) pa_nil))))
          (pss_one ps_never)
          pss_nil))
        (pm_lit pl_str (pss_one (ps_ret (pe_tup (pa_cons (pe_tup (pa_cons (pv 3) (pa_cons (pe_def D_read_minute (hr.mono (by omega)) (pa_cons (pv 0) (pa_cons (pe_op op_add (pv 1) pe_int) pa_nil))) pa_nil))) (pa_cons (pe_op op_add (pv 1) pe_int) pa_nil)))))
        (pm_litG pl_str (pt_cmpR op_lt (pv 2) (pe_glob (v := .int 4) (by rfl) T.m_MOST_BRACKETS ⟨_, rfl⟩) (nomark _)) (pss_cons (ps_asg (pe_def D_read_facts (hr.mono (by omega)) (pa_cons (pv 0) (pa_cons (pe_op op_add (pv 1) pe_int) (pa_cons (pe_op op_add (pv 2) pe_int) pa_nil)))) (pg_tup rfl (pgs_cons (pg_name (i := 4) nd rfl (Or.inl rfl)) (pgs_cons (pg_name (i := 1) nd rfl (Or.inl rfl)) pgs_nil))))
        (pss_cons (ps_if (pt_cmpR op_ne (pe_ix (ixL K) (pv 0) (pv 1) (fun _ _ => rfl)) pe_str (nomark _))
          (pss_one ps_never)
          pss_nil)
        (pss_one (ps_ret (pe_tup (pa_cons (pv 4) (pa_cons (pe_op op_add (pv 1) pe_int) pa_nil)))))))
        (pm_any (pss_one ps_never))))))))
      (pss_one (ps_ret (pe_tup (pa_cons (pe_tup (pa_cons (pv 3) (pa_cons (pe_ix (ixL K) (pv 0) (pe_op op_add (pv 1) pe_int) (fun _ _ => rfl)) pa_nil))) (pa_cons (pe_op op_add (pv 1) pe_int) pa_nil))))))), ?_⟩
    dsimp only [tSeq, tAsg, gName]
    have n2 : 2 ≤ sizeLine := by rw [sizeLine_eq]; omega
    have first : ∀ z r, us = z :: r → W[i]? = some z := fun z r h => drop_at (j := 0) hd (by rw [h]; rfl)
    have second : ∀ z y r, us = z :: y :: r → W[i + 1]? = some y := fun z y r h => drop_at (j := 1) hd (by rw [h]; rfl)
    rcases hP with rfl | ⟨z, y, rfl, hz, hy⟩ | ⟨z, y, rfl, hz, hy⟩ | ⟨ts, rfl, ht⟩ | ⟨fs, rfl, hf⟩
    · refine ⟨.ref pw, rfl, _, rfl, pw, _, _, _, rfl, rfl, .inl (.inl hW), word_at (first _ _ rfl), _, rfl, mLit_hit (by simp) ?_⟩
      exact ⟨_, rfl, _, 1, rfl, rfl, n2, fun t nt => q _ t (.ref al) (same_upd nt) nt upd_same⟩
    · refine ⟨.ref pw, rfl, _, rfl, pw, _, _, _, rfl, rfl, .inl (.inl hW), word_at (first _ _ rfl), _, rfl, mLit_miss (by rcases hz with rfl | rfl <;> decide +kernel) (mLit_hit (by rcases hz with rfl | rfl <;> simp) ?_)⟩
      refine ifT false (fun k q1 => notT true (fun k q2 => ⟨.ref pw, rfl, _, rfl, _, 1, rfl, rfl, pw, _, ((i + 1 : Nat) : Int), _, rfl, rfl, .inl (.inl hW), word_at (second _ _ _ rfl), y, rfl, hy, fun H1 s1 => ⟨true, rfl, q2 _ s1⟩⟩) q1) (fun h => nomatch h) (fun _ H1 s1 => ?_)
      exact ⟨_, rfl, .ref pw, rfl, _, rfl, _, 1, rfl, rfl, pw, _, ((i + 1 : Nat) : Int), _, rfl, rfl, .inl (.inl (s1 _ _ hW)), word_at (second _ _ _ rfl), n2, fun t1 n1 => ⟨_, rfl, _, 2, rfl, rfl, n2, fun t nt => q _ t (.ref t1) (s1.trans ((same_upd n1).trans (same_upd nt))) ((s1.trans (same_upd n1)).free nt) upd_same⟩⟩
    · refine ⟨.ref pw, rfl, _, rfl, pw, _, _, _, rfl, rfl, .inl (.inl hW), word_at (first _ _ rfl), _, rfl, mLit_miss (by rcases hz with rfl | rfl <;> decide +kernel) (mLit_miss (by rcases hz with rfl | rfl <;> decide +kernel) (mLit_hit (by rcases hz with rfl | rfl <;> simp) ?_))⟩
      refine ifT false (fun k q1 => notT true (fun k q2 => ⟨.ref pw, rfl, _, rfl, _, 1, rfl, rfl, pw, _, ((i + 1 : Nat) : Int), _, rfl, rfl, .inl (.inl hW), word_at (second _ _ _ rfl), y, rfl, hy, fun H1 s1 => ⟨true, rfl, q2 _ s1⟩⟩) q1) (fun h => nomatch h) (fun _ H1 s1 => ?_)
      exact ⟨_, rfl, .ref pw, rfl, _, rfl, _, 1, rfl, rfl, pw, _, ((i + 1 : Nat) : Int), _, rfl, rfl, .inl (.inl (s1 _ _ hW)), word_at (second _ _ _ rfl), n2, fun t1 n1 => ⟨_, rfl, _, 2, rfl, rfl, n2, fun t nt => q _ t (.ref t1) (s1.trans ((same_upd n1).trans (same_upd nt))) ((s1.trans (same_upd n1)).free nt) upd_same⟩⟩
    · have htl : ts.length = 4 := by obtain ⟨_, _, _, _, _, _, _, _, rfl⟩ := ht; rfl
      have hd1 : W.drop (i + 1) = ts ++ post := by rw [← List.drop_drop, hd]; rfl
      refine ⟨.ref pw, rfl, _, rfl, pw, _, _, _, rfl, rfl, .inl (.inl hW), word_at (first _ _ rfl), _, rfl, mLit_miss (by decide +kernel) (mLit_miss (by decide +kernel) (mLit_miss (by decide +kernel) (mLit_hit (by simp) ?_)))⟩
      refine ⟨_, rfl, .ref pw, rfl, _, rfl, _, 1, rfl, rfl, pw, i + 1, W, ts, post, rfl, hW, hd1, ht, fun n H1 s1 => ⟨n2, fun t1 n1 => ⟨_, rfl, _, 5, rfl, rfl, n2, fun t nt => q _ t (.ref t1) (s1.trans ((same_upd n1).trans (same_upd nt))) ((s1.trans (same_upd n1)).free nt) ?_⟩⟩⟩
      rw [upd_same, List.length_cons, htl]
      rfl
    · have hb4 : b < 4 := by
        apply Classical.byContradiction
        intro hn
        exact h4 (by omega) fs hf
      have hd1 : W.drop (i + 1) = fs ++ Str.ofString ")" :: post := by
        rw [← List.drop_drop, hd, List.cons_append, List.append_assoc]
        rfl
      have hul : (Str.ofString "(" :: (fs ++ [Str.ofString ")"])).length = fs.length + 2 := by rw [List.length_cons, List.length_append]; rfl
      rw [hul] at hl q
      have hcl : W[i + 1 + fs.length]? = some (Str.ofString ")") := drop_at (us := fs) hd1 (by rw [List.getElem?_append_right (Nat.le_refl _), Nat.sub_self]; rfl)
      refine ⟨.ref pw, rfl, _, rfl, pw, _, _, _, rfl, rfl, .inl (.inl hW), word_at (first _ _ rfl), _, rfl, mLit_miss (by decide +kernel) (mLit_miss (by decide +kernel) (mLit_miss (by decide +kernel) (mLit_miss (by decide +kernel) (mLitG_hit (by simp) ?_))))⟩
      refine ⟨_, rfl, _, 4, rfl, rfl, _, rfl, ?_⟩
      rw [decide_eq_true (by omega)]
      refine iteT ?_
      dsimp only [tSeq, tAsg, gName]
      refine ⟨.ref pw, rfl, _, rfl, _, 1, rfl, rfl, _, rfl, _, 1, rfl, rfl, pw, i + 1, W, fs, Str.ofString ")", post, rfl, hW, hd1, by decide +kernel, by decide +kernel, hf, by omega, fun H2 p2 x s2 n2' e2 => ⟨p2, _, rfl, .inl (.inl e2), rfl, _, _, rfl, _, _, rfl, rfl, ?_⟩⟩
      dsimp only [tSeq]
      refine ifT false (fun k q1 => ⟨.ref pw, rfl, _, rfl, pw, _, _, _, rfl, rfl, .inl (.inl (s2 _ _ hW)), word_at hcl, rfl, _, rfl, TellB.eq (by rw [decide_eq_true rfl]; rfl) q1 _ (Same.refl _)⟩) (fun h => nomatch h) (fun _ H3 s3 => ?_)
      refine ⟨_, rfl, _, rfl, _, 1, rfl, rfl, n2, fun t nt => q _ t x (s2.trans (s3.trans (same_upd nt))) ((s2.trans s3).free nt) ?_⟩
      rw [upd_same]
      exact congrArg (fun n : Nat => some (HO.tup [x, V.int (n : Int)])) (by omega : i + 1 + fs.length + 1 = i + (fs.length + 2))
end
end K31

namespace K31
open PySem PySem.Spec PyProof.Rows L2 LH
/-! ### facts with nots, terms, all of them -/
theorem plain_head {F : List Str → Prop} {us : List Str} (h : PlainW F us) : ∃ z r, us = z :: r ∧ z ≠ Str.ofString "not" := by
  rcases h with rfl | ⟨z, y, rfl, hz, _⟩ | ⟨z, y, rfl, hz, _⟩ | ⟨ts, rfl, _⟩ | ⟨fs, rfl, _⟩
  · exact ⟨_, _, rfl, by decide +kernel⟩
  · exact ⟨_, _, rfl, by rcases hz with rfl | rfl <;> decide +kernel⟩
  · exact ⟨_, _, rfl, by rcases hz with rfl | rfl <;> decide +kernel⟩
  · exact ⟨_, _, rfl, by decide +kernel⟩
  · exact ⟨_, _, rfl, by decide +kernel⟩
section
variable {P : Program} {w : World} {K : PySem.W.Frag} {mg : Str → Option Value} {base : Heap} {tk : Nat → Tok} {ca : Nat → Addr} {dn md nd1 pd al C : Addr}
/-! ### read_fact -/
abbrev s_read_fact : Stmt := topS 53
abbrev N_read_fact : List Str := ["words", "at", "brackets", "nots", "fact"]
abbrev P_read_fact : List Str := ["words", "at", "brackets"]
theorem sc_read_fact : FnScope N_read_fact ["words", "at", "brackets"] (defScope s_read_fact) := ⟨rfl, rfl, rfl, by decide +kernel, rfl, by decide +kernel, by decide +kernel⟩
theorem ok_fact {k b : Nat} {Fp : List Str → Prop} {f f1 : Addr} {fd fd1 : FuncData} (F : Fun K "read_fact" "read_fact" s_read_fact f fd) (T : Tx K mg tk dn md) (D_read_plain_fact : Def P w K mg base "read_plain_fact" k f1 fd1 ["words", "at", "brackets"] (sp_plainF Fp b)) : FnOk P w K mg base CX0 (k + 1) f fd P_read_fact (sp_factF Fp b) := by
  refine F.ok sc_read_fact (fun vs H Q E h => ?_) (fun cdv A outer s H vs Q E hr h => ?_)
  · obtain ⟨pw, i, W, us, post, rfl, _⟩ := h
    rfl
  · have nd := sc_read_fact.nd
    obtain ⟨pw, i, W, us, post, rfl, hW, hd, hP, hl, q⟩ := h
    refine ⟨_, (pss_cons (ps_set (i := 3) nd rfl (.inl rfl) pe_int)
      (pss_cons (ps_while PassesOwn.never (PW.pt (pw_and (pt_cmpR op_eq (pe_ix (ixL K) (pv 0) (pv 1) (fun _ _ => rfl)) pe_str (nomark _)) (pw_and1 (pt_cmpR op_lt (pv 3) (pe_glob (v := .int 4) (by rfl) T.m_MOST_NOTS ⟨_, rfl⟩) (nomark _)))))
        (pss_cons (ps_aug (i := 3) nd rfl (.inl rfl) pe_int ip_add)
        (pss_one (ps_aug (i := 1) nd rfl (.inl rfl) pe_int ip_add))))
      (pss_cons (ps_asg (pe_def D_read_plain_fact (hr.mono (by omega)) (pa_cons (pv 0) (pa_cons (pv 1) (pa_cons (pv 2) pa_nil)))) (pg_tup rfl (pgs_cons (pg_name (i := 4) nd rfl (Or.inl rfl)) (pgs_cons (pg_name (i := 1) nd rfl (Or.inl rfl)) pgs_nil))))
      (pss_cons (ps_while PassesOwn.never (pt_cmpR op_gt (pv 3) pe_int (nomark _))
        (pss_cons (ps_set (i := 4) nd rfl (.inl rfl) (pe_tup (pa_cons pe_str (pa_cons (pv 4) pa_nil))))
        (pss_one (ps_aug (i := 3) nd rfl (.inl rfl) pe_int ip_sub))))
      (pss_one (ps_ret (pe_tup (pa_cons (pv 4) (pa_cons (pv 1) pa_nil))))))))), ?_⟩
    dsimp only [tSeq, tAsg, gName]
    obtain ⟨n, ps, hn, rfl, hp⟩ := hP
    have n2 : 2 ≤ sizeLine := by rw [sizeLine_eq]; omega
    rw [List.length_append, List.length_replicate] at hl
    refine whileN (fun m σ H' => ∃ (j : Nat), σ = [some (.ref pw), some (.int ((i + j : Nat) : Int)), some (.int (b : Nat)), some (.int (j : Nat)), none] ∧ Same H H' ∧ j + m = n) ⟨n, 0, rfl, Same.refl _, by omega⟩ (fun m σ H' hPv => ?_)
    obtain ⟨j, rfl, sm, hjm⟩ := hPv
    have hWj : WordsR H' pw W := sm _ _ hW
    by_cases hjn : j < n
    · have hz : W[i + j]? = some (Str.ofString "not") := drop_at hd (by
        rw [List.append_assoc, List.getElem?_append_left (by rw [List.length_replicate]; exact hjn), List.getElem?_replicate, if_pos hjn])
      refine ⟨true, fun k q1 => andT true true (fun k q2 => ⟨.ref pw, rfl, _, rfl, pw, _, _, _, rfl, rfl, .inl (.inl hWj), word_at hz, rfl, _, rfl, TellB.eq (decide_eq_true rfl) q2 _ (Same.refl _)⟩) (fun _ H1 k s1 q2 => ⟨_, rfl, _, 4, rfl, rfl, _, rfl, TellB.eq (decide_eq_true (by omega)) q2 _ (Same.refl _)⟩) q1, fun _ H1 s1 => ?_, fun h => nomatch h⟩
      refine ⟨_, rfl, _, _, rfl, rfl, _, rfl, _, _, rfl, rfl, m - 1, by omega, j + 1, rfl, sm.trans s1, by omega⟩
    · obtain rfl : j = n := by omega
      obtain rfl : m = 0 := by omega
      obtain ⟨z, r, hzr, hzn⟩ := plain_head hp
      have hdp : W.drop (i + j) = ps ++ post := by
        rw [← List.drop_drop, hd, List.append_assoc, List.drop_left' (List.length_replicate ..)]
      have hz : W[i + j]? = some z := drop_at (j := 0) hdp (by rw [hzr]; rfl)
      refine ⟨false, fun k q1 => andT false false (fun k q2 => ⟨.ref pw, rfl, _, rfl, pw, _, _, _, rfl, rfl, .inl (.inl hWj), word_at hz, rfl, _, rfl, TellB.eq (decide_eq_false fun h => hzn (V.str.inj h)) q2 _ (Same.refl _)⟩) (fun h => nomatch h) q1, (fun h => nomatch h), fun _ H1 s1 => ?_⟩
      dsimp only [tSeq, tAsg, gName]
      have sm1 := sm.trans s1
      refine ⟨.ref pw, rfl, _, rfl, _, rfl, pw, i + j, W, ps, post, rfl, sm1 _ _ hW, hdp, hp, by omega, fun H2 p2 x s2 n2' e2 => ⟨p2, _, rfl, .inl (.inl e2), rfl, _, _, rfl, _, _, rfl, rfl, ?_⟩⟩
      dsimp only [tSeq]
      refine whileN (fun m σ H' => ∃ (x : V) , σ = [some (.ref pw), some (.int ((i + j + ps.length : Nat) : Int)), some (.int (b : Nat)), some (.int (m : Nat)), some x] ∧ Same H H') ⟨j, x, rfl, sm1.trans s2⟩ (fun m σ H' hPv => ?_)
      obtain ⟨x, rfl, sm2⟩ := hPv
      refine ⟨decide (0 < m), fun k q1 => ⟨_, rfl, _, 0, rfl, rfl, _, rfl, TellB.eq (decide_eq_decide.mpr (by omega)) q1 _ (Same.refl _)⟩, fun hm H3 s3 => ?_, fun hm H3 s3 => ?_⟩
      · have hm := of_decide_eq_true hm
        refine ⟨_, rfl, n2, fun t nt => ⟨_, rfl, _, _, rfl, rfl, m - 1, by omega, .ref t, ?_, sm2.trans (s3.trans (same_upd nt))⟩⟩
        show [_, _, _, some (V.int ((m : Int) - 1)), _] = _
        rw [show (m : Int) - 1 = ((m - 1 : Nat) : Int) by omega]
      · refine ⟨_, rfl, _, rfl, n2, fun t nt => q _ t x (sm2.trans (s3.trans (same_upd nt))) ((sm2.trans s3).free nt) ?_⟩
        rw [upd_same, List.length_append, List.length_replicate, Nat.add_assoc]
/-! ### read_facts -/
abbrev s_read_facts : Stmt := topS 52
abbrev N_read_facts : List Str := ["words", "at", "brackets", "terms", "facts", "fact"]
abbrev P_read_facts : List Str := ["words", "at", "brackets"]
theorem sc_read_facts : FnScope N_read_facts ["words", "at", "brackets"] (defScope s_read_facts) := ⟨rfl, rfl, rfl, by decide +kernel, rfl, by decide +kernel, by decide +kernel⟩
theorem seq_len {P : List Str → Prop} (h1 : ∀ us, P us → us ≠ []) : ∀ {us : List Str}, SeqW P us → us ≠ [] := fun h => by
  cases h with
  | one _ h => exact h1 _ h
  | more us c r h _ _ => simp
theorem ok_facts {k b : Nat} {Fp : List Str → Prop} {f f1 : Addr} {fd fd1 : FuncData} (F : Fun K "read_facts" "read_facts" s_read_facts f fd) (T : Tx K mg tk dn md) (D_read_fact : Def P w K mg base "read_fact" k f1 fd1 ["words", "at", "brackets"] (sp_factF Fp b)) : FnOk P w K mg base CX0 (k + 1) f fd P_read_facts (sp_factsF (SeqW (FactW (PlainW Fp))) b) := by
  refine F.ok sc_read_facts (fun vs H Q E h => ?_) (fun cdv A outer s H vs Q E hr h => ?_)
  · obtain ⟨pw, i, W, us, p0, post, rfl, _⟩ := h
    rfl
  · have nd := sc_read_facts.nd
    obtain ⟨pw, i, W, us, p0, post, rfl, hW, hd, hp1, hp2, hS, hl, q⟩ := h
    refine ⟨_, (pss_cons (ps_set (i := 3) nd rfl (.inl rfl) (pe_lst pa_nil))
      (pss_cons (ps_set (i := 4) nd rfl (.inl rfl) (pe_lst pa_nil))
      (pss_one (ps_while PassesOwn.never (pt_val pe_bl)
        (pss_cons (ps_asg (pe_def D_read_fact (hr.mono (by omega)) (pa_cons (pv 0) (pa_cons (pv 1) (pa_cons (pv 2) pa_nil)))) (pg_tup rfl (pgs_cons (pg_name (i := 5) nd rfl (Or.inl rfl)) (pgs_cons (pg_name (i := 1) nd rfl (Or.inl rfl)) pgs_nil))))
        (pss_cons (ps_expr (pe_bm PySem.F.plainAttrs_list PySem.F.slot_list_append PySem.F.type_list_append mt_append (pv 4) (pa_cons (pv 5) pa_nil)))
        (pss_cons (ps_if (pt_cmpR op_ne (pe_ix (ixL K) (pv 0) (pv 1) (fun _ _ => rfl)) pe_str (nomark _))
          (pss_cons (ps_expr (pe_bm PySem.F.plainAttrs_list PySem.F.slot_list_append PySem.F.type_list_append mt_append (pv 3) (pa_cons (pe_tup (pa_cons pe_str (pa_cons (pe_callTy call_tuple_of (by rfl) T.n_tuple (by decide +kernel) (pa_cons (pv 4) pa_nil)) pa_nil))) pa_nil)))
          (pss_cons (ps_if (pt_cmpR op_ne (pe_ix (ixL K) (pv 0) (pv 1) (fun _ _ => rfl)) pe_str (nomark _))
            (pss_one (ps_ret (pe_tup (pa_cons (pe_tup (pa_cons pe_str (pa_cons (pe_callTy call_tuple_of (by rfl) T.n_tuple (by decide +kernel) (pa_cons (pv 3) pa_nil)) pa_nil))) (pa_cons (pv 1) pa_nil)))))
            pss_nil)
          (pss_one (ps_set (i := 4) nd rfl (.inl rfl) (pe_lst pa_nil)))))
          pss_nil)
        (pss_one (ps_aug (i := 1) nd rfl (.inl rfl) pe_int ip_add))))))))), ?_⟩
    dsimp only [tSeq, tAsg, gName]
    have n2 : 2 ≤ sizeLine := by rw [sizeLine_eq]; omega
    refine ⟨Nat.zero_le _, fun t0 nt0 => ⟨Nat.zero_le _, fun fl0 nfl0 => ?_⟩⟩
    have s1 := same_upd (o := .lst []) nt0
    have s2 := same_upd (o := .lst []) nfl0
    have htf : t0 ≠ fl0 := fun e => by rw [← e, upd_same] at nfl0; exact nomatch nfl0
    have et0 : upd (upd H t0 (.lst [])) fl0 (.lst []) t0 = some (.lst []) := by rw [upd_ne htf, upd_same]
    refine whileN (fun m σ H' => ∃ (j : Nat) (fl : Addr) (ts fs : List V) (y5 : Option V) (vs : List Str), σ = [some (.ref pw), some (.int (j : Nat)), some (.int (b : Nat)), some (.ref t0), some (.ref fl), y5] ∧ Same H H' ∧ H fl = none ∧ t0 ≠ fl ∧ H' t0 = some (.lst ts) ∧ H' fl = some (.lst fs) ∧ ts.length ≤ j ∧ fs.length ≤ j ∧ W.drop j = vs ++ p0 :: post ∧ SeqW (FactW (PlainW Fp)) vs ∧ vs.length = m ∧ j + m = i + us.length) ⟨us.length, i, fl0, [], [], none, us, rfl, s1.trans s2, s1.free nfl0, htf, et0, upd_same, Nat.zero_le _, Nat.zero_le _, hd, hS, rfl, rfl⟩ (fun m σ H' hPv => ?_)
    obtain ⟨j, fl, ts, fs, y5, vs, rfl, sm, nfl, htf, et, ef, hts, hfs, hdj, hSj, rfl, hjm⟩ := hPv
    refine ⟨true, fun k q1 => ⟨true, rfl, q1 _ (Same.refl _)⟩, fun _ H1 s1 => ?_, fun h => nomatch h⟩
    have sm1 := sm.trans s1
    have et1 := s1 _ _ et
    have ef1 := s1 _ _ ef
    have npw : ∀ c, H c = none → pw ≠ c := fun c hc e => by rw [e, WordsR, hc] at hW; exact nomatch hW
    dsimp only [tSeq, tAsg, gName]
    -- the rows of a step: what is read, put behind
    have step : ∀ (u rest : List Str) (z : Str), W.drop j = u ++ z :: rest → FactW (PlainW Fp) u → j + u.length ≤ 100000 → ∀ (D : Ends), (∀ (x : V) (H2 : Hp), Same H H2 → H2 t0 = some (.lst ts) → H2 fl = some (.lst (fs ++ [x])) → W[j + u.length]? = some z → WordsR H2 pw W → D.nx [some (.ref pw), some (.int ((j + u.length : Nat) : Int)), some (.int (b : Nat)), some (.ref t0), some (.ref fl), some x] H2) →
        tSeq (tAsg (tCall (sp_factF Fp b) [] E0 (tCons (tVar 0) (tCons (tVar 1) (tCons (tVar 2) tNil)))) (gTup K 2 (gCons (gName 5) (gCons (gName 1) gNil)))) (tDrop (tBM K "list" rAppend (tVar 4) (tCons (tVar 5) tNil))) D [some (.ref pw), some (.int (j : Nat)), some (.int (b : Nat)), some (.ref t0), some (.ref fl), y5] H1 := fun u rest z hdu hu hju D hD => by
      dsimp only [tSeq, tAsg, gName]
      refine ⟨.ref pw, rfl, _, rfl, _, rfl, pw, j, W, u, z :: rest, rfl, sm1 _ _ hW, hdu, hu, hju, fun H2 p2 x s2 n2' e2 => ⟨p2, _, rfl, .inl (.inl e2), rfl, _, _, rfl, _, _, rfl, rfl, ?_⟩⟩
      have ef2 := s2 _ _ ef1
      have hz : W[j + u.length]? = some z := drop_at (us := u) (j := u.length) hdu (by rw [List.getElem?_append_right (Nat.le_refl _), Nat.sub_self]; rfl)
      refine ⟨.ref fl, rfl, .inl ⟨rfl, _, .inl (.inl ef2)⟩, _, rfl, fl, _, _, rfl, rfl, ef2, by rw [sizeLine_eq]; omega, ?_⟩
      refine hD x _ (fun c y hc => ?_) ?_ upd_same hz ?_
      · rw [upd_ne (ne_of_none hc nfl)]
        exact s2 _ _ (sm1 _ _ hc)
      · rw [upd_ne htf]
        exact s2 _ _ et1
      · show upd _ fl _ pw = _
        rw [upd_ne (npw fl nfl)]
        exact s2 _ _ (sm1 _ _ hW)
    have et_lt : ts.length < sizeLine := by rw [sizeLine_eq]; omega
    -- all facts so far as a tuple, behind the others
    have put : ∀ (H2 : Hp) (x : V) (j' : Nat) (D : Ends), Same H H2 → H2 t0 = some (.lst ts) → H2 fl = some (.lst (fs ++ [x])) → (∀ (H3 : Hp) (v : V), Same H H3 → H3 t0 = some (.lst (ts ++ [v])) → D.nx [some (.ref pw), some (.int (j' : Nat)), some (.int (b : Nat)), some (.ref t0), some (.ref fl), some x] H3) →
        tDrop (tBM K "list" rAppend (tVar 3) (tCons (tTup (tCons (tC (V.str (Str.ofString "and"))) (tCons (tCB (fun xs H_1 Q => ∃ (p : Addr) (ys : List V), xs = [V.ref p] ∧ ((SqL K H_1 p ys ∧ ∀ l, H_1 l = none → Q (V.ref l) (upd H_1 l (HO.tup ys))) ∨ SqT K H_1 p ys ∧ Q (V.ref p) H_1)) (tCons (tVar 4) tNil)) tNil))) tNil)) D [some (.ref pw), some (.int (j' : Nat)), some (.int (b : Nat)), some (.ref t0), some (.ref fl), some x] H2 := fun H2 x j' D s2 et2 ef2 hD => by
      refine ⟨.ref t0, rfl, .inl ⟨rfl, _, .inl (.inl et2)⟩, .ref fl, rfl, fl, _, rfl, .inl ⟨.inl (.inl ef2), fun l nl => ⟨n2, fun t nt => ⟨t0, _, _, rfl, rfl, same_upd nt _ _ (same_upd nl _ _ et2), et_lt, ?_⟩⟩⟩⟩
      refine hD _ (.ref t) (fun c y hc => ?_) upd_same
      rw [upd_ne (ne_of_none hc nt0)]
      exact same_upd nt _ _ (same_upd nl _ _ (s2 _ _ hc))
    have hju : ∀ u : List Str, u.length ≤ vs.length → j + u.length ≤ 100000 := fun u hu => by omega
    cases hSj with
    | one _ hu =>
      refine step vs post p0 hdj hu (hju vs (Nat.le_refl _)) _ fun x H2 s2 et2 ef2 hz hW2 => ?_
      dsimp only [tSeq]
      refine ifT true (fun k q1 => ⟨.ref pw, rfl, _, rfl, pw, _, _, _, rfl, rfl, .inl (.inl hW2), word_at hz, rfl, _, rfl, TellB.eq (by rw [decide_eq_false fun h => hp1 (V.str.inj h)]; rfl) q1 _ (Same.refl _)⟩) (fun _ H3 s3 => ?_) (fun h => nomatch h)
      refine put H3 x (j + vs.length) _ (s2.trans s3) (s3 _ _ et2) (s3 _ _ ef2) fun H4 v s4 et4 => ?_
      dsimp only [tSeq]
      have hW4 : WordsR H4 pw W := s4 _ _ hW
      refine ifT true (fun k q1 => ⟨.ref pw, rfl, _, rfl, pw, _, _, _, rfl, rfl, .inl (.inl hW4), word_at hz, rfl, _, rfl, TellB.eq (by rw [decide_eq_false fun h => hp2 (V.str.inj h)]; rfl) q1 _ (Same.refl _)⟩) (fun _ H5 s5 => ?_) (fun h => nomatch h)
      refine ⟨.ref t0, rfl, t0, _, rfl, .inl ⟨.inl (.inl (s5 _ _ et4)), fun l nl => ⟨n2, fun t nt => ⟨_, rfl, n2, fun t2 nt2 => ?_⟩⟩⟩⟩
      have sA := s4.trans (s5.trans ((same_upd nl).trans (same_upd (o := .tup [V.str (Str.ofString "or"), .ref l]) nt)))
      refine q _ t2 (.ref t) (sA.trans (same_upd nt2)) (sA.free nt2) ?_
      rw [upd_same, hjm]
    | more u c r hu hc hr =>
      have hdu : W.drop j = u ++ c :: (r ++ p0 :: post) := by rw [hdj, List.append_assoc]; rfl
      rw [List.length_append, List.length_cons] at hjm
      have hdr : W.drop (j + u.length + 1) = r ++ p0 :: post := by
        have := drop_more (us := u) hdu
        have := congrArg (List.drop 1) this
        rw [List.drop_drop] at this
        exact this
      refine step u (r ++ p0 :: post) c hdu hu (hju u (by rw [List.length_append]; omega)) _ fun x H2 s2 et2 ef2 hz hW2 => ?_
      dsimp only [tSeq]
      rcases hc with rfl | rfl
      · refine ifT false (fun k q1 => ⟨.ref pw, rfl, _, rfl, pw, _, _, _, rfl, rfl, .inl (.inl hW2), word_at hz, rfl, _, rfl, TellB.eq (by rw [decide_eq_true rfl]; rfl) q1 _ (Same.refl _)⟩) (fun h => nomatch h) (fun _ H3 s3 => ?_)
        refine ⟨_, rfl, _, _, rfl, rfl, r.length, by rw [List.length_append, List.length_cons]; omega, j + u.length + 1, fl, ts, fs ++ [x], some x, r, rfl, s2.trans s3, nfl, htf, s3 _ _ et2, s3 _ _ ef2, by omega, by rw [List.length_append, List.length_singleton]; omega, hdr, hr, rfl, by omega⟩
      · refine ifT true (fun k q1 => ⟨.ref pw, rfl, _, rfl, pw, _, _, _, rfl, rfl, .inl (.inl hW2), word_at hz, rfl, _, rfl, TellB.eq (by rw [decide_eq_false (fun h => absurd (V.str.inj h) (by decide +kernel))]; rfl) q1 _ (Same.refl _)⟩) (fun _ H3 s3 => ?_) (fun h => nomatch h)
        refine put H3 x (j + u.length) _ (s2.trans s3) (s3 _ _ et2) (s3 _ _ ef2) fun H4 v s4 et4 => ?_
        dsimp only [tSeq, tAsg, gName]
        have hW4 : WordsR H4 pw W := s4 _ _ hW
        refine ifT false (fun k q1 => ⟨.ref pw, rfl, _, rfl, pw, _, _, _, rfl, rfl, .inl (.inl hW4), word_at hz, rfl, _, rfl, TellB.eq (by rw [decide_eq_true rfl]; rfl) q1 _ (Same.refl _)⟩) (fun h => nomatch h) (fun _ H5 s5 => ?_)
        refine ⟨Nat.zero_le _, fun g ng => ?_⟩
        have et5 := s5 _ _ et4
        have htg : t0 ≠ g := fun e => by rw [← e, et5] at ng; exact nomatch ng
        have sA := s4.trans s5
        refine ⟨_, rfl, _, _, rfl, rfl, r.length, by rw [List.length_append, List.length_cons]; omega, j + u.length + 1, g, ts ++ [v], [], some x, r, rfl, sA.trans (same_upd ng), sA.free ng, htg, same_upd ng _ _ et5, upd_same, by rw [List.length_append, List.length_singleton]; omega, Nat.zero_le _, hdr, hr, rfl, by omega⟩
/-- all depths -/
theorem facts_all {f1 f2 f3 f4 f5 f6 : Addr} {fd1 fd2 fd3 fd4 fd5 fd6 : FuncData} (F1 : Fun K "read_facts" "read_facts" s_read_facts f1 fd1) (F2 : Fun K "read_fact" "read_fact" s_read_fact f2 fd2) (F3 : Fun K "read_plain_fact" "read_plain_fact" s_read_plain_fact f3 fd3) (T : Tx K mg tk dn md) (Y : Ty K mg nd1 pd al) (D1 : Def P w K mg base "read_facts" 1 f1 fd1 P_read_facts sp_never) (D2 : Def P w K mg base "read_fact" 1 f2 fd2 P_read_fact sp_never) (D3 : Def P w K mg base "read_plain_fact" 1 f3 fd3 P_read_plain_fact sp_never) (D_is_name : Def P w K mg base "is_name" 2 f4 fd4 P_is_name sp_isname) (D_is_address : Def P w K mg base "is_address" 2 f5 fd5 P_is_address sp_isaddr) (D_read_minute : Def P w K mg base "read_minute" 6 f6 fd6 P_read_minute sp_minute) : ∀ d : Nat, d ≤ 5 → FnOk P w K mg base CX0 (6 + 3 * d) f1 fd1 P_read_facts (sp_factsF (FactsD d) (5 - d))
  | 0, _ => fn_empty fun vs H Q E h => by
    obtain ⟨_, _, _, _, _, _, _, _, _, _, _, h, _⟩ := h
    exact h
  | d + 1, hd => by
    have ih := facts_all F1 F2 F3 T Y D1 D2 D3 D_is_name D_is_address D_read_minute d (by omega)
    have e : 5 - (d + 1) + 1 = 5 - d := by omega
    have ok3 := ok_plain (k := 6 + 3 * d) (b := 5 - (d + 1)) (Fp := FactsD d) (by omega) (by omega) (fun h us hu => by { have h0 : d = 0 := (by omega); subst h0; exact hu }) F3 T Y D_is_name D_is_address D_read_minute (by rw [e]; exact ⟨ih, D1.mg, D1.kp, D1.bd⟩)
    have ok2 := ok_fact F2 T ⟨ok3, D3.mg, D3.kp, D3.bd⟩
    have ok1 := ok_facts F1 T ⟨ok2, D2.mg, D2.kp, D2.bd⟩
    exact ok1
end
end K31

namespace K31
open PySem PySem.Spec PyProof.Rows L2 LH
/-! ### rules -/
def RuleRow (z : Str) : Prop := ∃ us ds, Txt.split z (Str.ofString " ") = Str.ofString "if" :: (us ++ Str.ofString "then" :: ds) ∧ FactsD 5 us ∧ DeedsW ds ∧ z.length ≤ 50000
def NewRule (H : Hp) (z : Str) (Q : VK) : Prop := ∀ H' p x y, Same H H' → H p = none → H' p = some (.tup [.str z, x, y]) → Q (.ref p) H'
def RulesR (H : Hp) (ts : List Addr) (rs : List Str) : Prop := ts.length = rs.length ∧ ∀ i, i < rs.length → ∃ x y, H (ts.getD i 0) = some (.tup [.str (rs.getD i Str.empty), x, y])
theorem RulesR.same {H H' : Hp} {ts : List Addr} {rs : List Str} (s : Same H H') (h : RulesR H ts rs) : RulesR H' ts rs := ⟨h.1, fun i hi => by obtain ⟨x, y, e⟩ := h.2 i hi; exact ⟨x, y, s _ _ e⟩⟩
def skipB (z : Str) : Bool := decide (z = Str.ofString "") || Txt.startswith z (Str.ofString "#")
section
variable {P : Program} {w : World} {K : PySem.W.Frag} {mg : Str → Option Value} {base : Heap} {tk : Nat → Tok} {ca : Nat → Addr} {dn md nd1 pd al C : Addr}
theorem ok_nfact {f : Addr} {fd : FuncData} (F : Fun K "read_fact" "read_fact" s_read_fact f fd) : FnOk P w K mg base CX0 1 f fd P_read_fact sp_never := by
  exact fn_never
theorem ok_nplain {f : Addr} {fd : FuncData} (F : Fun K "read_plain_fact" "read_plain_fact" s_read_plain_fact f fd) : FnOk P w K mg base CX0 1 f fd P_read_plain_fact sp_never := by
  exact fn_never
theorem ok_rfacts {f f2 f3 f4 f5 f6 : Addr} {fd fd2 fd3 fd4 fd5 fd6 : FuncData} (F : Fun K "read_facts" "read_facts" s_read_facts f fd) (F2 : Fun K "read_fact" "read_fact" s_read_fact f2 fd2) (F3 : Fun K "read_plain_fact" "read_plain_fact" s_read_plain_fact f3 fd3) (T : Tx K mg tk dn md) (Y : Ty K mg nd1 pd al) (D1 : Def P w K mg base "read_facts" 1 f fd P_read_facts sp_never) (D2 : Def P w K mg base "read_fact" 1 f2 fd2 P_read_fact sp_never) (D3 : Def P w K mg base "read_plain_fact" 1 f3 fd3 P_read_plain_fact sp_never) (D_is_name : Def P w K mg base "is_name" 2 f4 fd4 P_is_name sp_isname) (D_is_address : Def P w K mg base "is_address" 2 f5 fd5 P_is_address sp_isaddr) (D_read_minute : Def P w K mg base "read_minute" 6 f6 fd6 P_read_minute sp_minute) : FnOk P w K mg base CX0 21 f fd P_read_facts (sp_factsF (FactsD 5) 0) := by
  exact facts_all F F2 F3 T Y D1 D2 D3 D_is_name D_is_address D_read_minute 5 (by decide)
/-! ### read_rule -/
abbrev s_read_rule : Stmt := topS 51
abbrev N_read_rule : List Str := ["row", "words", "facts", "at", "deeds"]
abbrev P_read_rule : List Str := ["row"]
theorem sc_read_rule : FnScope N_read_rule ["row"] (defScope s_read_rule) := ⟨rfl, rfl, rfl, by decide +kernel, rfl, by decide +kernel, by decide +kernel⟩
def sp_rule : Sp := fun vs H Q _ => ∃ z : Str, vs = [.str z] ∧ RuleRow z ∧ NewRule H z Q
theorem ok_rule {f f1 f2 : Addr} {fd fd1 fd2 : FuncData} (F : Fun K "read_rule" "read_rule" s_read_rule f fd) (T : Tx K mg tk dn md) (D_read_facts : Def P w K mg base "read_facts" 21 f1 fd1 P_read_facts (sp_factsF (FactsD 5) 0)) (D_read_deeds : Def P w K mg base "read_deeds" 3 f2 fd2 P_read_deeds sp_deeds) : FnOk P w K mg base CX0 22 f fd P_read_rule sp_rule := by
  refine F.ok sc_read_rule (fun vs H Q E h => ?_) (fun cdv A outer s H vs Q E hr h => ?_)
  · obtain ⟨z, rfl, _⟩ := h
    rfl
  · have nd := sc_read_rule.nd
    obtain ⟨z, rfl, ⟨us, ds, hsp, hF, hD, hzl⟩, q⟩ := h
    refine ⟨_, (pss_cons (ps_set (i := 1) nd rfl (.inl rfl) (pe_split (pv 0) pe_str))
      (pss_cons (ps_expr (pe_bm PySem.F.plainAttrs_list PySem.F.slot_list_append PySem.F.type_list_append mt_append (pv 1) (pa_cons pe_str pa_nil)))
      (pss_cons (ps_if (pt_cmpR op_ne (pe_ix (ixL K) (pv 1) pe_int (fun _ _ => rfl)) pe_str (nomark _))
        (pss_one ps_never)
        pss_nil)
      (pss_cons (ps_asg (pe_def D_read_facts (hr.mono (by decide)) (pa_cons (pv 1) (pa_cons pe_int (pa_cons pe_int pa_nil)))) (pg_tup rfl (pgs_cons (pg_name (i := 2) nd rfl (Or.inl rfl)) (pgs_cons (pg_name (i := 3) nd rfl (Or.inl rfl)) pgs_nil))))
      (pss_cons (ps_if (pt_cmpR op_ne (pe_ix (ixL K) (pv 1) (pv 3) (fun _ _ => rfl)) pe_str (nomark _))
        (pss_one ps_never)
        pss_nil)
      (pss_cons (ps_asg (pe_def D_read_deeds (hr.mono (by decide)) (pa_cons (pv 1) (pa_cons (pe_op op_add (pv 3) pe_int) pa_nil))) (pg_tup rfl (pgs_cons (pg_name (i := 4) nd rfl (Or.inl rfl)) (pgs_cons (pg_name (i := 3) nd rfl (Or.inl rfl)) pgs_nil))))
      (pss_cons (ps_if (pt_cmpR op_lt (pv 3) (pe_op op_sub (pe_callB (cLen K) (by rfl) T.n_len (by decide +kernel) (pa_cons (pv 1) pa_nil)) pe_int) (nomark _))
        (pss_one ps_never)
        pss_nil)
      (pss_one (ps_ret (pe_tup (pa_cons (pv 0) (pa_cons (pv 2) (pa_cons (pv 4) pa_nil))))))))))))), ?_⟩
    dsimp only [tSeq, tAsg, gName]
    have tbl : TL.tl (Str.ofString " ") = [32] := by decide +kernel
    have hwl : (Str.ofString "if" :: (us ++ Str.ofString "then" :: ds)).length ≤ 50001 := by
      have h1 := split_tl (x := z) (y := Str.ofString " ") (s := 32) tbl (by decide)
      have h2 := splitL_len 32 (TL.tl z)
      rw [← h1, List.length_map, hsp, ← TL.len_tl] at h2
      omega
    have hlen : (Str.ofString "if" :: (us ++ Str.ofString "then" :: ds)).length = us.length + ds.length + 2 := by rw [List.length_cons, List.length_append, List.length_cons]; omega
    refine ⟨.str z, rfl, ⟨_, rfl⟩, _, Str.ofString " ", rfl, rfl, by decide +kernel, by rw [sizeLine_eq]; omega, fun p np => ?_⟩
    rw [hsp]
    have s1 := same_upd (o := .lst ((Str.ofString "if" :: (us ++ Str.ofString "then" :: ds)).map V.str)) np
    refine ⟨.ref p, rfl, .inl ⟨rfl, _, .inl (.inl upd_same)⟩, p, _, _, rfl, rfl, upd_same, by rw [List.length_map, sizeLine_eq]; omega, ?_⟩
    have hW : WordsR (upd (upd H p (.lst ((Str.ofString "if" :: (us ++ Str.ofString "then" :: ds)).map V.str))) p (.lst ((Str.ofString "if" :: (us ++ Str.ofString "then" :: ds)).map V.str ++ [.str (Str.ofString "")]))) p (Str.ofString "if" :: (us ++ Str.ofString "then" :: (ds ++ [Str.ofString ""]))) := by
      show upd _ p _ p = _
      rw [upd_same]
      simp
    have sm : Same H (upd (upd H p (.lst ((Str.ofString "if" :: (us ++ Str.ofString "then" :: ds)).map V.str))) p (.lst ((Str.ofString "if" :: (us ++ Str.ofString "then" :: ds)).map V.str ++ [.str (Str.ofString "")]))) := fun b o hb => by
      rw [upd_ne (ne_of_none hb np), upd_ne (ne_of_none hb np)]
      exact hb
    generalize upd (upd H p (.lst ((Str.ofString "if" :: (us ++ Str.ofString "then" :: ds)).map V.str))) p (.lst ((Str.ofString "if" :: (us ++ Str.ofString "then" :: ds)).map V.str ++ [.str (Str.ofString "")])) = H1 at hW sm
    generalize hWW : Str.ofString "if" :: (us ++ Str.ofString "then" :: (ds ++ [Str.ofString ""])) = W at hW
    have hWl : W.length = us.length + ds.length + 3 := by rw [← hWW, List.length_cons, List.length_append, List.length_cons, List.length_append]; simp only [List.length_singleton]; omega
    have hd1 : W.drop 1 = us ++ Str.ofString "then" :: (ds ++ [Str.ofString ""]) := by rw [← hWW]; rfl
    have w0 : W[0]? = some (Str.ofString "if") := by rw [← hWW]; rfl
    have wt : W[1 + us.length]? = some (Str.ofString "then") := drop_at (us := us) hd1 (by rw [List.getElem?_append_right (Nat.le_refl _), Nat.sub_self]; rfl)
    have hd2 : W.drop (1 + us.length + 1) = ds ++ [Str.ofString ""] := by
      have := congrArg (List.drop 1) (drop_more (us := us) hd1)
      rw [List.drop_drop] at this
      exact this
    dsimp only [tSeq, tAsg, gName]
    refine ifT false (fun k q1 => ⟨.ref p, rfl, p, _, _, _, rfl, rfl, .inl (.inl hW), word_at (i := 0) w0, rfl, _, rfl, TellB.eq (by rw [decide_eq_true rfl]; rfl) q1 _ (Same.refl _)⟩) (fun h => nomatch h) (fun _ H2 s2 => ?_)
    dsimp only [tNext, tSeq, tAsg, gName]
    refine ⟨.ref p, rfl, p, 1, W, us, _, _, rfl, s2 _ _ hW, hd1, by decide +kernel, by decide +kernel, hF, by omega, fun H3 p3 x s3 n3 e3 => ⟨p3, _, rfl, .inl (.inl e3), rfl, _, _, rfl, _, _, rfl, rfl, ?_⟩⟩
    dsimp only [tSeq]
    have hW3 : WordsR H3 p W := s3 _ _ (s2 _ _ hW)
    refine ifT false (fun k q1 => ⟨.ref p, rfl, _, rfl, p, _, _, _, rfl, rfl, .inl (.inl hW3), word_at wt, rfl, _, rfl, TellB.eq (by rw [decide_eq_true rfl]; rfl) q1 _ (Same.refl _)⟩) (fun h => nomatch h) (fun _ H4 s4 => ?_)
    dsimp only [tNext, tSeq, tAsg, gName]
    have hW4 : WordsR H4 p W := s4 _ _ hW3
    refine ⟨.ref p, rfl, _, rfl, _, 1, rfl, rfl, p, 1 + us.length + 1, W, ds, _, rfl, hW4, hd2, hD, by omega, fun H5 p5 y s5 n5 e5 => ⟨p5, _, rfl, .inl (.inl e5), rfl, _, _, rfl, _, _, rfl, rfl, ?_⟩⟩
    dsimp only [tSeq]
    refine ifT false (fun k q1 => ⟨_, rfl, .ref p, rfl, p, _, rfl, .inl (.inl (.inl (s5 _ _ hW4))), _, 1, rfl, rfl, _, _, rfl, rfl, _, rfl, TellB.eq (decide_eq_false (by rw [List.length_map, hWl]; omega)) q1 _ (Same.refl _)⟩) (fun h => nomatch h) (fun _ H6 s6 => ?_)
    have sA := sm.trans (s2.trans (s3.trans (s4.trans (s5.trans s6))))
    exact ⟨_, rfl, _, rfl, _, rfl, by show 3 ≤ _; rw [sizeLine_eq]; omega, fun t nt => q _ t x y (sA.trans (same_upd nt)) (sA.free nt) upd_same⟩
/-! ### rules_of -/
abbrev s_rules_of : Stmt := topS 49
abbrev N_rules_of : List Str := ["text", "rules", "at", "row", "stop"]
abbrev P_rules_of : List Str := ["text"]
theorem sc_rules_of : FnScope N_rules_of ["text"] (defScope s_rules_of) := ⟨rfl, rfl, rfl, by decide +kernel, rfl, by decide +kernel, by decide +kernel⟩
def sp_rules : Sp := fun vs H Q _ => ∃ (t : Str) (ls : List Str), vs = [.str t] ∧ t.length ≤ 1000000 ∧ Txt.split t (Str.ofString "\n") = ls ∧ (∀ z ∈ ls, skipB z = true ∨ (skipB z = false ∧ RuleRow z)) ∧ ∀ H' p ts, Same H H' → H p = none → H' p = some (.lst (ts.map V.ref)) → RulesR H' ts (ls.filter fun z => !skipB z) → Q (.ref p) H'
theorem ok_rules {f f1 : Addr} {fd fd1 : FuncData} (F : Fun K "rules_of" "rules_of" s_rules_of f fd) (T : Tx K mg tk dn md) (D_read_rule : Def P w K mg base "read_rule" 22 f1 fd1 P_read_rule sp_rule) : FnOk P w K mg base CX0 23 f fd P_rules_of sp_rules := by
  refine F.ok sc_rules_of (fun vs H Q E h => ?_) (fun cdv A outer s H vs Q E hr h => ?_)
  · obtain ⟨t, ls, rfl, _⟩ := h
    rfl
  · have nd := sc_rules_of.nd
    obtain ⟨t, ls, rfl, htl, hsp, hls, q⟩ := h
    refine ⟨_, (pss_cons (ps_if (pt_not (pt_val (pe_callB (cIsi K) (by rfl) T.n_isinstance (by decide +kernel) (pa_cons (pv 0) (pa_cons (pe_bltn (v := .ty "str") (by rfl) T.n_str (by decide +kernel) rfl) pa_nil)))))
        (pss_one ps_never)
        pss_nil)
      (pss_cons (ps_set (i := 1) nd rfl (.inl rfl) (pe_lst pa_nil))
      (pss_cons (ps_for PassesOwn.never rfl (pi_enum (by rfl) T.n_enumerate (pa_cons (pe_split (pv 0) pe_str) pa_nil)) (pg_tup rfl (pgs_cons (pg_name (i := 2) nd rfl (Or.inl rfl)) (pgs_cons (pg_name (i := 3) nd rfl (Or.inl rfl)) pgs_nil)))
        (pss_cons (ps_if (PW.pt (pw_or (pt_cmpR op_eq (pv 3) pe_str (nomark _)) (pw_or1 (pt_val (pe_m1 PySem.F.slot_str_startswith PySem.F.type_str_startswith mt_startswith (pv 3) pe_str)))))
          (pss_one ps_continue)
          pss_nil)
        (pss_one (ps_try_never (fun _ _ h => h) (pss_one (ps_expr (pe_bm PySem.F.plainAttrs_list PySem.F.slot_list_append PySem.F.type_list_append mt_append (pv 1) (pa_cons (pe_def D_read_rule (hr.mono (by decide)) (pa_cons (pv 3) pa_nil)) pa_nil)))) pss_nil))))
      (pss_one (ps_ret (pv 1)))))), ?_⟩
    dsimp only [tSeq, tAsg, gName]
    have hll : ls.length ≤ 1000001 := by
      have h1 := split_tl (x := t) (y := Str.ofString "\n") (s := 10) (by decide +kernel) (by decide)
      have h2 := splitL_len 10 (TL.tl t)
      rw [← h1, List.length_map, hsp, ← TL.len_tl] at h2
      omega
    refine ifT false (fun k q1 => notT true (fun k q2 => ⟨.str t, rfl, .str t, .ty "str", _, _, true, rfl, .ty _, .base (.str _), kit_ty (by decide +kernel), true, rfl, q2 _ (Same.refl _)⟩) q1) (fun h => nomatch h) (fun _ H1 s1 => ?_)
    dsimp only [tNext, tSeq, tAsg, gName]
    refine ⟨Nat.zero_le _, fun o no => ⟨.str t, rfl, ⟨_, rfl⟩, _, Str.ofString "\n", rfl, rfl, by decide +kernel, by rw [sizeLine_eq]; omega, fun c nc => ?_⟩⟩
    rw [hsp]
    have s2 := same_upd (o := .lst []) no
    have s3 := same_upd (o := .lst (ls.map V.str)) nc
    have hco : o ≠ c := fun e => by rw [← e, upd_same] at nc; exact nomatch nc
    have ec : upd (upd H1 o (.lst [])) c (.lst (ls.map V.str)) c = some (.lst (ls.map V.str)) := upd_same
    have eo : upd (upd H1 o (.lst [])) c (.lst (ls.map V.str)) o = some (.lst []) := by rw [upd_ne hco, upd_same]
    have s0 := s1.trans (s2.trans s3)
    have hno := s1.free no
    generalize upd (upd H1 o (.lst [])) c (.lst (ls.map V.str)) = H2 at ec eo s0
    have hml : (ls.map V.str).length = ls.length := List.length_map ..
    refine ⟨c, _, rfl, .inl (.inl ec), for_it walk_enum (fun i σ H' => ∃ (ts : List Addr) (y2 y3 : Option V), σ = [some (.str t), some (.ref o), y2, y3, none] ∧ Same H H' ∧ H' c = some (.lst (ls.map V.str)) ∧ H' o = some (.lst (ts.map V.ref)) ∧ RulesR H' ts ((ls.take i).filter fun z => !skipB z))
      ⟨[], none, none, rfl, s0, ec, eo, rfl, fun i hi => absurd hi (Nat.not_lt_zero i)⟩ (fun i σ H' _ h => by obtain ⟨_, _, _, rfl, _, hc, _⟩ := h; exact .inl (.inl hc)) (fun i x σ H' H'' hi hP hy => ?_) (fun σ H' hP => ?_)⟩
    · obtain ⟨ts, y2, y3, rfl, sm, ec', eo', hR⟩ := hP
      obtain ⟨U, x1, x2, rfl, nU, rfl, f1, f2⟩ := hy
      rw [hml] at hi
      have f2 : (ls.map V.str)[i]? = some x2 := f2
      rw [List.getElem?_map, List.getElem?_eq_getElem hi] at f2
      obtain rfl := Option.some.inj f1
      obtain rfl := Option.some.inj f2
      have sU := same_upd (o := .tup [.int (i : Nat), .str ls[i]]) nU
      have htk : (ls.take (i + 1)).filter (fun z => !skipB z) = (ls.take i).filter (fun z => !skipB z) ++ (if skipB ls[i] = true then [] else [ls[i]]) := by
        rw [List.take_add_one, List.getElem?_eq_getElem hi, Option.toList_some, List.filter_append]
        congr 1
        by_cases h : skipB ls[i] = true
        · rw [if_pos h, List.filter_cons, h]; rfl
        · rw [if_neg h, List.filter_cons, Bool.eq_false_iff.mpr h]; rfl
      have hli := hls ls[i] (List.getElem_mem hi)
      have htsl : ts.length ≤ i := by
        have h1 := List.length_filter_le (fun z => !skipB z) (ls.take i)
        rw [List.length_take] at h1
        have := hR.1
        omega
      rw [htk]
      generalize ls[i] = z at *
      refine ⟨U, _, rfl, .inl (.inl upd_same), rfl, _, _, rfl, _, _, rfl, rfl, ?_⟩
      dsimp only [tSeq]
      have ec1 := sU _ _ ec'
      have eo1 := sU _ _ eo'
      have hR1 := hR.same sU
      have smU := sm.trans sU
      have hsk : skipB z = (decide (z = Str.ofString "") || Txt.startswith z (Str.ofString "#")) := rfl
      refine ifT (skipB z) (fun k q1 => orT (decide (z = Str.ofString "")) (Txt.startswith z (Str.ofString "#")) (fun k q2 => ⟨_, rfl, rfl, _, rfl, TellB.eq (vstr_dec _ _) q2 _ (Same.refl _)⟩) (fun _ H3 k s3 q2 => ⟨_, rfl, ⟨_, rfl⟩, _, _, rfl, rfl, _, rfl, q2 _ (Same.refl _)⟩) q1) (fun hb H3 s3 => ?_) (fun hb H3 s3 => ?_)
      · rw [if_pos hb, List.append_nil]
        exact ⟨ts, _, _, rfl, smU.trans s3, s3 _ _ ec1, s3 _ _ eo1, hR1.same s3⟩
      · rw [if_neg (by rw [hb]; exact Bool.false_ne_true)]
        have hrow : RuleRow z := by
          rcases hli with h | h
          · rw [hb] at h; exact nomatch h
          · exact h.2
        dsimp only [tNext]
        refine ⟨.ref o, rfl, .inl ⟨rfl, _, .inl (.inl (s3 _ _ eo1))⟩, _, rfl, z, rfl, hrow, fun H4 p x y s4 n4 e4 => ⟨o, _, _, rfl, rfl, s4 _ _ (s3 _ _ eo1), by rw [List.length_map, sizeLine_eq]; omega, ?_⟩⟩
        have hR4 := (hR1.same s3).same s4
        have eo4 := s4 _ _ (s3 _ _ eo1)
        have hpo : p ≠ o := fun e => by rw [e, s3 _ _ eo1] at n4; exact nomatch n4
        refine ⟨ts ++ [p], _, _, rfl, fun b w hb => ?_, ?_, ?_, ?_, ?_⟩
        · rw [upd_ne (ne_of_none hb hno)]
          exact s4 _ _ (s3 _ _ (smU _ _ hb))
        · rw [upd_ne (Ne.symm hco)]
          exact s4 _ _ (s3 _ _ ec1)
        · rw [upd_same, List.map_append]
          rfl
        · rw [List.length_append, List.length_append, hR4.1]
          rfl
        · intro j hj
          rw [List.length_append, List.length_singleton] at hj
          by_cases hj2 : j < ((ls.take i).filter fun z => !skipB z).length
          · rw [getD_app_l _ _ _ (by rw [hR4.1]; exact hj2), getD_app_l _ _ _ hj2]
            obtain ⟨x', y', e⟩ := hR4.2 j hj2
            refine ⟨x', y', ?_⟩
            rw [upd_ne fun h => by rw [h, eo4] at e; exact nomatch e]
            exact e
          · have hj3 : j = ((ls.take i).filter fun z => !skipB z).length := by omega
            rw [getD_app_r _ _ _ (by rw [hR4.1]; omega), getD_app_r _ _ _ (by omega), hR4.1, hj3, Nat.sub_self]
            refine ⟨x, y, ?_⟩
            show upd _ o _ p = _
            rw [upd_ne hpo]
            exact e4
    · obtain ⟨ts, y2, y3, rfl, sm, ec', eo', hR⟩ := hP
      rw [hml, List.take_length] at hR
      exact ⟨.ref o, rfl, q _ o ts sm hno eo' hR⟩
/-! ### rules_text -/
abbrev s_rules_text : Stmt := topS 58
abbrev N_rules_text : List Str := ["rules", "row", "_"]
abbrev P_rules_text : List Str := ["rules"]
theorem sc_rules_text : FnScope N_rules_text ["rules"] (defScope s_rules_text) := ⟨rfl, rfl, rfl, by decide +kernel, rfl, by decide +kernel, by decide +kernel⟩
def sp_rtext : Sp := fun vs H Q _ => ∃ (p : Addr) (ts : List Addr) (rs : List Str), vs = [.ref p] ∧ H p = some (.lst (ts.map V.ref)) ∧ RulesR H ts rs ∧ rs.length ≤ 1000 ∧ (∀ z ∈ rs, z.length ≤ 5000) ∧ Tell H (.str (Txt.join (Str.ofString "\n") rs)) Q
theorem ok_rtext {f : Addr} {fd : FuncData} {k : Nat} (F : Fun K "rules_text" "rules_text" s_rules_text f fd) : FnOk P w K mg base CX0 (k + 1) f fd P_rules_text sp_rtext := by
  refine F.ok sc_rules_text (fun vs H Q E h => ?_) (fun cdv A outer s H vs Q E hr h => ?_)
  · obtain ⟨p, ts, rs, rfl, _⟩ := h
    rfl
  · have nd := sc_rules_text.nd
    obtain ⟨p, ts, rs, rfl, ep, hR, hrl, hzl, q⟩ := h
    refine ⟨_, (pss_one (ps_ret (pe_join pe_str (pe_lc (own := [("row", 1), ("_", 2)]) (g := gTup K 3 (gCons (gName 1) (gCons (gName 2) (gCons (gName 2) gNil)))) (by rfl) nd (pi_list (pv 0)) (blkOk_by (N := N_rules_text) (sc := defScope s_rules_text) (by decide +kernel)) (fun _ _ _ _ _ => by exact (pg_tup rfl (pgs_cons (pg_name (i := 1) nd rfl (Or.inl rfl)) (pgs_cons (pg_name (i := 2) nd rfl (Or.inl rfl)) (pgs_cons (pg_name (i := 2) nd rfl (Or.inl rfl)) pgs_nil))))) (fun _ _ _ _ _ => pts_nil) (fun _ _ _ _ _ => (pv 1)))))), ?_⟩
    have key : ∀ i : Nat, ∃ v : V × V × V, i < ts.length → SqT K H (ts.getD i 0) [v.1, v.2.1, v.2.2] ∧ v.1 = .str (rs.getD i Str.empty) := fun i => by
      by_cases h : i < ts.length
      · obtain ⟨x, y, e⟩ := hR.2 i (by rw [← hR.1]; exact h)
        exact ⟨(.str (rs.getD i Str.empty), x, y), fun _ => ⟨.inl (.inl e), rfl⟩⟩
      · exact ⟨(.non, .non, .non), fun h2 => absurd h2 h⟩
    obtain ⟨ps, hk⟩ := Classical.axiomOfChoice key
    have hT := fun i hi => (hk i hi).1
    have hps := fun i hi => (hk i hi).2
    refine ⟨⟨_, rfl⟩, .ref p, rfl, p, rfl, ⟨_, .inl (.inl ep)⟩, fun D hD => lc_tri (ps := ps) (fun i => .str (rs.getD i Str.empty)) (by decide) (.inl (.inl ep)) hT hD (by rw [hR.1, sizeLine_eq]; omega) (fun i H2 Q2 hi s2 q2 => ?_) (fun H2 s2 e => ?_)⟩
    · refine ⟨_, rfl, ?_⟩
      rw [hps i hi]
      exact q2 _ (Same.refl _)
    · have em : (List.range ts.length).map (fun i => V.str (rs.getD i Str.empty)) = rs.map V.str := by
        rw [hR.1]
        have := congrArg (List.map V.str) (LH.range_getD rs Str.empty)
        rw [List.map_map] at this
        exact this
      rw [em] at e
      have hb := join_len_le (sep := Str.ofString "\n") (k := 5000) (n := 1000) hzl hrl
      have hb2 : 1000 * (5000 + (Str.ofString "\n").length) = 5001000 := by decide +kernel
      exact ⟨_, D, rs, rfl, rfl, .inl (.inl (.inl e)), by omega, q _ s2⟩
end
end K31

namespace K31
open PySem PySem.Spec PyProof.Rows L2 LH
/-! ### what the law draws -/
def S' (l : List Nat) : Str := ⟨l.toArray⟩
theorem S'_len (l : List Nat) : (S' l).length = l.length := mk_len l
theorem map_range {α β : Type} (l : List α) (d : α) (f : α → β) : (List.range l.length).map (fun i => f (l.getD i d)) = l.map f := by
  have := congrArg (List.map f) (LH.range_getD l d)
  rw [List.map_map] at this
  exact this
theorem getD_mem {α : Type} (l : List α) (d : α) {i : Nat} (h : i < l.length) : l.getD i d ∈ l := by
  rw [List.getD_eq_getElem?_getD, List.getElem?_eq_getElem h]
  exact List.getElem_mem h
theorem pick_list {α : Type} (f : α → V) (Pa : α → Prop) : ∀ vs : List V, (∀ j, j < vs.length → ∃ x, Pa x ∧ vs.getD j .non = f x) → ∃ u : List α, u.length = vs.length ∧ (∀ x ∈ u, Pa x) ∧ vs = u.map f
  | [], _ => ⟨[], rfl, (fun _ h => by cases h), rfl⟩
  | v :: vs, h => by
    obtain ⟨x, hx, e⟩ := h 0 (Nat.zero_lt_succ _)
    obtain ⟨u, hl, hu, ev⟩ := pick_list f Pa vs fun j hj => h (j + 1) (Nat.succ_lt_succ hj)
    have e : v = f x := e
    refine ⟨x :: u, congrArg (· + 1) hl, fun y hy => ?_, by rw [List.map_cons, ← ev, e]⟩
    rcases List.mem_cons.mp hy with rfl | hy
    · exact hx
    · exact hu y hy
theorem flat_ones (x : List Nat) : (x.map (TL.tl ∘ fun c => (⟨#[c]⟩ : Str))).flatten = x := by
  induction x with
  | nil => rfl
  | cons c r ih => rw [List.map_cons, List.flatten_cons, ih]; rfl
theorem join_ones (u : List Nat) : TL.tl (Txt.join (Str.ofString "") (u.map fun x => (⟨#[x]⟩ : Str))) = u := by
  rw [tl_join0, List.map_map]
  exact flat_ones u
theorem sum_one (u : List Nat) : ((u.map fun x => (⟨#[x]⟩ : Str)).map (·.length)).sum = u.length := by
  induction u with
  | nil => rfl
  | cons x r ih => rw [List.map_cons, List.map_cons, List.sum_cons, ih, List.length_cons]; show 1 + _ = _; omega
def NW : List Str := [Str.ofString "then", Str.ofString "in", Str.ofString "not", Str.ofString "and", Str.ofString "or", Str.ofString "if", Str.ofString "stop", Str.ofString "move", Str.ofString "always"]
theorem nw_good : ∀ z ∈ NW, GoodName (TL.tl z) := by
  intro z hz
  simp only [NW, List.mem_cons, List.mem_nil_iff, or_false] at hz
  rcases hz with rfl | rfl | rfl | rfl | rfl | rfl | rfl | rfl | rfl <;> exact ⟨by decide +kernel, by decide +kernel, by decide +kernel⟩
theorem small_smd : ∀ x ∈ TL.tl SMALLT, x ∈ TL.tl LOCALT ∧ x ∈ TL.tl HOUSET := by decide +kernel
theorem smd_ok : ∀ x ∈ TL.tl (SMALLT ++ Str.ofString "0123456789"), x ∈ TL.tl LOCALT ∧ x ∈ TL.tl HOUSET := by decide +kernel
theorem dbl_small : ∀ x ∈ TL.tl (SMALLT ++ SMALLT), x ∈ TL.tl SMALLT := by decide +kernel
theorem dbl_len : (TL.tl (SMALLT ++ SMALLT)).length = 52 := by decide +kernel
/-- the letters a name or an address is changed by -/
theorem letters (k : Nat) (hk : k < 26) : (cutS (SMALLT ++ SMALLT) (some (k : Int)) none).length ≤ 52 ∧ ∀ j : Nat, j < 20 → ∃ x, x ∈ TL.tl SMALLT ∧ atI (TL.tl (cutS (SMALLT ++ SMALLT) (some (k : Int)) none)) (j : Int) = some x := by
  have hl : (cutS (SMALLT ++ SMALLT) (some (k : Int)) none).length = 52 - k := by rw [cutFrom_len, TL.len_tl, dbl_len]
  refine ⟨by omega, fun j hj => ?_⟩
  obtain ⟨x, hx, e⟩ := pickL (TL.tl (cutS (SMALLT ++ SMALLT) (some (k : Int)) none)) (j : Int) (by omega) (by rw [← TL.len_tl, hl]; omega)
  exact ⟨x, dbl_small x (mem_cut hx), e⟩
theorem ins_tl (z : Str) (p x : Nat) : TL.tl (cutS z none (some (p : Int)) ++ ⟨#[x]⟩ ++ cutS z (some (p : Int)) none) = (TL.tl z).take p ++ [x] ++ (TL.tl z).drop p := by
  rw [TL.tl_append, TL.tl_append, cutS_to, cutS_from]
theorem ins_mem (l : List Nat) (p x : Nat) (s : List Nat) (hl : ∀ c ∈ l, c ∈ s) (hx : x ∈ s) : ∀ c ∈ l.take p ++ [x] ++ l.drop p, c ∈ s := by
  intro c hc
  rcases List.mem_append.mp hc with hc | hc
  · rcases List.mem_append.mp hc with hc | hc
    · exact hl c (List.mem_of_mem_take hc)
    · rw [List.mem_singleton.mp hc]; exact hx
  · exact hl c (List.mem_of_mem_drop hc)
theorem ins_len (l : List Nat) (p x : Nat) : (l.take p ++ [x] ++ l.drop p).length = l.length + 1 := by
  rw [List.length_append, List.length_append, List.length_take, List.length_drop, List.length_singleton]; omega
def SMD : Str := SMALLT ++ Str.ofString "0123456789"
section
variable {P : Program} {w : World} {K : PySem.W.Frag} {mg : Str → Option Value} {base : Heap} {tk : Nat → Tok} {ca : Nat → Addr} {dn md nd1 pd al C : Addr}
/-! ### _law_mixed -/
abbrev s__law_mixed : Stmt := topS 61
abbrev N__law_mixed : List Str := ["_law_cell", "_law_k", "_law_number"]
abbrev P__law_mixed : List Str := ["_law_cell", "_law_k"]
theorem sc__law_mixed : FnScope N__law_mixed ["_law_cell", "_law_k"] (defScope s__law_mixed) := ⟨rfl, rfl, rfl, by decide +kernel, rfl, by decide +kernel, by decide +kernel⟩
def sp_mixed : Sp := fun vs H Q _ => ∃ (c k : Int), vs = [.int c, .int k] ∧ 0 ≤ k ∧ k < 1000 ∧ ∀ m : Nat, m < 1000003 → Tell H (.int (m : Nat)) Q
theorem ok_mixed {f : Addr} {fd : FuncData} {k : Nat} (F : Fun K "_law_mixed" "_law_mixed" s__law_mixed f fd) : FnOk P w K mg base CX0 (k + 1) f fd P__law_mixed sp_mixed := by
  refine F.ok sc__law_mixed (fun vs H Q E h => ?_) (fun cdv A outer s H vs Q E hr h => ?_)
  · obtain ⟨c, j, rfl, _⟩ := h
    rfl
  · have nd := sc__law_mixed.nd
    obtain ⟨c, j, rfl, h0, h1, q⟩ := h
    refine ⟨_, (pss_cons (ps_set (i := 2) nd rfl (.inl rfl) (pe_op op_mod (pe_op op_add (pe_op op_add (pe_op op_mod (pv 0) pe_int) (pe_op op_mul pe_int (pv 1))) pe_int) pe_int))
      (pss_one (ps_ret (pe_op op_mod (pe_op op_mul (pe_op op_mod (pe_op op_mul (pv 2) (pv 2)) pe_int) (pv 2)) pe_int)))), ?_⟩
    dsimp only [tSeq, tAsg]
    refine ⟨.int c, rfl, c, 1000000007, rfl, rfl, (show (0 : Int) < 1000000007 by decide), .int j, rfl, 7919, j, rfl, rfl, .inl ⟨by decide, by decide⟩, _, _, rfl, rfl, _, 11, rfl, rfl, _, _, rfl, rfl, (show (0 : Int) < 1000003 by decide), ?_⟩
    dsimp only [gName]
    have hm0 : 0 ≤ (c % 1000000007 + 7919 * j + 11) % 1000003 := Int.emod_nonneg _ (by decide)
    have hm1 : (c % 1000000007 + 7919 * j + 11) % 1000003 < 1000003 := Int.emod_lt_of_pos _ (by decide)
    generalize (c % 1000000007 + 7919 * j + 11) % 1000003 = m at *
    refine ⟨_, rfl, _, rfl, m, m, rfl, rfl, .inl ⟨by omega, by omega⟩, _, 1000003, rfl, rfl, (show (0 : Int) < 1000003 by decide), _, rfl, _, _, rfl, rfl, .inr ⟨by omega, by omega⟩, _, 1000003, rfl, rfl, (show (0 : Int) < 1000003 by decide), ?_⟩
    have := q ((m * m % 1000003 * m % 1000003).toNat) (by omega) _ (Same.refl _)
    rw [show (((m * m % 1000003 * m % 1000003).toNat : Nat) : Int) = m * m % 1000003 * m % 1000003 from Int.toNat_of_nonneg (Int.emod_nonneg _ (by decide))] at this
    exact this
/-! ### _law_small -/
abbrev s__law_small : Stmt := topS 63
abbrev N__law_small : List Str := []
abbrev P__law_small : List Str := []
theorem sc__law_small : FnScope N__law_small [] (defScope s__law_small) := ⟨rfl, rfl, rfl, by decide +kernel, rfl, by decide +kernel, by decide +kernel⟩
def sp_small : Sp := fun vs H Q _ => vs = [] ∧ Q (.str SMALLT) H
theorem ok_small {f : Addr} {fd : FuncData} {k : Nat} (F : Fun K "_law_small" "_law_small" s__law_small f fd) : FnOk P w K mg base CX0 (k + 1) f fd P__law_small sp_small := by
  refine F.ok sc__law_small (fun vs H Q E h => ?_) (fun cdv A outer s H vs Q E hr h => ?_)
  · obtain ⟨rfl, _⟩ := h
    rfl
  · have nd := sc__law_small.nd
    obtain ⟨rfl, q⟩ := h
    exact ⟨_, (pss_one (ps_ret pe_str)), q⟩
/-! ### _law_text -/
abbrev s__law_text : Stmt := topS 65
abbrev N__law_text : List Str := ["_law_cell", "_law_k", "_law_signs_here", "_law_size", "_law_j"]
abbrev P__law_text : List Str := ["_law_cell", "_law_k", "_law_signs_here", "_law_size"]
theorem sc__law_text : FnScope N__law_text ["_law_cell", "_law_k", "_law_signs_here", "_law_size"] (defScope s__law_text) := ⟨rfl, rfl, rfl, by decide +kernel, rfl, by decide +kernel, by decide +kernel⟩
def sp_ltext : Sp := fun vs H Q _ => ∃ (c k : Int) (sg : Str) (n : Nat), vs = [.int c, .int k, .str sg, .int (n : Nat)] ∧ 0 ≤ k ∧ k + n < 1000 ∧ 1 ≤ sg.length ∧ sg.length ≤ 1000 ∧ ∀ u : List Nat, u.length = n → (∀ x ∈ u, x ∈ TL.tl sg) → Tell H (.str (S' u)) Q
theorem ok_ltext {f f1 : Addr} {fd fd1 : FuncData} (F : Fun K "_law_text" "_law_text" s__law_text f fd) (T : Tx K mg tk dn md) (D__law_mixed : Def P w K mg base "_law_mixed" 1 f1 fd1 P__law_mixed sp_mixed) : FnOk P w K mg base CX0 2 f fd P__law_text sp_ltext := by
  refine F.ok sc__law_text (fun vs H Q E h => ?_) (fun cdv A outer s H vs Q E hr h => ?_)
  · obtain ⟨c, k, sg, n, rfl, _⟩ := h
    rfl
  · have nd := sc__law_text.nd
    obtain ⟨c, k, sg, n, rfl, h0, h1, h2, h3, q⟩ := h
    refine ⟨_, (pss_one (ps_ret (pe_join pe_str (pe_lc (own := [("_law_j", 4)]) (g := gName 4) (by rfl) nd (pi_range1 (by rfl) T.n_range (pa_cons (pv 3) pa_nil)) (blkOk_by (N := N__law_text) (sc := defScope s__law_text) (by decide +kernel)) (fun _ _ _ _ _ => (pg_name (i := 4) nd rfl (Or.inl rfl))) (fun _ _ _ _ _ => pts_nil) (fun _ _ _ _ _ => (pe_ix ix_str (pv 2) (pe_op op_mod (pe_op op_fdiv (pe_def D__law_mixed (hr.mono (by decide)) (pa_cons (pv 0) (pa_cons (pe_op op_add (pv 1) (pv 4)) pa_nil))) pe_int) (pe_callB call_len_str (by rfl) T.n_len (by decide +kernel) (pa_cons (pv 2) pa_nil))) (fun _ _ => rfl))))))), ?_⟩
    have hsl : sg.length = (TL.tl sg).length := TL.len_tl sg
    refine ⟨⟨_, rfl⟩, .int (n : Nat), rfl, (n : Nat), rfl, by omega, by omega, fun D hD => lc_dem (fun j => .int (0 + (j : Int))) (fun _ v => ∃ x, x ∈ TL.tl sg ∧ v = .str ⟨#[x]⟩) walk_range (fun _ _ => trivial) hD (by rw [sizeLine_eq]; omega) (fun j H4 Q4 hj s4 q4 => ?_) (fun H4 vs s4 hl hv e4 => ?_)⟩
    · have hj : j < n := by simpa using hj
      refine ⟨_, rfl, _, rfl, _, rfl, _, rfl, k, _, rfl, rfl, c, k + (0 + (j : Int)), rfl, by omega, by omega, fun m hm H5 s5 => ?_⟩
      refine ⟨_, 7, rfl, rfl, ⟨by decide, by decide⟩, _, rfl, _, rfl, by rw [sizeLine_eq]; omega, _, _, rfl, rfl, (show (0 : Int) < ((sg.length : Nat) : Int) by omega), ?_⟩
      have g0 : 0 ≤ (m : Int) / 7 % ((sg.length : Nat) : Int) := Int.emod_nonneg _ (by omega)
      have g1 : (m : Int) / 7 % ((sg.length : Nat) : Int) < ((sg.length : Nat) : Int) := Int.emod_lt_of_pos _ (by omega)
      obtain ⟨x, hx, ex⟩ := pickL (TL.tl sg) _ g0 (by omega)
      exact ⟨sg, _, x, rfl, rfl, by rw [sizeLine_eq]; omega, ex, q4 _ _ s5 ⟨x, hx, rfl⟩⟩
    · have hl : vs.length = n := by simpa using hl
      obtain ⟨u, hu, hus, rfl⟩ := pick_list (fun x => V.str ⟨#[x]⟩) (fun x => x ∈ TL.tl sg) vs fun j hj => hv j (by simpa using (show j < n by omega))
      have hul : u.length = n := by omega
      have e4 : H4 D = some (.lst ((u.map fun x => (⟨#[x]⟩ : Str)).map V.str)) := by rw [e4, List.map_map]; rfl
      have h00 : (Str.ofString "").length = 0 := by decide +kernel
      refine ⟨Str.ofString "", D, _, rfl, rfl, .inl (.inl (.inl e4)), by rw [sum_one, h00]; omega, ?_⟩
      rw [show Txt.join (Str.ofString "") (u.map fun x => (⟨#[x]⟩ : Str)) = S' u from TL.ext_tl (join_ones u)]
      exact q u hul hus _ s4
/-! ### _law_total -/
abbrev s__law_total : Stmt := topS 66
abbrev N__law_total : List Str := ["_law_script", "_law_k", "_law_total_here", "_law_j", "_law_cell"]
abbrev P__law_total : List Str := ["_law_script", "_law_k"]
theorem sc__law_total : FnScope N__law_total ["_law_script", "_law_k"] (defScope s__law_total) := ⟨rfl, rfl, rfl, by decide +kernel, rfl, by decide +kernel, by decide +kernel⟩
def sp_total (K : PySem.W.Frag) : Sp := fun vs H Q _ => ∃ (a : Addr) (ns : List Int) (k : Int), vs = [.ref a, .int k] ∧ SqL K H a (ns.map V.int) ∧ 0 ≤ k ∧ k < 100 ∧ ∀ m : Nat, m < 1000003 → Tell H (.int (m : Nat)) Q
theorem ok_total {f f1 : Addr} {fd fd1 : FuncData} (F : Fun K "_law_total" "_law_total" s__law_total f fd) (T : Tx K mg tk dn md) (D__law_mixed : Def P w K mg base "_law_mixed" 1 f1 fd1 P__law_mixed sp_mixed) : FnOk P w K mg base CX0 2 f fd P__law_total (sp_total K) := by
  refine F.ok sc__law_total (fun vs H Q E h => ?_) (fun cdv A outer s H vs Q E hr h => ?_)
  · obtain ⟨a, ns, k, rfl, _⟩ := h
    rfl
  · have nd := sc__law_total.nd
    obtain ⟨a, ns, k, rfl, hS, h0, h1, q⟩ := h
    refine ⟨_, (pss_cons (ps_set (i := 2) nd rfl (.inl rfl) pe_int)
      (pss_cons (ps_for PassesOwn.never rfl (pi_enum (by rfl) T.n_enumerate (pa_cons (pe_slice (slL K) (pv 0) po_none (po_some pe_int)) pa_nil)) (pg_tup rfl (pgs_cons (pg_name (i := 3) nd rfl (Or.inl rfl)) (pgs_cons (pg_name (i := 4) nd rfl (Or.inl rfl)) pgs_nil)))
        (pss_one (ps_set (i := 2) nd rfl (.inl rfl) (pe_op op_mod (pe_op op_add (pe_op op_mul pe_int (pv 2)) (pe_def D__law_mixed (hr.mono (by decide)) (pa_cons (pv 4) (pa_cons (pe_op op_add (pv 1) (pv 3)) pa_nil)))) pe_int))))
      (pss_one (ps_ret (pv 2))))), ?_⟩
    dsimp only [tSeq, tAsg, gName]
    refine ⟨.ref a, rfl, _, rfl, a, _, rfl, hS, fun c nc => ?_⟩
    have hcut : cutV (ns.map V.int) none (some 60) = (ns.take 60).map V.int := by rw [show (60 : Int) = ((60 : Nat) : Int) from rfl, cutV_to, List.map_take]
    rw [hcut]
    have hml : (ns.take 60).length ≤ 60 := by rw [List.length_take]; omega
    generalize ns.take 60 = ms at *
    have s1 := same_upd (o := .lst (ms.map V.int)) nc
    have ec : upd H c (.lst (ms.map V.int)) c = some (.lst (ms.map V.int)) := upd_same
    generalize upd H c (.lst (ms.map V.int)) = H1 at ec s1
    refine ⟨c, _, rfl, .inl (.inl ec), for_it walk_enum (fun i σ H' => ∃ (m : Nat) (y3 y4 : Option V), σ = [some (.ref a), some (.int k), some (.int (m : Nat)), y3, y4] ∧ Same H1 H' ∧ m < 1000003)
      ⟨0, none, none, rfl, Same.refl _, by decide⟩ (fun i σ H' _ h => by obtain ⟨_, _, _, rfl, sm, _⟩ := h; exact .inl (.inl (sm _ _ ec))) (fun i x σ H' H'' hi hP hy => ?_) (fun σ H' hP => ?_)⟩
    · obtain ⟨m, y3, y4, rfl, sm, hm⟩ := hP
      obtain ⟨U, x1, x2, rfl, nU, rfl, f1, f2⟩ := hy
      rw [List.length_map] at hi
      have f2 : (ms.map V.int)[i]? = some x2 := f2
      rw [List.getElem?_map, List.getElem?_eq_getElem hi] at f2
      obtain rfl := Option.some.inj f1
      obtain rfl := Option.some.inj f2
      have sU := same_upd (o := .tup [.int (i : Nat), .int ms[i]]) nU
      refine ⟨U, _, rfl, .inl (.inl upd_same), rfl, _, _, rfl, _, _, rfl, rfl, ?_⟩
      refine ⟨_, rfl, 31, _, rfl, rfl, .inl ⟨by decide, by decide⟩, _, rfl, _, rfl, _, rfl, k, _, rfl, rfl, ms[i], k + (i : Nat), rfl, by omega, by omega, fun r hr H3 s3 => ?_⟩
      refine ⟨_, _, rfl, rfl, _, _, rfl, rfl, (show (0 : Int) < 1000003 by decide), ((31 * (m : Int) + r) % 1000003).toNat, some (.int (i : Nat)), some (.int ms[i]), ?_, sm.trans (sU.trans s3), by omega⟩
      · show [_, _, some (V.int ((31 * (m : Int) + r) % 1000003)), _, _] = _
        rw [← Int.toNat_of_nonneg (show 0 ≤ (31 * (m : Int) + r) % 1000003 from Int.emod_nonneg _ (by decide))]
        rfl
    · obtain ⟨m, y3, y4, rfl, sm, hm⟩ := hP
      exact ⟨_, rfl, q m hm _ (s1.trans sm)⟩
/-! ### _law_addresses -/
abbrev s__law_addresses : Stmt := topS 67
abbrev N__law_addresses : List Str := ["_law_cell", "_law_base", "_law_at", "_law_signs_here", "_law_j"]
abbrev P__law_addresses : List Str := ["_law_cell"]
theorem sc__law_addresses : FnScope N__law_addresses ["_law_cell"] (defScope s__law_addresses) := ⟨rfl, rfl, rfl, by decide +kernel, rfl, by decide +kernel, by decide +kernel⟩
def sp_addrs : Sp := fun vs H Q _ => ∃ c : Nat, vs = [.int (c : Nat)] ∧ ∀ as : List Str, as.length = 4 → (∀ z ∈ as, GoodAddr (TL.tl z)) → New H (as.map V.str) Q
theorem ok_addrs {f f1 f2 : Addr} {fd fd1 fd2 : FuncData} (F : Fun K "_law_addresses" "_law_addresses" s__law_addresses f fd) (T : Tx K mg tk dn md) (D__law_text : Def P w K mg base "_law_text" 2 f1 fd1 P__law_text sp_ltext) (D__law_small : Def P w K mg base "_law_small" 1 f2 fd2 P__law_small sp_small) : FnOk P w K mg base CX0 3 f fd P__law_addresses sp_addrs := by
  refine F.ok sc__law_addresses (fun vs H Q E h => ?_) (fun cdv A outer s H vs Q E hr h => ?_)
  · obtain ⟨c, rfl, _⟩ := h
    rfl
  · have nd := sc__law_addresses.nd
    obtain ⟨c, rfl, q⟩ := h
    refine ⟨_, (pss_cons (ps_set (i := 1) nd rfl (.inr rfl) (pe_def D__law_text (hr.mono (by decide)) (pa_cons (pv 0) (pa_cons pe_int (pa_cons (pe_op op_add_str (pe_def0 D__law_small (hr.mono (by decide))) pe_str) (pa_cons (pe_op op_add pe_int (pe_op op_mod (pv 0) pe_int)) pa_nil))))))
      (pss_cons (ps_set (i := 2) nd rfl (.inr rfl) (pe_op op_mod (pe_op op_fdiv (pv 0) pe_int) (pe_op op_add (pe_callB call_len_str (by rfl) T.n_len (by decide +kernel) (pa_cons (pv 1) pa_nil)) pe_int)))
      (pss_cons (ps_set (i := 3) nd rfl (.inr rfl) (pe_slice sl_str (pe_op op_add_str (pe_def0 D__law_small (hr.mono (by decide))) (pe_def0 D__law_small (hr.mono (by decide)))) (po_some (pe_op op_mod (pe_op op_fdiv (pv 0) pe_int) pe_int)) po_none))
      (pss_one (ps_ret (pe_lc (own := [("_law_j", 4)]) (g := gName 4) (by rfl) nd (pi_range1 (by rfl) T.n_range (pa_cons pe_int pa_nil)) (blkOk_by (N := N__law_addresses) (sc := defScope s__law_addresses) (by decide +kernel)) (fun _ _ _ _ _ => (pg_name (i := 4) nd rfl (Or.inl rfl))) (fun _ _ _ _ _ => pts_nil) (fun _ _ _ _ _ => (pe_op op_add_str (pe_op op_add_str (pe_op op_add_str (pe_op op_add_str (pe_op op_add_str (pe_slice sl_str (pv 1) po_none (po_some (pv 2))) (pe_ix ix_str (pv 3) (pv 4) (fun _ _ => rfl))) (pe_slice sl_str (pv 1) (po_some (pv 2)) po_none)) pe_str) (pe_slice sl_str (pv 1) po_none (po_some pe_int))) pe_str)))))))), ?_⟩
    dsimp only [tSeq, tAsg, gName]
    have l1 : SMALLT.length = 26 := by decide +kernel
    have l2 : (Str.ofString "0123456789").length = 10 := by decide +kernel
    have lS : (SMALLT ++ Str.ofString "0123456789").length = 36 := by decide +kernel
    have lat : (Str.ofString "@").length = 1 := by decide +kernel
    have la : (Str.ofString ".a").length = 2 := by decide +kernel
    have n1 : (1 : Int) + (c : Nat) % 9 = ((1 + c % 9 : Nat) : Int) := by omega
    refine ⟨.int (c : Nat), rfl, ⟨rfl, SMALLT, _, rfl, rfl, by rw [l1, l2, sizeLine_eq]; omega, .int (c : Nat), rfl, (c : Nat), 9, rfl, rfl, (show (0 : Int) < 9 by decide), 1, _, rfl, rfl, (c : Nat), 10, SMALLT ++ Str.ofString "0123456789", 1 + c % 9, (show [V.int (c : Nat), .int 10, .str (SMALLT ++ Str.ofString "0123456789"), .int (1 + (c : Nat) % 9)] = _ by rw [n1]), by decide, by omega, by rw [lS]; decide, by rw [lS]; decide, fun u hu hus H1 s1 => ?_⟩⟩
    have hul : (S' u).length = 1 + c % 9 := by rw [S'_len]; exact hu
    refine ⟨.int (c : Nat), rfl, (c : Nat), 9, rfl, rfl, ⟨by decide, by decide⟩, .str (S' u), rfl, S' u, rfl, by rw [hul, sizeLine_eq]; omega, _, 1, rfl, rfl, _, _, rfl, rfl, (show (0 : Int) < ((S' u).length : Nat) + 1 by omega), ?_⟩
    dsimp only
    have g0 : 0 ≤ (c : Int) / 9 % (((S' u).length : Nat) + 1) := Int.emod_nonneg _ (by omega)
    have g1 : (c : Int) / 9 % (((S' u).length : Nat) + 1) < ((S' u).length : Nat) + 1 := Int.emod_lt_of_pos _ (by omega)
    generalize (c : Int) / 9 % (((S' u).length : Nat) + 1) = pI at *
    obtain ⟨p, rfl⟩ : ∃ p : Nat, pI = (p : Int) := ⟨pI.toNat, by omega⟩
    obtain ⟨k, hk, hk2⟩ : ∃ k : Nat, (c : Int) / 99 % 26 = (k : Int) ∧ k < 26 := ⟨c / 99 % 26, by omega, by omega⟩
    obtain ⟨L1, L2⟩ := letters k hk2
    refine ⟨rfl, rfl, SMALLT, SMALLT, rfl, rfl, by rw [l1, sizeLine_eq]; omega, .int (c : Nat), rfl, (c : Nat), 99, rfl, rfl, ⟨by decide, by decide⟩, _, 26, rfl, rfl, (show (0 : Int) < 26 by decide), _, rfl, SMALLT ++ SMALLT, rfl, by rw [len_app, l1, sizeLine_eq]; omega, ?_⟩
    dsimp only
    rw [hk]
    refine ⟨4, rfl, by decide, by decide, fun D hD => lc_dem (fun j => .int (0 + (j : Int))) (fun _ v => ∃ z, GoodAddr (TL.tl z) ∧ v = .str z) walk_range (fun _ _ => trivial) hD (by rw [sizeLine_eq]; decide) (fun j H4 Q4 hj s4 q4 => ?_) (fun H4 vs s4 hl hv e4 => ?_)⟩
    · have hj : j < 4 := hj
      obtain ⟨x, hx, ex⟩ := L2 j (by omega)
      have T1 := cutTo_len (S' u) p
      have T2 := cutFrom_len (S' u) p
      have T3 := cutTo_len (S' u) 3
      have hx1 : (⟨#[x]⟩ : Str).length = 1 := rfl
      refine ⟨.str (S' u), rfl, .int (p : Nat), rfl, _, rfl, S' u, rfl, by rw [hul, sizeLine_eq]; omega, _, rfl, _, rfl, cutS (SMALLT ++ SMALLT) (some (k : Int)) none, 0 + (j : Int), x, rfl, rfl, by rw [sizeLine_eq]; omega, by rw [Int.zero_add]; exact ex, _, ⟨#[x]⟩, rfl, rfl, by rw [T1, hx1, sizeLine_eq]; omega, .str (S' u), rfl, .int (p : Nat), rfl, _, rfl, S' u, rfl, by rw [hul, sizeLine_eq]; omega, _, _, rfl, rfl, by rw [len_app, T1, T2, hx1, sizeLine_eq]; omega, _, _, rfl, rfl, by rw [len_app, len_app, T1, T2, hx1, lat, sizeLine_eq]; omega, .str (S' u), rfl, _, rfl, S' u, rfl, by rw [hul, sizeLine_eq]; omega, _, _, rfl, rfl, by rw [len_app, len_app, len_app, T1, T2, hx1, lat, show (3 : Int) = ((3 : Nat) : Int) from rfl, T3, sizeLine_eq]; omega, _, _, rfl, rfl, by rw [len_app, len_app, len_app, len_app, T1, T2, hx1, lat, la, show (3 : Int) = ((3 : Nat) : Int) from rfl, T3, sizeLine_eq]; omega, ?_⟩
      refine q4 _ _ (Same.refl _) ⟨_, ?_, rfl⟩
      refine ⟨u.take p ++ [x] ++ u.drop p, [u.take 3, [97]], ?_, ⟨by rw [ins_len]; omega, by rw [ins_len]; omega, ins_mem u p x _ (fun c hc => (smd_ok c (hus c hc)).1) (small_smd x hx).1⟩, (show 1 ≤ 2 by decide), (show 2 ≤ 3 by decide), fun y hy => ?_⟩
      · rw [TL.tl_append, TL.tl_append, TL.tl_append, ins_tl, show (3 : Int) = ((3 : Nat) : Int) from rfl, cutS_to, show TL.tl (Str.ofString "@") = [64] by decide +kernel, show TL.tl (Str.ofString ".a") = [46, 97] by decide +kernel]
        show u.take p ++ [x] ++ u.drop p ++ [64] ++ u.take 3 ++ [46, 97] = _
        simp [TL.joinL]
      · simp only [List.mem_cons, List.mem_nil_iff, or_false] at hy
        rcases hy with rfl | rfl
        · exact ⟨by rw [List.length_take]; omega, by rw [List.length_take]; omega, fun c hc => (smd_ok c (hus c (List.mem_of_mem_take hc))).2⟩
        · exact ⟨by decide, by decide, by decide +kernel⟩
    · have hl : vs.length = 4 := hl
      obtain ⟨u', hu', hus', rfl⟩ := pick_list V.str (fun z => GoodAddr (TL.tl z)) vs fun j hj => hv j (show j < 4 by omega)
      exact q u' (by omega) hus' _ _ (s1.trans s4) (s1.free hD) e4
/-! ### _law_names -/
abbrev s__law_names : Stmt := topS 68
abbrev N__law_names : List Str := ["_law_cell", "_law_base", "_law_at", "_law_letters", "_law_j"]
abbrev P__law_names : List Str := ["_law_cell"]
theorem sc__law_names : FnScope N__law_names ["_law_cell"] (defScope s__law_names) := ⟨rfl, rfl, rfl, by decide +kernel, rfl, by decide +kernel, by decide +kernel⟩
def sp_names : Sp := fun vs H Q _ => ∃ c : Nat, vs = [.int (c : Nat)] ∧ ∀ as : List Str, as.length = 5 → (∀ z ∈ as, GoodName (TL.tl z)) → New H (as.map V.str) Q
theorem ok_names {f f1 f2 : Addr} {fd fd1 fd2 : FuncData} (F : Fun K "_law_names" "_law_names" s__law_names f fd) (T : Tx K mg tk dn md) (D__law_text : Def P w K mg base "_law_text" 2 f1 fd1 P__law_text sp_ltext) (D__law_small : Def P w K mg base "_law_small" 1 f2 fd2 P__law_small sp_small) : FnOk P w K mg base CX0 3 f fd P__law_names sp_names := by
  refine F.ok sc__law_names (fun vs H Q E h => ?_) (fun cdv A outer s H vs Q E hr h => ?_)
  · obtain ⟨c, rfl, _⟩ := h
    rfl
  · have nd := sc__law_names.nd
    obtain ⟨c, rfl, q⟩ := h
    refine ⟨_, (pss_cons (ps_set (i := 1) nd rfl (.inr rfl) (pe_def D__law_text (hr.mono (by decide)) (pa_cons (pv 0) (pa_cons pe_int (pa_cons (pe_def0 D__law_small (hr.mono (by decide))) (pa_cons pe_int pa_nil))))))
      (pss_cons (ps_set (i := 2) nd rfl (.inr rfl) (pe_op op_mod (pe_op op_fdiv (pv 0) pe_int) pe_int))
      (pss_cons (ps_set (i := 3) nd rfl (.inr rfl) (pe_slice sl_str (pe_op op_add_str (pe_def0 D__law_small (hr.mono (by decide))) (pe_def0 D__law_small (hr.mono (by decide)))) (po_some (pe_op op_mod (pe_op op_fdiv (pv 0) pe_int) pe_int)) po_none))
      (pss_cons (ps_if (pt_cmpR op_eq (pe_op op_mod (pv 0) pe_int) pe_int (nomark _))
        (pss_one (ps_ret (pe_lc (own := [("_law_j", 4)]) (g := gName 4) (by rfl) nd (pi_range1 (by rfl) T.n_range (pa_cons pe_int pa_nil)) (blkOk_by (N := N__law_names) (sc := defScope s__law_names) (by decide +kernel)) (fun _ _ _ _ _ => (pg_name (i := 4) nd rfl (Or.inl rfl))) (fun _ _ _ _ _ => pts_nil) (fun _ _ _ _ _ => (pe_slice sl_str (pv 1) po_none (po_some (pe_op op_add pe_int (pv 4))))))))
        pss_nil)
      (pss_cons (ps_if (pt_cmpR op_eq (pe_op op_mod (pv 0) pe_int) pe_int (nomark _))
        (pss_one (ps_ret (pe_lc (own := [("_law_j", 4)]) (g := gName 4) (by rfl) nd (pi_range1 (by rfl) T.n_range (pa_cons pe_int pa_nil)) (blkOk_by (N := N__law_names) (sc := defScope s__law_names) (by decide +kernel)) (fun _ _ _ _ _ => (pg_name (i := 4) nd rfl (Or.inl rfl))) (fun _ _ _ _ _ => pts_nil) (fun _ _ _ _ _ => (pe_op op_add_str (pe_op op_add_str (pe_slice sl_str (pv 1) po_none (po_some (pv 2))) (pe_ix ix_str (pv 3) (pv 4) (fun _ _ => rfl))) (pe_slice sl_str (pv 1) (po_some (pv 2)) po_none))))))
        pss_nil)
      (pss_one (ps_ret (pe_slice (slL K) (pe_slice (slL K) (pe_op op_rep (pe_lst (pa_cons pe_str (pa_cons pe_str (pa_cons pe_str (pa_cons pe_str (pa_cons pe_str (pa_cons pe_str (pa_cons pe_str (pa_cons pe_str (pa_cons pe_str pa_nil)))))))))) pe_int) (po_some (pe_op op_mod (pe_op op_fdiv (pv 0) pe_int) pe_int)) po_none) po_none (po_some pe_int))))))))), ?_⟩
    dsimp only [tSeq, tAsg, gName]
    have l1 : SMALLT.length = 26 := by decide +kernel
    refine ⟨.int (c : Nat), rfl, ⟨rfl, (c : Nat), 30, SMALLT, 11, rfl, by decide, by decide, by rw [l1]; decide, by rw [l1]; decide, fun u hu hus H1 s1 => ?_⟩⟩
    have hul : (S' u).length = 11 := by rw [S'_len]; exact hu
    refine ⟨.int (c : Nat), rfl, (c : Nat), 3, rfl, rfl, ⟨by decide, by decide⟩, _, 12, rfl, rfl, (show (0 : Int) < 12 by decide), ?_⟩
    dsimp only
    obtain ⟨p, hp, hp2⟩ : ∃ p : Nat, (c : Int) / 3 % 12 = (p : Int) ∧ p < 12 := ⟨c / 3 % 12, by omega, by omega⟩
    obtain ⟨k, hk, hk2⟩ : ∃ k : Nat, (c : Int) / 40 % 26 = (k : Int) ∧ k < 26 := ⟨c / 40 % 26, by omega, by omega⟩
    rw [hp]
    obtain ⟨L1, L2⟩ := letters k hk2
    refine ⟨rfl, rfl, SMALLT, SMALLT, rfl, rfl, by rw [l1, sizeLine_eq]; omega, .int (c : Nat), rfl, (c : Nat), 40, rfl, rfl, ⟨by decide, by decide⟩, _, 26, rfl, rfl, (show (0 : Int) < 26 by decide), _, rfl, SMALLT ++ SMALLT, rfl, by rw [len_app, l1, sizeLine_eq]; omega, ?_⟩
    dsimp only
    rw [hk]
    refine ifT (decide ((c : Int) % 3 = 0)) (fun k' q1 => ⟨.int (c : Nat), rfl, (c : Nat), 3, rfl, rfl, (show (0 : Int) < 3 by decide), rfl, _, rfl, TellB.eq (vint_dec _ _) q1 _ (Same.refl _)⟩) (fun _ H2 s2 => ?_) (fun _ H2 s2 => ?_)
    · refine ⟨5, rfl, by decide, by decide, fun D hD => lc_dem (fun j => .int (0 + (j : Int))) (fun _ v => ∃ z, GoodName (TL.tl z) ∧ v = .str z) walk_range (fun _ _ => trivial) hD (by rw [sizeLine_eq]; decide) (fun j H4 Q4 hj s4 q4 => ?_) (fun H4 vs s4 hl hv e4 => ?_)⟩
      · have hj : j < 5 := hj
        refine ⟨.str (S' u), rfl, _, rfl, 1, _, rfl, rfl, _, rfl, S' u, rfl, by rw [hul, sizeLine_eq]; omega, ?_⟩
        refine q4 _ _ (Same.refl _) ⟨_, ?_, rfl⟩
        rw [show (1 : Int) + (0 + (j : Int)) = ((1 + j : Nat) : Int) by omega, cutS_to]
        show GoodName (u.take (1 + j))
        exact ⟨by rw [List.length_take]; omega, by rw [List.length_take]; omega, fun c hc => hus c (List.mem_of_mem_take hc)⟩
      · have hl : vs.length = 5 := hl
        obtain ⟨u', hu', hus', rfl⟩ := pick_list V.str (fun z => GoodName (TL.tl z)) vs fun j hj => hv j (show j < 5 by omega)
        exact q u' (by omega) hus' _ _ (s1.trans (s2.trans s4)) ((s1.trans s2).free hD) e4
    · dsimp only [tNext, tSeq]
      refine ifT (decide ((c : Int) % 3 = 1)) (fun k' q1 => ⟨.int (c : Nat), rfl, (c : Nat), 3, rfl, rfl, (show (0 : Int) < 3 by decide), rfl, _, rfl, TellB.eq (vint_dec _ _) q1 _ (Same.refl _)⟩) (fun _ H3 s3 => ?_) (fun _ H3 s3 => ?_)
      · refine ⟨5, rfl, by decide, by decide, fun D hD => lc_dem (fun j => .int (0 + (j : Int))) (fun _ v => ∃ z, GoodName (TL.tl z) ∧ v = .str z) walk_range (fun _ _ => trivial) hD (by rw [sizeLine_eq]; decide) (fun j H4 Q4 hj s4 q4 => ?_) (fun H4 vs s4 hl hv e4 => ?_)⟩
        · have hj : j < 5 := hj
          obtain ⟨x, hx, ex⟩ := L2 j (by omega)
          have T1 := cutTo_len (S' u) p
          have T2 := cutFrom_len (S' u) p
          have hx1 : (⟨#[x]⟩ : Str).length = 1 := rfl
          refine ⟨.str (S' u), rfl, .int (p : Nat), rfl, _, rfl, S' u, rfl, by rw [hul, sizeLine_eq]; omega, _, rfl, _, rfl, cutS (SMALLT ++ SMALLT) (some (k : Int)) none, 0 + (j : Int), x, rfl, rfl, by rw [sizeLine_eq]; omega, by rw [Int.zero_add]; exact ex, _, ⟨#[x]⟩, rfl, rfl, by rw [T1, hx1, sizeLine_eq]; omega, .str (S' u), rfl, .int (p : Nat), rfl, _, rfl, S' u, rfl, by rw [hul, sizeLine_eq]; omega, _, _, rfl, rfl, by rw [len_app, T1, T2, hx1, sizeLine_eq]; omega, ?_⟩
          refine q4 _ _ (Same.refl _) ⟨_, ?_, rfl⟩
          rw [ins_tl]
          exact ⟨by show 1 ≤ (u.take p ++ [x] ++ u.drop p).length; rw [ins_len]; omega, by show (u.take p ++ [x] ++ u.drop p).length ≤ 12; rw [ins_len]; omega, ins_mem u p x _ hus hx⟩
        · have hl : vs.length = 5 := hl
          obtain ⟨u', hu', hus', rfl⟩ := pick_list V.str (fun z => GoodName (TL.tl z)) vs fun j hj => hv j (show j < 5 by omega)
          exact q u' (by omega) hus' _ _ (s1.trans (s2.trans (s3.trans s4))) ((s1.trans (s2.trans s3)).free hD) e4
      · dsimp only [tNext, tSeq]
        obtain ⟨r, hr, hr2⟩ : ∃ r : Nat, (c : Int) / 3 % 9 = (r : Int) ∧ r < 9 := ⟨c / 3 % 9, by omega, by omega⟩
        refine ⟨by show 9 ≤ _; rw [sizeLine_eq]; decide, fun g1 n1 => ?_⟩
        have sg := same_upd (o := .lst (NW.map V.str)) n1
        refine ⟨g1, 2, NW.map V.str, rfl, rfl, upd_same, by decide, by decide, by show 9 * 2 ≤ _; rw [sizeLine_eq]; decide, fun g2 n2 => ?_⟩
        have sg2 := same_upd (o := .lst ((NW ++ NW).map V.str)) n2
        refine ⟨.int (c : Nat), rfl, (c : Nat), 3, rfl, rfl, ⟨by decide, by decide⟩, _, 9, rfl, rfl, (show (0 : Int) < 9 by decide), _, rfl, g2, (NW ++ NW).map V.str, rfl, .inl (.inl (upd_same)), fun g3 n3 => ?_⟩
        have sg3 := same_upd (o := .lst (((NW ++ NW).drop r).map V.str)) n3
        have e3 : cutV ((NW ++ NW).map V.str) (some ((c : Int) / 3 % 9)) none = ((NW ++ NW).drop r).map V.str := by rw [hr, cutV_from, List.map_drop]
        dsimp only
        rw [e3]
        refine ⟨_, rfl, g3, _, rfl, .inl (.inl upd_same), fun g4 n4 => ?_⟩
        have e4 : cutV (((NW ++ NW).drop r).map V.str) none (some (5 : Int)) = (((NW ++ NW).drop r).take 5).map V.str := by rw [show (5 : Int) = ((5 : Nat) : Int) from rfl, cutV_to, ← List.map_take]
        rw [e4]
        have sA := s1.trans (s2.trans (s3.trans ((same_upd n1).trans (sg2.trans sg3))))
        refine q (((NW ++ NW).drop r).take 5) (by rw [List.length_take, List.length_drop]; show min 5 (18 - r) = 5; omega) (fun z hz => ?_) _ g4 (sA.trans (same_upd n4)) (sA.free n4) upd_same
        have := List.mem_of_mem_drop (List.mem_of_mem_take hz)
        rcases List.mem_append.mp this with h | h <;> exact nw_good z h
end
end K31

namespace K31
open PySem PySem.Spec PyProof.Rows L2 LH
/-! ### the world of the rules, and plain facts -/
theorem pickM {α : Type} (f : α → V) (xs : List α) (m : Int) (h0 : 0 ≤ m) (h1 : m < xs.length) : ∃ x, x ∈ xs ∧ atI (xs.map f) m = some (f x) := by
  obtain ⟨x, hx, e⟩ := pickL (xs.map f) m h0 (by rw [List.length_map]; exact h1)
  obtain ⟨v, hv, rfl⟩ := List.mem_map.mp hx
  exact ⟨v, hv, e⟩
/-- every day has a date -/
theorem date_of (N : Nat) (h : N < 3000000) : ∃ y m d : Nat, Date y m d ∧ dayNo y m d = (N : Int) := by
  induction N with
  | zero => exact ⟨1, 1, 1, ⟨by decide, by decide, by decide, by decide, by decide, by decide +kernel⟩, by decide +kernel⟩
  | succ n ih =>
    obtain ⟨y, m, d, ⟨y1, y2, m1, m2, d1, d2⟩, e⟩ := ih (by omega)
    unfold dayNo at e
    by_cases h1 : (d : Int) < daysIn y m
    · exact ⟨y, m, d + 1, ⟨y1, y2, m1, m2, by omega, by omega⟩, by unfold dayNo; omega⟩
    · have hA := daysA_succ y m m1
      by_cases h2 : m < 12
      · have hg := daysIn_ge y ((m + 1 : Nat) : Int)
        exact ⟨y, m + 1, 1, ⟨y1, y2, by omega, by omega, by decide, by omega⟩, by unfold dayNo; omega⟩
      · have hm : m = 12 := by omega
        subst hm
        have h13 := daysA_13 y
        have hA : daysA y (13 : Nat) = daysA y (12 : Nat) + daysIn y (12 : Nat) := daysA_succ y 12 (by decide)
        have hg := daysIn_ge ((y + 1 : Nat) : Int) ((1 : Nat) : Int)
        have hy : y < 9999 := by
          apply Classical.byContradiction
          intro hn
          have hy9 : y = 9999 := by omega
          subst hy9
          have hv : daysA ((9999 : Nat) + 1) (1 : Nat) = 3652059 := by decide +kernel
          omega
        refine ⟨y + 1, 1, 1, ⟨by omega, by omega, by decide, by decide, by decide, by omega⟩, ?_⟩
        unfold dayNo
        rw [show ((y + 1 : Nat) : Int) = (y : Int) + 1 by omega]
        omega
theorem dayS_len (y m d : Nat) : (dayS y m d).length ≤ 3 := by
  have h : ∀ i, i < 7 → (dayNames.getD i Str.empty).length ≤ 3 := by decide +kernel
  exact h _ (by omega)
/-- a text of words with blanks between -/
def TextOf (z : Str) (us : List Str) : Prop := TL.tl z = TL.joinL [32] (us.map TL.tl)
theorem text2 (w z : Str) : TextOf (w ++ Str.ofString " " ++ z) [w, z] := by
  unfold TextOf
  rw [TL.tl_append, TL.tl_append, show TL.tl (Str.ofString " ") = [32] by decide +kernel]
  simp [TL.joinL]
theorem name_len {z : Str} (h : GoodName (TL.tl z)) : z.length ≤ 12 := by rw [TL.len_tl]; exact h.2.1
theorem addr_len {z : Str} (h : GoodAddr (TL.tl z)) : z.length ≤ 54 := by
  obtain ⟨loc, ws, hz, hloc, hw1, hw3, hws⟩ := h
  have hjl := joinL_len [46] ws
  have hsum := sum_le 10 (ws.map List.length) (fun x hx => by
    obtain ⟨y, hy, rfl⟩ := List.mem_map.mp hx
    exact (hws y hy).2.1)
  rw [List.length_map, List.length_singleton] at *
  rw [TL.len_tl, hz, List.length_append, List.length_cons]
  have := hloc.2.1
  omega
section
variable {P : Program} {w : World} {K : PySem.W.Frag} {mg : Str → Option Value} {base : Heap} {tk : Nat → Tok} {ca : Nat → Addr} {dn md nd1 pd al C : Addr}
def wkv (la ln lm : Addr) : List (Key × V) := [(.inr (Str.ofString "addresses"), .ref la), (.inr (Str.ofString "names"), .ref ln), (.inr (Str.ofString "minutes"), .ref lm)]
theorem wkv_get (la ln lm : Addr) : valV (wkv la ln lm) (Sum.inr (Str.ofString "addresses")) = some (V.ref la) ∧ valV (wkv la ln lm) (Sum.inr (Str.ofString "names")) = some (V.ref ln) ∧ valV (wkv la ln lm) (Sum.inr (Str.ofString "minutes")) = some (V.ref lm) := by
  have h1 : decide ((Sum.inr (Str.ofString "addresses") : Key) = Sum.inr (Str.ofString "names")) = false := by decide +kernel
  have h2 : decide ((Sum.inr (Str.ofString "addresses") : Key) = Sum.inr (Str.ofString "minutes")) = false := by decide +kernel
  have h3 : decide ((Sum.inr (Str.ofString "names") : Key) = Sum.inr (Str.ofString "minutes")) = false := by decide +kernel
  unfold valV wkv
  refine ⟨?_, ?_, ?_⟩
  · rw [List.find?_cons_of_pos (by exact decide_eq_true rfl)]; rfl
  · rw [List.find?_cons_of_neg (by rw [h1]; decide), List.find?_cons_of_pos (by exact decide_eq_true rfl)]; rfl
  · rw [List.find?_cons_of_neg (by rw [h2]; decide), List.find?_cons_of_neg (by rw [h3]; decide), List.find?_cons_of_pos (by exact decide_eq_true rfl)]; rfl
theorem wkv_merge (la ln lm : Addr) : mergeK [] (wkv la ln lm) = wkv la ln lm := by
  have h1 : decide ((Sum.inr (Str.ofString "addresses") : Key) = Sum.inr (Str.ofString "names")) = false := by decide +kernel
  have h2 : decide ((Sum.inr (Str.ofString "addresses") : Key) = Sum.inr (Str.ofString "minutes")) = false := by decide +kernel
  have h3 : decide ((Sum.inr (Str.ofString "names") : Key) = Sum.inr (Str.ofString "minutes")) = false := by decide +kernel
  unfold mergeK wkv
  simp only [List.foldl_cons, List.foldl_nil, putK, List.any_nil, List.any_cons, List.nil_append, List.cons_append, h1, h2, h3, Bool.or_self, Bool.or_false, Bool.false_eq_true, if_false]
/-- a world: a dict of three lists -/
def WorldR (H : Hp) (a : Addr) : Prop := ∃ (la ln lm : Addr) (as ns : List Str) (ms : List Nat), H a = some (.dK (wkv la ln lm)) ∧ H la = some (.lst (as.map V.str)) ∧ H ln = some (.lst (ns.map V.str)) ∧ H lm = some (.lst (ms.map fun m => .int (m : Nat))) ∧ as.length = 4 ∧ (∀ z ∈ as, GoodAddr (TL.tl z)) ∧ ns.length = 5 ∧ (∀ z ∈ ns, GoodName (TL.tl z)) ∧ ms.length = 4 ∧ ∀ m ∈ ms, m ≤ 1000004000
/-! ### _law_world -/
abbrev s__law_world : Stmt := topS 69
abbrev N__law_world : List Str := ["_law_script", "_law_minutes", "_law_names_here", "_law_j"]
abbrev P__law_world : List Str := ["_law_script"]
theorem sc__law_world : FnScope N__law_world ["_law_script"] (defScope s__law_world) := ⟨rfl, rfl, rfl, by decide +kernel, rfl, by decide +kernel, by decide +kernel⟩
def sp_world (K : PySem.W.Frag) : Sp := fun vs H Q _ => ∃ (a : Addr) (ns : List Int), vs = [.ref a] ∧ SqL K H a (ns.map V.int) ∧ ∀ H' p, Same H H' → WorldR H' p → Q (.ref p) H'
theorem ok_world {f f1 f2 f3 : Addr} {fd fd1 fd2 fd3 : FuncData} (F : Fun K "_law_world" "_law_world" s__law_world f fd) (T : Tx K mg tk dn md) (D__law_total : Def P w K mg base "_law_total" 2 f1 fd1 P__law_total (sp_total K)) (D__law_names : Def P w K mg base "_law_names" 3 f2 fd2 P__law_names sp_names) (D__law_addresses : Def P w K mg base "_law_addresses" 3 f3 fd3 P__law_addresses sp_addrs) : FnOk P w K mg base CX0 4 f fd P__law_world (sp_world K) := by
  refine F.ok sc__law_world (fun vs H Q E h => ?_) (fun cdv A outer s H vs Q E hr h => ?_)
  · obtain ⟨c, ns, rfl, _⟩ := h
    rfl
  · have nd := sc__law_world.nd
    obtain ⟨a, ns, rfl, hS, q⟩ := h
    refine ⟨_, (pss_cons (ps_setLc (i := 1) (own := [("_law_j", 3)]) (g := gName 3) (by rfl) nd rfl rfl (sw_true rfl rfl rfl (by decide +kernel)) (pi_range1 (by rfl) T.n_range (pa_cons pe_int pa_nil)) (blkOk_by (N := N__law_world) (sc := defScope s__law_world) (by decide +kernel)) (fun _ _ _ _ _ => (pg_name (i := 3) nd rfl (Or.inl rfl))) (fun _ _ _ _ _ => pts_nil) (fun _ _ _ _ _ => (pe_op op_add (pe_op op_mul (pe_def D__law_total (hr.mono (by decide)) (pa_cons (pv 0) (pa_cons pe_int pa_nil))) pe_int) (pe_op op_mul (pe_op op_mul pe_int (pv 3)) (pv 3)))))
      (pss_cons (ps_set (i := 2) nd rfl (.inl rfl) (pe_def D__law_names (hr.mono (by decide)) (pa_cons (pe_def D__law_total (hr.mono (by decide)) (pa_cons (pv 0) (pa_cons pe_int pa_nil))) pa_nil)))
      (pss_one (ps_ret (pe_disp (pps_cons pe_str (pe_def D__law_addresses (hr.mono (by decide)) (pa_cons (pe_def D__law_total (hr.mono (by decide)) (pa_cons (pv 0) (pa_cons pe_int pa_nil))) pa_nil)) (pps_cons pe_str (pv 2) (pps_cons pe_str (pv 1) pps_nil))) (by rfl) (by rfl) (fun z => by cases z) (by decide)))))), ?_⟩
    dsimp only [tSeq, tAsg, gName]
    refine ⟨4, rfl, by decide, by decide, fun D hD => lc_dem (fun j => .int (0 + (j : Int))) (fun _ v => ∃ m : Nat, m ≤ 1000004000 ∧ v = .int (m : Nat)) walk_range (fun _ _ => trivial) hD (by rw [sizeLine_eq]; decide) (fun j H4 Q4 hj s4 q4 => ?_) (fun H4 vs s4 hl hv e4 => ?_)⟩
    · have hj : j < 4 := hj
      refine ⟨.ref a, rfl, a, ns, 3, rfl, s4.seq hS, by decide, by decide, fun m hm H5 s5 => ⟨_, 1000, rfl, rfl, .inr ⟨by decide, by decide⟩, _, rfl, 60, _, rfl, rfl, .inl ⟨by decide, by decide⟩, _, rfl, _, _, rfl, rfl, .inr ⟨by omega, by omega⟩, _, _, rfl, rfl, ?_⟩⟩
      have hjj : (60 : Int) * (0 + (j : Int)) * (0 + (j : Int)) = ((60 * j * j : Nat) : Int) := by rw [Int.zero_add]; push_cast; rfl
      have hj2 : 60 * j * j ≤ 540 := by
        have : j = 0 ∨ j = 1 ∨ j = 2 ∨ j = 3 := by omega
        rcases this with rfl | rfl | rfl | rfl <;> decide
      refine q4 _ _ s5 ⟨m * 1000 + 60 * j * j, by omega, ?_⟩
      rw [hjj]
      exact congrArg V.int (by omega)
    · have hl : vs.length = 4 := hl
      obtain ⟨ms, hms, hmb, rfl⟩ := pick_list (fun m : Nat => V.int (m : Nat)) (fun m => m ≤ 1000004000) vs fun j hj => hv j (show j < 4 by omega)
      refine ⟨.ref a, rfl, a, ns, 2, rfl, s4.seq hS, by decide, by decide, fun m2 hm2 H5 s5 => ⟨m2, rfl, fun nn hnl hng H6 ln s6 n6 e6 => fun p np => ?_⟩⟩
      have s46 := s4.trans (s5.trans s6)
      have sp := same_upd (o := .dK []) np
      refine ⟨.ref a, rfl, a, ns, 1, rfl, (s46.trans sp).seq hS, by decide, by decide, fun m1 hm1 H7 s7 => ⟨m1, rfl, fun aa hal hag H8 la s8 n8 e8 => ?_⟩⟩
      have s78 := s7.trans s8
      have ep : H8 p = some (.dK []) := s78 _ _ upd_same
      have e8m : H8 D = some (.lst (ms.map fun m : Nat => V.int (m : Nat))) := s78 _ _ (sp _ _ (s6 _ _ (s5 _ _ e4)))
      have e8n : H8 ln = some (.lst (nn.map V.str)) := s78 _ _ (sp _ _ e6)
      refine ⟨_, rfl, _, rfl, ep, wkv la ln D, rfl, (show 3 ≤ 15 by decide), ?_⟩
      rw [wkv_merge]
      have hpH : H p = none := s46.free np
      have hlap : la ≠ p := fun e => by rw [e, s7 _ _ upd_same] at n8; exact nomatch n8
      have hlnp : ln ≠ p := fun e => by rw [e, np] at e6; exact nomatch e6
      have hlmp : D ≠ p := fun e => by have := s6 _ _ (s5 _ _ e4); rw [e, np] at this; exact nomatch this
      refine q _ p (fun b o hb => ?_) ⟨la, ln, D, aa, nn, ms, upd_same, by rw [upd_ne hlap]; exact e8, by rw [upd_ne hlnp]; exact e8n, by rw [upd_ne hlmp]; exact e8m, hal, hag, hnl, hng, by omega, hmb⟩
      rw [upd_ne (ne_of_none hb hpH)]
      exact s78 _ _ (sp _ _ (s46 _ _ hb))
/-! ### _law_plain_fact -/
abbrev s__law_plain_fact : Stmt := topS 70
abbrev N__law_plain_fact : List Str := ["_law_world_here", "_law_cell", "_law_number", "_law_address", "_law_name", "_law_minute", "_law_word"]
abbrev P__law_plain_fact : List Str := ["_law_world_here", "_law_cell"]
theorem sc__law_plain_fact : FnScope N__law_plain_fact ["_law_world_here", "_law_cell"] (defScope s__law_plain_fact) := ⟨rfl, rfl, rfl, by decide +kernel, rfl, by decide +kernel, by decide +kernel⟩
def NewFact (H : Hp) (us : List Str) (n : Nat) (Q : VK) : Prop := ∀ H' p z x, Same H H' → H p = none → H' p = some (.tup [.str z, x]) → TextOf z us → z.length ≤ n → Q (.ref p) H'
def sp_lplain : Sp := fun vs H Q _ => ∃ (a : Addr) (c : Int), vs = [.ref a, .int c] ∧ WorldR H a ∧ ∀ us, (∀ F, PlainW F us) → NewFact H us 60 Q
theorem ok_lplain {f f1 f2 : Addr} {fd fd1 fd2 : FuncData} (F : Fun K "_law_plain_fact" "_law_plain_fact" s__law_plain_fact f fd) (T : Tx K mg tk dn md) (D__law_mixed : Def P w K mg base "_law_mixed" 1 f1 fd1 P__law_mixed sp_mixed) (D_time_text : Def P w K mg base "time_text" 5 f2 fd2 P_time_text sp_ttext) : FnOk P w K mg base CX0 6 f fd P__law_plain_fact sp_lplain := by
  refine F.ok sc__law_plain_fact (fun vs H Q E h => ?_) (fun cdv A outer s H vs Q E hr h => ?_)
  · obtain ⟨c, ns, rfl, _⟩ := h
    rfl
  · have nd := sc__law_plain_fact.nd
    obtain ⟨a, c, rfl, hW, q⟩ := h
    refine ⟨_, (pss_cons (ps_set (i := 2) nd rfl (.inl rfl) (pe_def D__law_mixed (hr.mono (by decide)) (pa_cons (pv 1) (pa_cons pe_int pa_nil))))
      (pss_cons (ps_set (i := 3) nd rfl (.inl rfl) (pe_ix (ixL K) (pe_dget (LH.unit1 hr) (pv 0) pe_str (fun _ _ => rfl)) (pe_op op_mod (pe_op op_fdiv (pv 2) pe_int) pe_int) (fun _ _ => rfl)))
      (pss_cons (ps_set (i := 4) nd rfl (.inl rfl) (pe_ix (ixL K) (pe_dget (LH.unit1 hr) (pv 0) pe_str (fun _ _ => rfl)) (pe_op op_mod (pe_op op_fdiv (pv 2) pe_int) pe_int) (fun _ _ => rfl)))
      (pss_cons (ps_set (i := 5) nd rfl (.inl rfl) (pe_op op_sub (pe_op op_add (pe_ix (ixL K) (pe_dget (LH.unit1 hr) (pv 0) pe_str (fun _ _ => rfl)) (pe_op op_mod (pe_op op_fdiv (pv 2) pe_int) pe_int) (fun _ _ => rfl)) (pe_op op_mod (pe_op op_fdiv (pv 2) pe_int) pe_int)) pe_int))
      (pss_cons (ps_set (i := 6) nd rfl (.inl rfl) (pe_ix (ixL K) (pe_lst (pa_cons pe_str (pa_cons pe_str (pa_cons pe_str (pa_cons pe_str (pa_cons pe_str (pa_cons pe_str (pa_cons pe_str pa_nil)))))))) (pe_op op_mod (pv 2) pe_int) (fun _ _ => rfl)))
      (pss_cons (ps_if (pt_cmpR op_eq (pv 6) pe_str (nomark _))
        (pss_one (ps_ret (pe_tup (pa_cons (pv 6) (pa_cons (pe_tup (pa_cons (pv 6) pa_nil)) pa_nil)))))
        pss_nil)
      (pss_cons (ps_if (pt_cmpR (oIn K) (pv 6) (pe_tup (pa_cons pe_str (pa_cons pe_str pa_nil))) (by rfl))
        (pss_one (ps_ret (pe_tup (pa_cons (pe_op op_add_str (pe_op op_add_str (pv 6) pe_str) (pv 3)) (pa_cons (pe_tup (pa_cons (pv 6) (pa_cons (pv 3) pa_nil))) pa_nil)))))
        pss_nil)
      (pss_cons (ps_if (pt_cmpR (oIn K) (pv 6) (pe_tup (pa_cons pe_str (pa_cons pe_str pa_nil))) (by rfl))
        (pss_one (ps_ret (pe_tup (pa_cons (pe_op op_add_str (pe_op op_add_str (pv 6) pe_str) (pv 4)) (pa_cons (pe_tup (pa_cons (pv 6) (pa_cons (pv 4) pa_nil))) pa_nil)))))
        pss_nil)
      (pss_one (ps_ret (pe_tup (pa_cons (pe_op op_add_str pe_str (pe_def D_time_text (hr.mono (by decide)) (pa_cons (pe_callB (call_max2 rfl) (by rfl) T.n_max (by decide +kernel) (pa_cons pe_int (pa_cons (pv 5) pa_nil))) (pa_cons (pe_op op_mul (pe_op op_mod (pe_op op_fdiv (pv 2) pe_int) pe_int) pe_int) pa_nil)))) (pa_cons (pe_tup (pa_cons pe_str (pa_cons (pe_callB (call_max2 rfl) (by rfl) T.n_max (by decide +kernel) (pa_cons pe_int (pa_cons (pv 5) pa_nil))) pa_nil))) pa_nil))))))))))))), ?_⟩
    dsimp only [tSeq, tAsg, gName]
    obtain ⟨la, ln, lm, as, ns, ms, eW, ea, en, em, hal, hag, hnl, hng, hml, hmb⟩ := hW
    obtain ⟨k1, k2, k3⟩ := wkv_get la ln lm
    refine ⟨.int c, rfl, c, 60, rfl, by decide, by decide, fun n hn H1 s1 => ?_⟩
    have g1 : DGet H1 a (.str (Str.ofString "addresses")) (some (V.ref la)) := k1 ▸ DGet.k (k := Sum.inr (Str.ofString "addresses")) (s1 _ _ eW)
    have g2 : DGet H1 a (.str (Str.ofString "names")) (some (V.ref ln)) := k2 ▸ DGet.k (k := Sum.inr (Str.ofString "names")) (s1 _ _ eW)
    have g3 : DGet H1 a (.str (Str.ofString "minutes")) (some (V.ref lm)) := k3 ▸ DGet.k (k := Sum.inr (Str.ofString "minutes")) (s1 _ _ eW)
    obtain ⟨za, hza, eza⟩ := pickM V.str as ((n : Int) / 7 % 4) (by omega) (by omega)
    obtain ⟨zn, hzn, ezn⟩ := pickM V.str ns ((n : Int) / 28 % 5) (by omega) (by omega)
    obtain ⟨m0, hm0, em0⟩ := pickM (fun m : Nat => V.int (m : Nat)) ms ((n : Int) / 140 % 4) (by omega) (by omega)
    have hza := hag _ hza
    have hzn := hng _ hzn
    have hm0 := hmb _ hm0
    obtain ⟨x, hx, ex⟩ := pickL [V.str (Str.ofString "always"), .str (Str.ofString "from"), .str (Str.ofString "to"), .str (Str.ofString "about"), .str (Str.ofString "marked"), .str (Str.ofString "to"), .str (Str.ofString "before")] ((n : Int) % 7) (by omega) (by show _ < (7 : Int); omega)
    obtain ⟨w, rfl, hw⟩ : ∃ w : Str, x = .str w ∧ (w = Str.ofString "always" ∨ (w = Str.ofString "from" ∨ w = Str.ofString "to") ∨ (w = Str.ofString "about" ∨ w = Str.ofString "marked") ∨ w = Str.ofString "before") := by
      simp only [List.mem_cons, List.mem_nil_iff, or_false] at hx
      rcases hx with rfl | rfl | rfl | rfl | rfl | rfl | rfl <;> exact ⟨_, rfl, by simp⟩
    have n2 : 2 ≤ sizeLine := by rw [sizeLine_eq]; decide
    refine ⟨.ref a, rfl, a, _, rfl, g1, .int (n : Nat), rfl, _, 7, rfl, rfl, ⟨by decide, by decide⟩, _, 4, rfl, rfl, (show (0 : Int) < 4 by decide), la, _, _, .str za, rfl, rfl, .inl (.inl (s1 _ _ ea)), eza, ?_⟩
    refine ⟨.ref a, rfl, a, _, rfl, g2, .int (n : Nat), rfl, _, 28, rfl, rfl, ⟨by decide, by decide⟩, _, 5, rfl, rfl, (show (0 : Int) < 5 by decide), ln, _, _, .str zn, rfl, rfl, .inl (.inl (s1 _ _ en)), ezn, ?_⟩
    refine ⟨.ref a, rfl, a, _, rfl, g3, .int (n : Nat), rfl, _, 140, rfl, rfl, ⟨by decide, by decide⟩, _, 4, rfl, rfl, (show (0 : Int) < 4 by decide), lm, _, _, .int (m0 : Nat), rfl, rfl, .inl (.inl (s1 _ _ em)), em0, .int (n : Nat), rfl, _, 560, rfl, rfl, ⟨by decide, by decide⟩, _, 3, rfl, rfl, (show (0 : Int) < 3 by decide), _, _, rfl, rfl, _, 1, rfl, rfl, ?_⟩
    refine ⟨by show 7 ≤ _; rw [sizeLine_eq]; decide, fun tl ntl => ⟨.int (n : Nat), rfl, _, 7, rfl, rfl, (show (0 : Int) < 7 by decide), tl, _, _, .str w, rfl, rfl, .inl (.inl upd_same), ex, ?_⟩⟩
    have sT := s1.trans (same_upd (o := .lst [V.str (Str.ofString "always"), .str (Str.ofString "from"), .str (Str.ofString "to"), .str (Str.ofString "about"), .str (Str.ofString "marked"), .str (Str.ofString "to"), .str (Str.ofString "before")]) ntl)
    dsimp only
    have hsp : (Str.ofString " ").length = 1 := by decide +kernel
    have hzaS : za.length ≤ 54 := addr_len hza
    have hznS : zn.length ≤ 12 := name_len hzn
    have hwl : w.length ≤ 6 := by rcases hw with rfl | (rfl | rfl) | (rfl | rfl) | rfl <;> decide +kernel
    have fl1 : ([V.str (Str.ofString "from"), .str (Str.ofString "to")]).all flatV = true := by decide +kernel
    have fl2 : ([V.str (Str.ofString "about"), .str (Str.ofString "marked")]).all flatV = true := by decide +kernel
    rcases hw with rfl | hw | hw | rfl
    · refine ifT true (fun k q1 => ⟨_, rfl, rfl, _, rfl, TellB.eq (by decide +kernel) q1 _ (Same.refl _)⟩) (fun _ H2 s2 => ?_) (fun h => nomatch h)
      refine ⟨_, rfl, _, rfl, by show 1 ≤ _; rw [sizeLine_eq]; decide, fun t1 n1 => ⟨n2, fun t nt => ?_⟩⟩
      exact q _ (fun F => .inl rfl) _ t _ _ (sT.trans (s2.trans ((same_upd n1).trans (same_upd nt)))) ((sT.trans (s2.trans (same_upd n1))).free nt) upd_same rfl (by decide +kernel)
    · refine ifT false (fun k q1 => ⟨_, rfl, rfl, _, rfl, TellB.eq (by rcases hw with rfl | rfl <;> decide +kernel) q1 _ (Same.refl _)⟩) (fun h => nomatch h) (fun _ H2 s2 => ?_)
      dsimp only [tNext, tSeq]
      refine ifT true (fun k q1 => ⟨_, rfl, n2, fun t0 n0 => ⟨t0, _, rfl, .inr (.inl (.inl upd_same)), rfl, fl1, _, rfl, TellB.eq (by rcases hw with rfl | rfl <;> decide +kernel) q1 _ (same_upd n0)⟩⟩) (fun _ H3 s3 => ?_) (fun h => nomatch h)
      refine ⟨_, rfl, _, _, rfl, rfl, by rw [hsp, sizeLine_eq]; omega, _, rfl, _, _, rfl, rfl, by rw [len_app, hsp, sizeLine_eq]; omega, _, rfl, _, rfl, n2, fun t1 n1 => ⟨n2, fun t nt => ?_⟩⟩
      exact q [w, za] (fun F => .inr (.inr (.inl ⟨w, za, rfl, hw, hza⟩))) _ t _ _ (sT.trans (s2.trans (s3.trans ((same_upd n1).trans (same_upd nt))))) ((sT.trans (s2.trans (s3.trans (same_upd n1)))).free nt) upd_same (text2 w za) (by rw [len_app, len_app, hsp]; rcases hw with rfl | rfl <;> (have h4 : (Str.ofString "from").length = 4 := by decide +kernel) <;> (have h5 : (Str.ofString "to").length = 2 := by decide +kernel) <;> omega)
    · refine ifT false (fun k q1 => ⟨_, rfl, rfl, _, rfl, TellB.eq (by rcases hw with rfl | rfl <;> decide +kernel) q1 _ (Same.refl _)⟩) (fun h => nomatch h) (fun _ H2 s2 => ?_)
      dsimp only [tNext, tSeq]
      refine ifT false (fun k q1 => ⟨_, rfl, n2, fun t0 n0 => ⟨t0, _, rfl, .inr (.inl (.inl upd_same)), rfl, fl1, _, rfl, TellB.eq (by rcases hw with rfl | rfl <;> decide +kernel) q1 _ (same_upd n0)⟩⟩) (fun h => nomatch h) (fun _ H3 s3 => ?_)
      dsimp only [tNext, tSeq]
      refine ifT true (fun k q1 => ⟨_, rfl, n2, fun t0 n0 => ⟨t0, _, rfl, .inr (.inl (.inl upd_same)), rfl, fl2, _, rfl, TellB.eq (by rcases hw with rfl | rfl <;> decide +kernel) q1 _ (same_upd n0)⟩⟩) (fun _ H4 s4 => ?_) (fun h => nomatch h)
      refine ⟨_, rfl, _, _, rfl, rfl, by rw [hsp, sizeLine_eq]; omega, _, rfl, _, _, rfl, rfl, by rw [len_app, hsp, sizeLine_eq]; omega, _, rfl, _, rfl, n2, fun t1 n1 => ⟨n2, fun t nt => ?_⟩⟩
      exact q [w, zn] (fun F => .inr (.inl ⟨w, zn, rfl, hw, hzn⟩)) _ t _ _ (sT.trans (s2.trans (s3.trans (s4.trans ((same_upd n1).trans (same_upd nt)))))) ((sT.trans (s2.trans (s3.trans (s4.trans (same_upd n1))))).free nt) upd_same (text2 w zn) (by rw [len_app, len_app, hsp]; omega)
    · refine ifT false (fun k q1 => ⟨_, rfl, rfl, _, rfl, TellB.eq (by decide +kernel) q1 _ (Same.refl _)⟩) (fun h => nomatch h) (fun _ H2 s2 => ?_)
      dsimp only [tNext, tSeq]
      refine ifT false (fun k q1 => ⟨_, rfl, n2, fun t0 n0 => ⟨t0, _, rfl, .inr (.inl (.inl upd_same)), rfl, fl1, _, rfl, TellB.eq (by decide +kernel) q1 _ (same_upd n0)⟩⟩) (fun h => nomatch h) (fun _ H3 s3 => ?_)
      dsimp only [tNext, tSeq]
      refine ifT false (fun k q1 => ⟨_, rfl, n2, fun t0 n0 => ⟨t0, _, rfl, .inr (.inl (.inl upd_same)), rfl, fl2, _, rfl, TellB.eq (by decide +kernel) q1 _ (same_upd n0)⟩⟩) (fun h => nomatch h) (fun _ H4 s4 => ?_)
      dsimp only [tNext, tSeq]
      have hr : 0 ≤ (n : Int) / 560 % 3 ∧ (n : Int) / 560 % 3 < 3 := ⟨by omega, by omega⟩
      generalize (n : Int) / 560 % 3 = r at *
      obtain ⟨M, hM, hMb⟩ : ∃ M : Nat, (if (m0 : Int) + r - 1 > 0 then (m0 : Int) + r - 1 else 0) = (M : Int) ∧ M ≤ 1000004002 := by
        split
        · exact ⟨((m0 : Int) + r - 1).toNat, by omega, by omega⟩
        · exact ⟨0, rfl, by decide⟩
      obtain ⟨b, hb, hb2⟩ : ∃ b : Nat, (n : Int) / 1680 % 2 = (b : Int) ∧ b < 2 := ⟨n / 1680 % 2, by omega, by omega⟩
      obtain ⟨y, mm, d, hD, hN⟩ := date_of ((M + b * 90) / 1440) (by omega)
      refine ⟨.int ((m0 : Int) + r - 1), rfl, 0, _, rfl, .int (n : Nat), rfl, _, 1680, rfl, rfl, ⟨by decide, by decide⟩, _, 2, rfl, rfl, (show (0 : Int) < 2 by decide), _, 90, rfl, rfl, .inr ⟨by decide, by decide⟩, y, mm, d, (M + b * 90) % 1440, (b : Int) * 90, ?_, hD, Nat.mod_lt _ (by decide), by omega, fun H5 s5 => ?_⟩
      · show [V.int (if (m0 : Int) + r - 1 > 0 then (m0 : Int) + r - 1 else 0), V.int ((n : Int) / 1680 % 2 * 90)] = _
        rw [hM, hb, hN]
        have : (M : Int) = 1440 * (((M + b * 90) / 1440 : Nat) : Int) + (((M + b * 90) % 1440 : Nat) : Int) - (b : Int) * 90 := by omega
        rw [← this]
      · have hdl := dayS_len y mm d
        have e : TL.tl (Str.ofString "before " ++ SX.S (timeL y mm d ((M + b * 90) % 1440) ((b : Int) * 90))) = TL.joinL [32] ([Str.ofString "before", SX.S (dateL y mm d), dayS y mm d, SX.S (clockL ((M + b * 90) % 1440)), SX.S (aheadL ((b : Int) * 90))].map TL.tl) := by
          rw [TL.tl_append, show TL.tl (Str.ofString "before ") = [98, 101, 102, 111, 114, 101, 32] by decide +kernel]
          show _ ++ timeL _ _ _ _ _ = TL.joinL [32] [TL.tl (Str.ofString "before"), dateL y mm d, TL.tl (dayS y mm d), clockL ((M + b * 90) % 1440), aheadL ((b : Int) * 90)]
          rw [show TL.tl (Str.ofString "before") = [98, 101, 102, 111, 114, 101] by decide +kernel]
          unfold timeL dayS clockL
          simp [TL.joinL]
        have hbl : (Str.ofString "before ").length = 7 := by decide +kernel
        have hll : (SX.S (timeL y mm d ((M + b * 90) % 1440) ((b : Int) * 90))).length ≤ 53 := by
          show (⟨_⟩ : Str).length ≤ 53
          rw [show (SX.S (timeL y mm d ((M + b * 90) % 1440) ((b : Int) * 90))).length = (timeL y mm d ((M + b * 90) % 1440) ((b : Int) * 90)).length from mk_len _]
          unfold timeL dateL four two aheadL two
          rw [TL.len_tl] at hdl
          unfold dayS at hdl
          simp only [List.length_append, List.length_cons, List.length_nil]
          omega
        refine ⟨Str.ofString "before ", SX.S (timeL y mm d ((M + b * 90) % 1440) ((b : Int) * 90)), rfl, rfl, by rw [hbl, sizeLine_eq]; omega, ?_⟩
        refine ⟨.int ((m0 : Int) + r - 1), rfl, 0, (m0 : Int) + r - 1, rfl, ?_⟩
        dsimp only [tNil]
        refine ⟨n2, ?_⟩
        intro t1 n1
        refine ⟨n2, ?_⟩
        intro t nt
        exact q [Str.ofString "before", SX.S (dateL y mm d), dayS y mm d, SX.S (clockL ((M + b * 90) % 1440)), SX.S (aheadL ((b : Int) * 90))] (fun F => .inr (.inr (.inr (.inl ⟨_, rfl, y, mm, d, (M + b * 90) % 1440, (b : Int) * 90, hD, Nat.mod_lt _ (by decide), by omega, rfl⟩)))) _ t _ _ (sT.trans (s2.trans (s3.trans (s4.trans (s5.trans ((same_upd n1).trans (same_upd nt))))))) ((sT.trans (s2.trans (s3.trans (s4.trans (s5.trans (same_upd n1)))))).free nt) upd_same e (by rw [len_app, hbl]; omega)
end
end K31

namespace K31
open PySem PySem.Spec PyProof.Rows L2 LH
/-! ### facts as the law draws them -/
theorem joinL_app (S : List Nat) : ∀ a b : List (List Nat), a ≠ [] → b ≠ [] → TL.joinL S (a ++ b) = TL.joinL S a ++ (S ++ TL.joinL S b)
  | [], _, h, _ => absurd rfl h
  | [x], [], _, h => absurd rfl h
  | [x], y :: r, _, _ => rfl
  | x :: y :: r, b, _, hb => by
    have ih := joinL_app S (y :: r) b (by simp) hb
    show x ++ (S ++ TL.joinL S (y :: r ++ b)) = x ++ (S ++ TL.joinL S (y :: r)) ++ (S ++ TL.joinL S b)
    rw [ih, List.append_assoc, List.append_assoc]
theorem factw_ne {F : List Str → Prop} {us : List Str} (h : FactW (PlainW F) us) : us ≠ [] := by
  obtain ⟨n, ps, _, rfl, hp⟩ := h
  obtain ⟨z, r, rfl, _⟩ := plain_head hp
  simp
theorem seqw_ne {F : List Str → Prop} {us : List Str} (h : SeqW (FactW (PlainW F)) us) : us ≠ [] := by
  cases h with
  | one _ h => exact factw_ne h
  | more us c r h _ _ => simp
theorem seqw_app {P : List Str → Prop} {a b : List Str} {c : Str} (ha : SeqW P a) (hc : c = Str.ofString "and" ∨ c = Str.ofString "or") (hb : SeqW P b) : SeqW P (a ++ c :: b) := by
  induction ha with
  | one us h => exact .more us c b h hc hb
  | more us d r h hd _ ih => rw [List.append_assoc]; exact .more us d (r ++ c :: b) h hd ih
/-- texts of facts, joined -/
theorem join_facts {F : List Str → Prop} (c : Str) (hc : c = Str.ofString "and" ∨ c = Str.ofString "or") : ∀ zs : List Str, zs ≠ [] → (∀ z ∈ zs, ∃ us, SeqW (FactW (PlainW F)) us ∧ TextOf z us) → ∃ us, SeqW (FactW (PlainW F)) us ∧ TL.joinL (32 :: TL.tl c ++ [32]) (zs.map TL.tl) = TL.joinL [32] (us.map TL.tl)
  | [], h, _ => absurd rfl h
  | [z], _, h => by
    obtain ⟨us, h1, h2⟩ := h z (by simp)
    exact ⟨us, h1, h2⟩
  | z :: y :: r, _, h => by
    obtain ⟨us, h1, h2⟩ := h z (by simp)
    obtain ⟨vs, h3, h4⟩ := join_facts c hc (y :: r) (by simp) fun x hx => h x (List.mem_cons_of_mem _ hx)
    refine ⟨us ++ c :: vs, seqw_app h1 hc h3, ?_⟩
    show TL.tl z ++ ((32 :: TL.tl c ++ [32]) ++ TL.joinL (32 :: TL.tl c ++ [32]) ((y :: r).map TL.tl)) = _
    have h2 : TL.tl z = TL.joinL [32] (us.map TL.tl) := h2
    rw [h4, h2, List.map_append, List.map_cons, joinL_app [32] _ _ (by intro e; exact seqw_ne h1 (List.map_eq_nil_iff.mp e)) (by simp)]
    have hv : vs.map TL.tl ≠ [] := fun e => seqw_ne h3 (List.map_eq_nil_iff.mp e)
    have : TL.joinL [32] (TL.tl c :: vs.map TL.tl) = TL.tl c ++ ([32] ++ TL.joinL [32] (vs.map TL.tl)) := by
      cases e : vs.map TL.tl with
      | nil => exact absurd e hv
      | cons x r => rfl
    rw [this]
    simp
theorem text_bracket {z : Str} {us : List Str} (h : TextOf z us) (hn : us ≠ []) : TextOf (Str.ofString "( " ++ z ++ Str.ofString " )") (Str.ofString "(" :: (us ++ [Str.ofString ")"])) := by
  unfold TextOf at *
  have hm : us.map TL.tl ≠ [] := fun e => hn (List.map_eq_nil_iff.mp e)
  rw [TL.tl_append, TL.tl_append, h, List.map_cons, List.map_append, show TL.tl (Str.ofString "( ") = [40] ++ [32] by decide +kernel, show TL.tl (Str.ofString " )") = [32, 41] by decide +kernel]
  show [40] ++ [32] ++ _ ++ [32, 41] = TL.joinL [32] ([[40]] ++ (us.map TL.tl ++ [[41]]))
  rw [joinL_app [32] [[40]] _ (by simp) (by simp), joinL_app [32] _ [[41]] hm (by simp)]
  show [40] ++ [32] ++ TL.joinL [32] (us.map TL.tl) ++ [32, 41] = [40] ++ ([32] ++ (TL.joinL [32] (us.map TL.tl) ++ ([32] ++ [41])))
  simp
theorem text_nots {z : Str} {us : List Str} (h : TextOf z us) (hn : us ≠ []) (n : Nat) : TextOf (repS (Str.ofString "not ") (n : Int) ++ z) (List.replicate n (Str.ofString "not") ++ us) := by
  unfold TextOf at *
  rw [TL.tl_append, h]
  have e : TL.tl (repS (Str.ofString "not ") (n : Int)) = (List.replicate n [110, 111, 116, 32]).flatten := by
    unfold repS
    rw [Int.toNat_natCast, show (Str.ofString "not ").cps.toList = [110, 111, 116, 32] by decide +kernel]
  rw [e]
  clear e h
  induction n with
  | zero => rfl
  | succ n ih =>
    rw [List.replicate_succ, List.replicate_succ, List.flatten_cons, List.append_assoc, ih]
    have hm : (List.replicate n (Str.ofString "not") ++ us).map TL.tl ≠ [] := fun e => by
      have := List.map_eq_nil_iff.mp e
      exact hn (List.append_eq_nil_iff.mp this).2
    have hn : TL.tl (Str.ofString "not") = [110, 111, 116] := by decide +kernel
    show _ = TL.joinL [32] ([TL.tl (Str.ofString "not")] ++ (List.replicate n (Str.ofString "not") ++ us).map TL.tl)
    rw [hn, joinL_app [32] [[110, 111, 116]] _ (by simp) hm]
    rfl
theorem nots_len (n : Nat) : (repS (Str.ofString "not ") (n : Int)).length = 4 * n := by
  have e : TL.tl (repS (Str.ofString "not ") (n : Int)) = (List.replicate n [110, 111, 116, 32]).flatten := by
    unfold repS
    rw [Int.toNat_natCast, show (Str.ofString "not ").cps.toList = [110, 111, 116, 32] by decide +kernel]
  rw [TL.len_tl, e]
  clear e
  induction n with
  | zero => rfl
  | succ n ih => rw [List.replicate_succ, List.flatten_cons, List.length_append, ih]; show 4 + _ = _; omega
/-- a list of pairs of a text and a tree -/
def FL (H : Hp) (l : Addr) (ts : List Addr) (zs : List Str) (xs : Nat → V) : Prop := H l = some (.lst (ts.map V.ref)) ∧ ts.length = zs.length ∧ ∀ i, i < zs.length → H (ts.getD i 0) = some (.tup [.str (zs.getD i Str.empty), xs i])
theorem FL.same {H H' : Hp} {l : Addr} {ts : List Addr} {zs : List Str} {xs : Nat → V} (s : Same H H') (h : FL H l ts zs xs) : FL H' l ts zs xs := ⟨s _ _ h.1, h.2.1, fun i hi => s _ _ (h.2.2 i hi)⟩
theorem FL.add {H : Hp} {l p : Addr} {ts : List Addr} {zs : List Str} {xs : Nat → V} {z : Str} {x : V} (h : FL H l ts zs xs) (hp : H p = some (.tup [.str z, x])) : FL (upd H l (.lst (ts.map V.ref ++ [V.ref p]))) l (ts ++ [p]) (zs ++ [z]) (fun i => if i = zs.length then x else xs i) := by
  obtain ⟨h1, h2, h3⟩ := h
  refine ⟨by rw [upd_same, List.map_append]; rfl, by rw [List.length_append, List.length_append, h2]; rfl, fun i hi => ?_⟩
  rw [List.length_append, List.length_singleton] at hi
  by_cases e : i = zs.length
  · subst e
    rw [getD_app_r _ _ _ (by omega), h2, Nat.sub_self, getD_app_r _ _ _ (Nat.le_refl _), Nat.sub_self]
    show upd H l _ p = some (HO.tup [V.str z, if zs.length = zs.length then x else xs zs.length])
    rw [if_pos rfl]
    rw [upd_ne (fun e => by rw [e, h1] at hp; exact nomatch hp)]
    exact hp
  · rw [getD_app_l _ _ _ (by omega), getD_app_l _ _ _ (by omega)]
    show _ = some (HO.tup [V.str (zs.getD i Str.empty), if i = zs.length then x else xs i])
    rw [if_neg e]
    have := h3 i (by omega)
    rw [upd_ne (fun e => by rw [e, h1] at this; exact nomatch this)]
    exact this
/-- a comprehension over pairs that takes each -/
theorem lc_two {K : PySem.W.Frag} {a : Addr} {ts : List Addr} {ps : Nat → V × V} {te : TE} {c1 c2 : Nat} {σ : L2.St} {H1 : Hp} {D : Addr} {Qd : Hp → Prop} (f : Nat → V) (hne : c1 ≠ c2) (hL : SqL K H1 a (ts.map V.ref)) (hT : ∀ i, i < ts.length → SqT K H1 (ts.getD i 0) [(ps i).1, (ps i).2])
    (hD : H1 D = none) (hn : ts.length ≤ sizeLine)
    (he : ∀ i H Q, i < ts.length → Same H1 H → Tell H (f i) Q → te ((((σ.set c2 none).set c1 none).set c1 (some (ps i).1)).set c2 (some (ps i).2)) H Q)
    (hd : ∀ H, Same H1 H → H D = some (.lst ((List.range ts.length).map f)) → Qd H) :
    ∃ W : Nat → Nat → Hp → Prop, (∃ m, W 0 m (upd H1 D (.lst []))) ∧ ∀ i m H, W i m H →
      ((Itl K a).stop i H ∧ Qd H) ∨ ((Itl K a).go i H ∧ ∃ Nx : Hp → Prop, (∀ H', Nx H' → ∃ m', m' < m ∧ W (i + 1) m' H') ∧ ∀ x H', (Itl K a).yld i H x H' → gTup K 2 (gCons (gName c1) (gCons (gName c2) gNil)) x (wipe σ [c1, c2]) H' fun σ2 H2 => wipe σ2 [c1, c2] = wipe σ [c1, c2] ∧ tYes σ2 H2 fun b H3 =>
        if b = true then te σ2 H3 fun y H4 => ∃ acc, H4 D = some (.lst acc) ∧ acc.length < sizeLine ∧ Nx (upd H4 D (.lst (acc ++ [y]))) else Nx H3) :=
  lc_pairs f (fun _ => true) hne hL hT hD hn (fun i H Q hi s q => q _ (Same.refl _)) (fun i H Q hi s _ q => he i H Q hi s q) (fun H s e => hd H s (by rw [List.filter_eq_self.mpr (fun _ _ => rfl)] at e; exact e))
theorem ifJoin {t : TT} {a : TS} {D : Ends} {σ : L2.St} {H : Hp} (Pj : L2.St → Hp → Prop) (h : ∀ D', (∀ σ H, Pj σ H → D'.nx σ H) → tIfS t a tNext D' σ H) (rest : ∀ σ H, Pj σ H → D.nx σ H) : tIfS t a tNext D σ H := h D rest
/-- the lengths of texts, each with a few signs behind -/
def tot (k : Nat) (zs : List Str) : Nat := (zs.map fun z => z.length + k).sum
theorem tot_add (k : Nat) (zs : List Str) (z : Str) : tot k (zs ++ [z]) = tot k zs + (z.length + k) := by
  unfold tot
  rw [List.map_append, List.sum_append]
  simp
theorem tot_sum (k : Nat) (zs : List Str) : (zs.map (·.length)).sum + zs.length * k = tot k zs := by
  induction zs with
  | nil => simp [tot]
  | cons z r ih =>
    unfold tot at *
    rw [List.map_cons, List.sum_cons, List.length_cons, List.map_cons, List.sum_cons, ← ih, Nat.succ_mul]
    omega
theorem join_tot (s : Str) (zs : List Str) : (Txt.join s zs).length ≤ tot s.length zs := by
  rw [TL.len_tl, TL.join_eq, TL.tl_join]
  have := joinL_len (TL.tl s) (zs.map TL.tl)
  rw [List.map_map, List.length_map, ← TL.len_tl] at this
  have e : (zs.map (List.length ∘ TL.tl)) = zs.map (·.length) := List.map_congr_left fun z _ => (TL.len_tl z).symm
  rw [e, tot_sum] at this
  exact this
section
variable {P : Program} {w : World} {K : PySem.W.Frag} {mg : Str → Option Value} {base : Heap} {tk : Nat → Tok} {ca : Nat → Addr} {dn md nd1 pd al C : Addr}
/-- texts joined, and the trees told beside them -/
theorem tJoinT {x0 x1 x2 x3 x4 x5 x6 x7 x8 x9 x10 x11 : Option V} {tv : TE} {H : Hp} {Q : VK} {l : Addr} {ts : List Addr} {zs : List Str} {xs : Nat → V} (sep wd : Str) (hv : ∀ H Q, Q (.ref l) H → tv [x0, x1, x2, x3, x4, x5, x6, x7, x8, x9, x10, x11] H Q) (hF : FL H l ts zs xs) (hn : zs.length ≤ 100) (hs : tot sep.length zs ≤ 16777216) (q : ∀ H' t x, Same H H' → H t = none → H' t = some (.tup [.str (Txt.join sep zs), x]) → Q (.ref t) H') :
    tTup (tCons (tM1 (fun x xs H_1 Q => ∃ a p ys, x = V.str a ∧ xs = [V.ref p] ∧ (SqL K H_1 p (List.map V.str ys) ∨ SqT K H_1 p (List.map V.str ys)) ∧ (List.map (fun x => x.length) ys).sum + ys.length * a.length ≤ 16777216 ∧ Q (V.str (Txt.join a ys)) H_1) (tC (V.str sep)) (tLc (iList K tv) (gTup K 2 (gCons (gName 10) (gCons (gName 11) gNil))) tYes (tVar 10) [10, 11]))
      (tCons (tTup (tCons (tC (V.str wd)) (tCons (tLc (iList K tv) (gTup K 2 (gCons (gName 10) (gCons (gName 11) gNil))) tYes (tVar 11) [10, 11]) tNil))) tNil)) [x0, x1, x2, x3, x4, x5, x6, x7, x8, x9, x10, x11] H Q := by
  have n2 : 2 ≤ sizeLine := by rw [sizeLine_eq]; decide
  have htl := hF.2.1
  refine ⟨⟨_, rfl⟩, hv _ _ ⟨l, rfl, ⟨_, .inl (.inl hF.1)⟩, fun D hD => lc_two (ts := ts) (ps := fun i => (.str (zs.getD i Str.empty), xs i)) (fun i => .str (zs.getD i Str.empty)) (by decide) (.inl (.inl hF.1)) (fun i hi => .inl (.inl (hF.2.2 i (by omega)))) hD (by rw [sizeLine_eq]; omega) (fun i H4 Q4 hi s4 q4 => ⟨_, rfl, q4 _ (Same.refl _)⟩) (fun H4 s4 e4 => ?_)⟩⟩
  have e4' : H4 D = some (.lst (zs.map V.str)) := by rw [e4, htl, map_range zs Str.empty V.str]
  refine ⟨sep, D, zs, rfl, rfl, .inl (.inl (.inl e4')), by rw [tot_sum]; exact hs, ?_⟩
  have hF4 := hF.same s4
  refine hv _ _ ⟨l, rfl, ⟨_, .inl (.inl hF4.1)⟩, fun D2 hD2 => lc_two (ts := ts) (ps := fun i => (.str (zs.getD i Str.empty), xs i)) xs (by decide) (.inl (.inl hF4.1)) (fun i hi => .inl (.inl (hF4.2.2 i (by omega)))) hD2 (by rw [sizeLine_eq]; omega) (fun i H5 Q5 hi s5 q5 => ⟨_, rfl, q5 _ (Same.refl _)⟩) (fun H5 s5 e5 => ?_)⟩
  refine ⟨n2, fun t1 n1 => ⟨n2, fun t nt => ?_⟩⟩
  exact q _ t (.ref t1) ((s4.trans s5).trans ((same_upd n1).trans (same_upd nt))) (((s4.trans s5).trans (same_upd n1)).free nt) upd_same
/-! ### _law_facts -/
abbrev s__law_facts : Stmt := topS 71
abbrev N__law_facts : List Str := ["_law_world_here", "_law_cell", "_law_deep", "_law_number", "_law_terms", "_law_j", "_law_facts_here", "_law_k", "_law_more", "_law_nots", "_law_text_here", "_law_tree"]
abbrev P__law_facts : List Str := ["_law_world_here", "_law_cell", "_law_deep"]
theorem sc__law_facts : FnScope N__law_facts ["_law_world_here", "_law_cell", "_law_deep"] (defScope s__law_facts) := ⟨rfl, rfl, rfl, by decide +kernel, rfl, by decide +kernel, by decide +kernel⟩
def sp_lfacts (d : Nat) : Sp := fun vs H Q _ => ∃ (a : Addr) (c : Int), vs = [.ref a, .int c, .int (d : Nat)] ∧ WorldR H a ∧ ∀ us, FactsD (d + 1) us → NewFact H us (600 * (d + 1)) Q
theorem WorldR.same {H H' : Hp} {a : Addr} (s : Same H H') (h : WorldR H a) : WorldR H' a := by
  obtain ⟨la, ln, lm, as, ns, ms, eW, ea, en, em, h⟩ := h
  exact ⟨la, ln, lm, as, ns, ms, s _ _ eW, s _ _ ea, s _ _ en, s _ _ em, h⟩
theorem ok_lfacts {k d : Nat} {f f1 f2 f3 : Addr} {fd fd1 fd2 fd3 : FuncData} (hk : 6 ≤ k) (hd4 : d ≤ 4) (F : Fun K "_law_facts" "_law_facts" s__law_facts f fd) (T : Tx K mg tk dn md) (D__law_mixed : Def P w K mg base "_law_mixed" 1 f1 fd1 P__law_mixed sp_mixed) (D__law_plain_fact : Def P w K mg base "_law_plain_fact" 6 f2 fd2 P__law_plain_fact sp_lplain) (D__law_facts : Def P w K mg base "_law_facts" k f3 fd3 P__law_facts (fun vs H Q E => ∃ e, d = e + 1 ∧ sp_lfacts e vs H Q E)) : FnOk P w K mg base CX0 (k + 1) f fd P__law_facts (sp_lfacts d) := by
  refine F.ok sc__law_facts (fun vs H Q E h => ?_) (fun cdv A outer s H vs Q E hr h => ?_)
  · obtain ⟨c, ns, rfl, _⟩ := h
    rfl
  · have nd := sc__law_facts.nd
    obtain ⟨a, c, rfl, hW, q⟩ := h
    refine ⟨_, (pss_cons (ps_set (i := 3) nd rfl (.inl rfl) (pe_def D__law_mixed (hr.mono (by omega)) (pa_cons (pv 1) (pa_cons (pe_op op_add pe_int (pv 2)) pa_nil))))
      (pss_cons (ps_set (i := 4) nd rfl (.inl rfl) (pe_lst pa_nil))
      (pss_cons (ps_for PassesOwn.never rfl (pi_range1 (by rfl) T.n_range (pa_cons (pe_op op_add pe_int (pe_op op_mod (pv 3) pe_int)) pa_nil)) (pg_name (i := 5) nd rfl (Or.inl rfl))
        (pss_cons (ps_set (i := 6) nd rfl (.inl rfl) (pe_lst pa_nil))
        (pss_cons (ps_for PassesOwn.never rfl (pi_range1 (by rfl) T.n_range (pa_cons (pe_op op_add pe_int (pe_op op_mod (pe_op op_fdiv (pe_op op_fdiv (pv 3) pe_int) (pe_op op_add (pv 5) pe_int)) pe_int)) pa_nil)) (pg_name (i := 7) nd rfl (Or.inl rfl))
          (pss_cons (ps_set (i := 8) nd rfl (.inl rfl) (pe_def D__law_mixed (hr.mono (by omega)) (pa_cons (pv 1) (pa_cons (pe_op op_add (pe_op op_add (pe_op op_add pe_int (pe_op op_mul pe_int (pv 2))) (pe_op op_mul pe_int (pv 5))) (pv 7)) pa_nil))))
          (pss_cons (ps_asg (pe_def D__law_plain_fact (hr.mono (by omega)) (pa_cons (pv 0) (pa_cons (pe_op op_add (pv 1) (pv 8)) pa_nil))) (pg_tup rfl (pgs_cons (pg_name (i := 10) nd rfl (Or.inl rfl)) (pgs_cons (pg_name (i := 11) nd rfl (Or.inl rfl)) pgs_nil))))
          (pss_cons (ps_if (PW.pt (pw_and (pt_cmpR op_gt (pv 2) pe_int (nomark _)) (pw_and1 (pt_cmpR op_eq (pe_op op_add (pe_op op_mul pe_int (pv 5)) (pv 7)) (pe_op op_mod (pe_op op_fdiv (pv 3) pe_int) pe_int) (nomark _)))))
            (pss_cons (ps_asg (pe_def D__law_facts (hr.mono (by omega)) (pa_cons (pv 0) (pa_cons (pe_op op_add (pv 1) (pv 8)) (pa_cons (pe_op op_sub (pv 2) pe_int) pa_nil)))) (pg_tup rfl (pgs_cons (pg_name (i := 10) nd rfl (Or.inl rfl)) (pgs_cons (pg_name (i := 11) nd rfl (Or.inl rfl)) pgs_nil))))
            (pss_one (ps_set (i := 10) nd rfl (.inl rfl) (pe_op op_add_str (pe_op op_add_str pe_str (pv 10)) pe_str))))
            pss_nil)
          (pss_cons (ps_set (i := 9) nd rfl (.inl rfl) (pe_ix (ixL K) (pe_lst (pa_cons pe_int (pa_cons pe_int (pa_cons pe_int (pa_cons pe_int (pa_cons pe_int (pa_cons pe_int pa_nil))))))) (pe_op op_mod (pv 8) pe_int) (fun _ _ => rfl)))
          (pss_one (ps_expr (pe_bm PySem.F.plainAttrs_list PySem.F.slot_list_append PySem.F.type_list_append mt_append (pv 6) (pa_cons (pe_tup (pa_cons (pe_op op_add_str (pe_op op_mul_str pe_str (pv 9)) (pv 10)) (pa_cons (pe_ix (ixL K) (pe_lst (pa_cons (pv 11) (pa_cons (pe_tup (pa_cons pe_str (pa_cons (pv 11) pa_nil))) pa_nil))) (pe_op op_mod (pv 9) pe_int) (fun _ _ => rfl)) pa_nil))) pa_nil)))))))))
        (pss_one (ps_expr (pe_bm PySem.F.plainAttrs_list PySem.F.slot_list_append PySem.F.type_list_append mt_append (pv 4) (pa_cons (pe_tup (pa_cons (pe_join pe_str (pe_lc (own := [("_law_text_here", 10), ("_law_tree", 11)]) (g := gTup K 2 (gCons (gName 10) (gCons (gName 11) gNil))) (by rfl) nd (pi_list (pv 6)) (blkOk_by (N := N__law_facts) (sc := defScope s__law_facts) (by decide +kernel)) (fun _ _ _ _ _ => by exact (pg_tup rfl (pgs_cons (pg_name (i := 10) nd rfl (Or.inl rfl)) (pgs_cons (pg_name (i := 11) nd rfl (Or.inl rfl)) pgs_nil)))) (fun _ _ _ _ _ => pts_nil) (fun _ _ _ _ _ => (pv 10)))) (pa_cons (pe_tup (pa_cons pe_str (pa_cons (pe_lc (own := [("_law_text_here", 10), ("_law_tree", 11)]) (g := gTup K 2 (gCons (gName 10) (gCons (gName 11) gNil))) (by rfl) nd (pi_list (pv 6)) (blkOk_by (N := N__law_facts) (sc := defScope s__law_facts) (by decide +kernel)) (fun _ _ _ _ _ => by exact (pg_tup rfl (pgs_cons (pg_name (i := 10) nd rfl (Or.inl rfl)) (pgs_cons (pg_name (i := 11) nd rfl (Or.inl rfl)) pgs_nil)))) (fun _ _ _ _ _ => pts_nil) (fun _ _ _ _ _ => (pv 11))) pa_nil))) pa_nil))) pa_nil)))))))
      (pss_one (ps_ret (pe_tup (pa_cons (pe_join pe_str (pe_lc (own := [("_law_text_here", 10), ("_law_tree", 11)]) (g := gTup K 2 (gCons (gName 10) (gCons (gName 11) gNil))) (by rfl) nd (pi_list (pv 4)) (blkOk_by (N := N__law_facts) (sc := defScope s__law_facts) (by decide +kernel)) (fun _ _ _ _ _ => by exact (pg_tup rfl (pgs_cons (pg_name (i := 10) nd rfl (Or.inl rfl)) (pgs_cons (pg_name (i := 11) nd rfl (Or.inl rfl)) pgs_nil)))) (fun _ _ _ _ _ => pts_nil) (fun _ _ _ _ _ => (pv 10)))) (pa_cons (pe_tup (pa_cons pe_str (pa_cons (pe_lc (own := [("_law_text_here", 10), ("_law_tree", 11)]) (g := gTup K 2 (gCons (gName 10) (gCons (gName 11) gNil))) (by rfl) nd (pi_list (pv 4)) (blkOk_by (N := N__law_facts) (sc := defScope s__law_facts) (by decide +kernel)) (fun _ _ _ _ _ => by exact (pg_tup rfl (pgs_cons (pg_name (i := 10) nd rfl (Or.inl rfl)) (pgs_cons (pg_name (i := 11) nd rfl (Or.inl rfl)) pgs_nil)))) (fun _ _ _ _ _ => pts_nil) (fun _ _ _ _ _ => (pv 11))) pa_nil))) pa_nil)))))))), ?_⟩
    dsimp only [tSeq, tAsg, gName]
    have n2 : 2 ≤ sizeLine := by rw [sizeLine_eq]; decide
    refine ⟨.int c, rfl, _, rfl, 61, _, rfl, rfl, c, 61 + (d : Int), rfl, by omega, by omega, fun n hn H1 s1 => ?_⟩
    refine ⟨Nat.zero_le _, fun l4 n4 => ?_⟩
    have sl := s1.trans (same_upd (o := .lst []) n4)
    have nH4 : H l4 = none := s1.free n4
    have e0 : upd H1 l4 (.lst []) l4 = some (.lst []) := upd_same
    generalize upd H1 l4 (.lst []) = H2 at e0 sl
    refine ⟨_, rfl, _, 3, rfl, rfl, (show (0 : Int) < 3 by decide), 1, _, rfl, rfl, 1 + (n : Int) % 3, rfl, by omega, by omega, for_it walk_range (fun j σ H' => ∃ (y5 y6 y7 y8 y9 y10 y11 : Option V) (ts : List Addr) (zs : List Str) (xs : Nat → V), σ = [some (.ref a), some (.int c), some (.int (d : Nat)), some (.int (n : Nat)), some (.ref l4), y5, y6, y7, y8, y9, y10, y11] ∧ Same H H' ∧ FL H' l4 ts zs xs ∧ zs.length = j ∧ (∀ z ∈ zs, ∃ us, FactsD (d + 1) us ∧ TextOf z us) ∧ (tot 4 zs ≤ j * 166 ∨ (n / 12 % 3 < 2 * j ∧ tot 4 zs ≤ j * 166 + (600 * d + 25))))
      ⟨none, none, none, none, none, none, none, [], [], fun _ => .non, rfl, sl, ⟨e0, rfl, fun i hi => by cases hi⟩, rfl, (fun z hz => by cases hz), .inl (by decide)⟩ (fun _ _ _ _ _ => trivial) (fun j x σ H' H'' hj hP hy => ?_) (fun σ H' hP => ?_)⟩
    · obtain ⟨y5, y6, y7, y8, y9, y10, y11, ts, zs, xs, rfl, sm, hF, hzl, hzs, htot⟩ := hP
      obtain ⟨rfl, rfl⟩ := hy
      have hj : j < (1 + (n : Int) % 3).toNat := hj
      dsimp only [tSeq, tAsg, gName]
      refine ⟨Nat.zero_le _, fun l6 n6 => ?_⟩
      have nH6 : H l6 = none := sm.free n6
      have h46 : l4 ≠ l6 := fun e => by have := hF.1; rw [e, n6] at this; exact nomatch this
      have sm6 := same_upd (o := .lst []) n6
      have e6 : upd H'' l6 (.lst []) l6 = some (.lst []) := upd_same
      generalize upd H'' l6 (.lst []) = H3 at e6 sm6
      have hm2 : 0 ≤ (n : Int) / 3 / (0 + (j : Int) + 1) % 2 ∧ (n : Int) / 3 / (0 + (j : Int) + 1) % 2 < 2 := ⟨by omega, by omega⟩
      refine ⟨_, rfl, _, 3, rfl, rfl, ⟨by decide, by decide⟩, _, rfl, _, 1, rfl, rfl, _, _, rfl, rfl, ⟨by omega, by omega⟩, _, 2, rfl, rfl, (show (0 : Int) < 2 by decide), 1, _, rfl, rfl, _, rfl, by omega, by omega, ?_⟩
      generalize (n : Int) / 3 / (0 + (j : Int) + 1) % 2 = m2 at *
      refine for_it walk_range (fun k2 σ H' => ∃ (y7 y8 y9 y10 y11 : Option V) (ts2 : List Addr) (zs2 : List Str) (xs2 : Nat → V), σ = [some (.ref a), some (.int c), some (.int (d : Nat)), some (.int (n : Nat)), some (.ref l4), some (.int (0 + (j : Int))), some (.ref l6), y7, y8, y9, y10, y11] ∧ Same H'' H' ∧ FL H' l6 ts2 zs2 xs2 ∧ zs2.length = k2 ∧ (∀ z ∈ zs2, ∃ us, FactsD (d + 1) us ∧ TextOf z us) ∧ (tot 5 zs2 ≤ k2 * 81 ∨ (2 * j ≤ n / 12 % 3 ∧ n / 12 % 3 < 2 * j + k2 ∧ tot 5 zs2 ≤ k2 * 81 + (600 * d + 25))))
        ⟨y7, y8, y9, y10, y11, [], [], fun _ => .non, rfl, sm6, ⟨e6, rfl, fun i hi => by cases hi⟩, rfl, (fun z hz => by cases hz), .inl (by decide)⟩ (fun _ _ _ _ _ => trivial) (fun k2 x σ H4 H5 hk2 hP hy => ?_) (fun σ H4 hP => ?_)
      · obtain ⟨y7, y8, y9, y10, y11, ts2, zs2, xs2, rfl, sm4, hF2, hzl2, hzs2, htot2⟩ := hP
        obtain ⟨rfl, rfl⟩ := hy
        have hk2 : k2 < (1 + m2).toNat := hk2
        dsimp only [tSeq, tAsg, gName]
        refine ⟨.int c, rfl, _, rfl, 10, _, rfl, rfl, .inl ⟨by decide, by decide⟩, 70, _, rfl, rfl, _, rfl, 3, _, rfl, rfl, .inl ⟨by decide, by decide⟩, _, _, rfl, rfl, _, rfl, _, _, rfl, rfl, c, 70 + 10 * (d : Int) + 3 * (0 + (j : Int)) + (0 + (k2 : Int)), rfl, by omega, by omega, fun m hm H6 s6 => ?_⟩
        have hWm : WorldR H6 a := hW.same (sm.trans (sm4.trans s6))
        refine ⟨_, rfl, _, rfl, _, rfl, _, _, rfl, rfl, a, c + m, rfl, hWm, fun us hus H7 p7 z7 x7 s7 n7 e7 ht7 hl7 => ⟨p7, _, rfl, .inl (.inl e7), rfl, _, _, rfl, _, _, rfl, rfl, ?_⟩⟩
        have s67 := s6.trans s7
        refine ifJoin (fun σ' H' => ∃ z us x, σ' = [some (.ref a), some (.int c), some (.int (d : Nat)), some (.int (n : Nat)), some (.ref l4), some (.int (0 + (j : Int))), some (.ref l6), some (.int (0 + (k2 : Int))), some (.int (m : Nat)), y9, some (.str z), some x] ∧ Same H7 H' ∧ PlainW (FactsD d) us ∧ TextOf z us ∧ (z.length ≤ 60 ∨ (2 * j + k2 = n / 12 % 3 ∧ z.length ≤ 600 * d + 4))) (fun D' q' => ?_) (fun σ' H8 hP => ?_)
        · refine ifT (decide (0 < d) && decide (2 * j + k2 = n / 12 % 3)) (fun k' q1 => andT _ _ (fun k' q1 => ⟨_, rfl, _, 0, rfl, rfl, _, rfl, TellB.eq (decide_eq_decide.mpr (by omega)) q1 _ (Same.refl _)⟩) (fun _ H8 k' s8 q1 => ⟨_, rfl, 2, _, rfl, rfl, .inl ⟨by decide, by decide⟩, _, rfl, _, _, rfl, rfl, _, rfl, _, 12, rfl, rfl, ⟨by decide, by decide⟩, _, 3, rfl, rfl, (show (0 : Int) < 3 by decide), rfl, _, rfl, TellB.eq (by rw [vint_dec]; exact decide_eq_decide.mpr (by omega)) q1 _ (Same.refl _)⟩) q1) (fun hb H8 s8 => ?_) (fun hb H8 s8 => ?_)
          · have hb := (Bool.and_eq_true _ _).mp hb
            have hd0 := of_decide_eq_true hb.1
            have hjk := of_decide_eq_true hb.2
            dsimp only [tSeq, tAsg, gName]
            refine ⟨_, rfl, _, rfl, _, rfl, _, _, rfl, rfl, _, rfl, _, 1, rfl, rfl, d - 1, by omega, a, c + m, ?_, hWm.same (s7.trans s8), fun us2 hus2 H9 p9 z9 x9 s9 n9 e9 ht9 hl9 => ⟨p9, _, rfl, .inl (.inl e9), rfl, _, _, rfl, _, _, rfl, rfl, ?_⟩⟩
            · show [V.ref a, V.int (c + (m : Int)), V.int ((d : Int) - 1)] = _
              rw [show (d : Int) - 1 = ((d - 1 : Nat) : Int) by omega]
            · have hbl : (Str.ofString "( ").length = 2 := by decide +kernel
              have hbr : (Str.ofString " )").length = 2 := by decide +kernel
              have e1 : d - 1 + 1 = d := by omega
              rw [e1] at hus2 hl9
              refine ⟨_, rfl, _, _, rfl, rfl, by rw [hbl, sizeLine_eq]; omega, _, _, rfl, rfl, by rw [len_app, hbl, hbr, sizeLine_eq]; omega, q' _ _ ⟨Str.ofString "( " ++ z9 ++ Str.ofString " )", _, x9, rfl, s8.trans s9, .inr (.inr (.inr (.inr ⟨us2, rfl, hus2⟩))), text_bracket ht9 ?_, .inr ⟨hjk, by rw [len_app, len_app, hbl, hbr]; omega⟩⟩⟩
              obtain ⟨e', rfl⟩ : ∃ e', d = e' + 1 := ⟨d - 1, by omega⟩
              exact seqw_ne hus2
          · exact q' _ _ ⟨z7, us, x7, rfl, s8, hus _, ht7, .inl hl7⟩
        · obtain ⟨z, us2, xz, rfl, s8, hP8, ht8, hl8⟩ := hP
          have hzl8 : z.length ≤ 2404 := by omega
          dsimp only [tSeq, tAsg, gName]
          obtain ⟨xn, hxn, exn⟩ := pickL [V.int 0, .int 0, .int 1, .int 2, .int 3, .int 4] ((m : Int) % 6) (by omega) (by show _ < (6 : Int); omega)
          obtain ⟨nn, rfl, hnn⟩ : ∃ nn : Nat, xn = .int (nn : Nat) ∧ nn ≤ 4 := by
            simp only [List.mem_cons, List.mem_nil_iff, or_false] at hxn
            rcases hxn with rfl | rfl | rfl | rfl | rfl | rfl
            · exact ⟨0, rfl, by decide⟩
            · exact ⟨0, rfl, by decide⟩
            · exact ⟨1, rfl, by decide⟩
            · exact ⟨2, rfl, by decide⟩
            · exact ⟨3, rfl, by decide⟩
            · exact ⟨4, rfl, by decide⟩
          refine ⟨by show 6 ≤ _; rw [sizeLine_eq]; decide, fun g ng => ⟨_, rfl, _, 6, rfl, rfl, (show (0 : Int) < 6 by decide), g, _, _, .int (nn : Nat), rfl, rfl, .inl (.inl upd_same), exn, ?_⟩⟩
          have sg := s67.trans (s8.trans (same_upd (o := .lst [V.int 0, .int 0, .int 1, .int 2, .int 3, .int 4]) ng))
          have hF8 := hF2.same sg
          have hrl := nots_len nn
          have hus2 : us2 ≠ [] := by obtain ⟨y, r, rfl, _⟩ := plain_head hP8; simp
          refine ⟨.ref l6, rfl, .inl ⟨rfl, _, .inl (.inl hF8.1)⟩, _, rfl, ⟨Str.ofString "not ", (nn : Nat), rfl, rfl, by omega, by omega, by decide +kernel, ?_⟩⟩
          refine ⟨_, rfl, _, _, rfl, rfl, by rw [hrl, sizeLine_eq]; omega, _, rfl, _, rfl, n2, fun t1 n1 => ⟨n2, fun g2 ng2 => ?_⟩⟩
          obtain ⟨v, _, exv⟩ := pickL [xz, .ref t1] ((nn : Int) % 2) (by omega) (by show _ < (2 : Int); omega)
          refine ⟨_, rfl, _, 2, rfl, rfl, (show (0 : Int) < 2 by decide), g2, _, _, v, rfl, rfl, .inl (.inl upd_same), exv, n2, fun t nt => ?_⟩
          have sC := (same_upd (o := .tup [V.str (Str.ofString "not"), xz]) n1).trans (same_upd (o := .lst [xz, .ref t1]) ng2)
          have sD := sC.trans (same_upd (o := .tup [V.str (repS (Str.ofString "not ") (nn : Int) ++ z), v]) nt)
          have hF9 := hF8.same sD
          refine ⟨l6, _, _, rfl, rfl, hF9.1, by rw [List.length_map, hF2.2.1, sizeLine_eq]; omega, _, _, _, _, _, _, _, _, rfl, fun b o hb => ?_, hF9.add (x := v) upd_same, by rw [List.length_append, hzl2]; rfl, fun z' hz' => ?_, ?_⟩
          · rw [upd_ne (ne_of_none hb n6)]
            exact sD _ _ (sg _ _ (sm4 _ _ hb))
          · rcases List.mem_append.mp hz' with h | h
            · exact hzs2 z' h
            · rw [List.mem_singleton.mp h]
              exact ⟨_, .one _ ⟨nn, us2, hnn, rfl, hP8⟩, text_nots ht8 hus2 nn⟩
          · rw [tot_add, len_app, hrl]
            omega
      · obtain ⟨y7, y8, y9, y10, y11, ts2, zs2, xs2, rfl, sm4, hF2, hzl2, hzs2, htot2⟩ := hP
        have hF4 := hF.same sm4
        have l5 : (Str.ofString " and ").length = 5 := by decide +kernel
        have hne : zs2 ≠ [] := fun e => by rw [e] at hzl2; have : (0 : Nat) = (1 + m2).toNat := hzl2; omega
        refine ⟨.ref l4, rfl, .inl ⟨rfl, _, .inl (.inl hF4.1)⟩, ?_⟩
        refine tJoinT (Str.ofString " and ") (Str.ofString "and") (fun H Q q => ⟨_, rfl, q⟩) hF2 (by omega) (by rw [l5]; omega) (fun H6 t xt s6 n6' e6' => ?_)
        have hF6 := hF4.same s6
        refine ⟨l4, _, _, rfl, rfl, hF6.1, by rw [List.length_map, hF.2.1, sizeLine_eq]; omega, _, _, _, _, _, _, _, _, _, _, rfl, fun b o hb => ?_, hF6.add e6', by rw [List.length_append, hzl]; rfl, fun z' hz' => ?_, ?_⟩
        · rw [upd_ne (ne_of_none hb nH4)]
          exact s6 _ _ (sm4 _ _ (sm _ _ hb))
        · rcases List.mem_append.mp hz' with h | h
          · exact hzs z' h
          · rw [List.mem_singleton.mp h]
            obtain ⟨us, hus, e⟩ := join_facts (Str.ofString "and") (.inl rfl) zs2 hne hzs2
            refine ⟨us, hus, ?_⟩
            unfold TextOf
            rw [TL.join_eq, TL.tl_join, show TL.tl (Str.ofString " and ") = 32 :: TL.tl (Str.ofString "and") ++ [32] by decide +kernel]
            exact e
        · have hjt := join_tot (Str.ofString " and ") zs2
          rw [l5] at hjt
          rw [tot_add]
          omega
    · obtain ⟨y5, y6, y7, y8, y9, y10, y11, ts, zs, xs, rfl, sm, hF, hzl, hzs, htot⟩ := hP
      have l4' : (Str.ofString " or ").length = 4 := by decide +kernel
      have hne : zs ≠ [] := fun e => by rw [e] at hzl; have : (0 : Nat) = (1 + (n : Int) % 3).toNat := hzl; omega
      refine tJoinT (Str.ofString " or ") (Str.ofString "or") (fun H Q q => ⟨_, rfl, q⟩) hF (by omega) (by rw [l4']; omega) (fun H6 t xt s6 n6' e6' => ?_)
      obtain ⟨us, hus, e⟩ := join_facts (Str.ofString "or") (.inr rfl) zs hne hzs
      have hjt := join_tot (Str.ofString " or ") zs
      rw [l4'] at hjt
      refine q us hus _ t _ _ (sm.trans s6) (sm.free n6') e6' ?_ (by omega)
      unfold TextOf
      rw [TL.join_eq, TL.tl_join, show TL.tl (Str.ofString " or ") = 32 :: TL.tl (Str.ofString "or") ++ [32] by decide +kernel]
      exact e
end
end K31

namespace K31
open PySem PySem.Spec PyProof.Rows L2 LH
/-! ### deeds and rules as the law draws them -/
/-- a deed's two texts -/
def DeedT (z n : Str) : Prop := (z ∈ plainDeeds ∧ n = Str.ofString "") ∨ (z ∈ namedDeeds ∧ GoodName (TL.tl n))
/-- a deed's text -/
def DeedZ (t : Str) : Prop := t ∈ plainDeeds ∨ ∃ w n, w ∈ namedDeeds ∧ GoodName (TL.tl n) ∧ t = w ++ Str.ofString " " ++ n
open Builtin Builtin.Str PySem.StrLaws in
theorem strip_sp (x : Str) (h1 : ∀ c, (TL.tl x)[0]? = some c → Unicode.isSpace c = false) (h2 : ∀ c, (TL.tl x)[(TL.tl x).length - 1]? = some c → Unicode.isSpace c = false) : Txt.strip x = x := by
  have hl : x.cps.toList.length = x.length := by simp [Str.length]
  have hlt : (TL.tl x).length = x.length := hl
  unfold Txt.strip
  rw [stripBy_eq]
  obtain ⟨l1, l2, l3⟩ := lo_facts Unicode.isSpace x
  have hat : ∀ k, k < x.length → (TL.tl x)[k]? = some (x.cps.getD k 0) := fun k hk => by
    rw [← getD_list]
    show x.cps.toList[k]? = _
    rw [List.getD_eq_getElem?_getD, List.getElem?_eq_getElem (by rw [hl]; exact hk)]
    rfl
  have hlo : stripLo Unicode.isSpace true x = 0 := by
    by_cases h0 : stripLo Unicode.isSpace true x = 0
    · exact h0
    · have := l2 0 (by omega)
      rw [h1 _ (hat 0 (by omega))] at this
      exact nomatch this
  rw [hlo]
  obtain ⟨g1, g2, g3, g4⟩ := hi_facts Unicode.isSpace x 0 (Nat.zero_le _)
  have hhi : stripHi Unicode.isSpace true x 0 = x.length := by
    by_cases h0 : stripHi Unicode.isSpace true x 0 = x.length
    · exact h0
    · have := g3 (x.length - 1) (by omega) (by omega)
      rw [h2 _ (by rw [hlt]; exact hat (x.length - 1) (by omega))] at this
      exact nomatch this
  rw [hhi]
  apply TL.ext_tl
  have hs : (strSub x 0 x.length).cps.toList = (x.cps.toList.drop 0).take (x.length - 0) := strSub_toList ..
  show (strSub x 0 x.length).cps.toList = x.cps.toList
  rw [hs, List.drop_zero, List.take_of_length_le (by rw [hl]; omega)]
theorem small_nosp : ∀ c ∈ TL.tl SMALLT, Unicode.isSpace c = false := by decide +kernel
theorem named_small {w : Str} (h : w ∈ namedDeeds) : w.length ≤ 6 ∧ (TL.tl w ≠ []) ∧ ∀ c ∈ TL.tl w, c ∈ TL.tl SMALLT := by
  simp only [namedDeeds, List.mem_cons, List.mem_nil_iff, or_false] at h
  rcases h with rfl | rfl | rfl | rfl <;> exact ⟨by decide +kernel, by decide +kernel, by decide +kernel⟩
theorem plain_small {w : Str} (h : w ∈ plainDeeds) : w.length ≤ 6 ∧ (TL.tl w ≠ []) ∧ ∀ c ∈ TL.tl w, c ∈ TL.tl SMALLT := by
  simp only [plainDeeds, List.mem_cons, List.mem_nil_iff, or_false] at h
  rcases h with rfl | rfl <;> exact ⟨by decide +kernel, by decide +kernel, by decide +kernel⟩
theorem deed_strip {z n : Str} (h : DeedT z n) : DeedZ (Txt.strip (z ++ Str.ofString " " ++ n)) ∧ (z ++ Str.ofString " " ++ n).length ≤ 19 ∧ (Txt.strip (z ++ Str.ofString " " ++ n)).length ≤ 19 ∧ z.length ≤ 6 ∧ n.length ≤ 12 := by
  have hsp : (Str.ofString " ").length = 1 := by decide +kernel
  rcases h with ⟨hz, rfl⟩ | ⟨hz, hn⟩
  · have h0 : (Str.ofString "").length = 0 := by decide +kernel
    have h1 := plain_small hz
    have e : Txt.strip (z ++ Str.ofString " " ++ Str.ofString "") = z := by
      simp only [plainDeeds, List.mem_cons, List.mem_nil_iff, or_false] at hz
      rcases hz with rfl | rfl <;> decide +kernel
    rw [e]
    exact ⟨.inl hz, by rw [len_app, len_app, hsp, h0]; omega, by omega, h1.1, by rw [h0]; decide⟩
  · obtain ⟨h1, h2, h3⟩ := named_small hz
    have hnl := name_len hn
    have htl : TL.tl (z ++ Str.ofString " " ++ n) = TL.tl z ++ [32] ++ TL.tl n := by rw [TL.tl_append, TL.tl_append, show TL.tl (Str.ofString " ") = [32] by decide +kernel]
    have e : Txt.strip (z ++ Str.ofString " " ++ n) = z ++ Str.ofString " " ++ n := by
      refine strip_sp _ (fun c hc => ?_) (fun c hc => ?_)
      · rw [htl] at hc
        cases hz' : TL.tl z with
        | nil => exact absurd hz' h2
        | cons d r =>
          rw [hz'] at hc
          obtain rfl := Option.some.inj hc
          exact small_nosp _ (h3 _ (by rw [hz']; simp))
      · rw [htl] at hc
        have hn1 := hn.1
        rw [List.getElem?_append_right (by rw [List.length_append (bs := TL.tl n)]; omega)] at hc
        exact small_nosp _ (hn.2.2 _ (List.mem_of_getElem? hc))
    rw [e]
    exact ⟨.inr ⟨z, n, hz, hn, rfl⟩, by rw [len_app, len_app, hsp]; omega, by rw [len_app, len_app, hsp]; omega, h1, hnl⟩
/-- no blank and no line end in a word -/
def NB (z : Str) : Prop := 32 ∉ TL.tl z ∧ 10 ∉ TL.tl z
theorem nb_of {z : Str} {s : List Nat} (h : ∀ c ∈ TL.tl z, c ∈ s) (h1 : 32 ∉ s) (h2 : 10 ∉ s) : NB z := ⟨fun hc => h1 (h _ hc), fun hc => h2 (h _ hc)⟩
theorem small_nb : 32 ∉ TL.tl SMALLT ∧ 10 ∉ TL.tl SMALLT := by decide +kernel
/-- deeds' texts, joined, are the words of deeds -/
theorem deeds_words : ∀ zs : List Str, zs ≠ [] → (∀ z ∈ zs, DeedZ z) → ∃ ds, DeedsW ds ∧ TL.joinL [44, 32] (zs.map TL.tl) = TL.joinL [32] (ds.map TL.tl) ∧ ∀ d ∈ ds, NB d
  | [], h, _ => absurd rfl h
  | [z], _, h => by
    rcases h z (by simp) with hz | ⟨w, n, hw, hn, rfl⟩
    · exact ⟨[z], .plain1 z hz, rfl, fun d hd => by rw [List.mem_singleton.mp hd]; exact nb_of (plain_small hz).2.2 small_nb.1 small_nb.2⟩
    · refine ⟨[w, n], .named1 w n hw hn, ?_, fun d hd => ?_⟩
      · show TL.tl (w ++ Str.ofString " " ++ n) = TL.tl w ++ ([32] ++ TL.tl n)
        rw [TL.tl_append, TL.tl_append, show TL.tl (Str.ofString " ") = [32] by decide +kernel, List.append_assoc]
      · simp only [List.mem_cons, List.mem_nil_iff, or_false] at hd
        rcases hd with rfl | rfl
        · exact nb_of (named_small hw).2.2 small_nb.1 small_nb.2
        · exact nb_of hn.2.2 small_nb.1 small_nb.2
  | z :: y :: r, _, h => by
    obtain ⟨ds, hds, hj, hnb⟩ := deeds_words (y :: r) (by simp) fun x hx => h x (List.mem_cons_of_mem _ hx)
    have hdne : ds.map TL.tl ≠ [] := by cases hds <;> simp
    have e1 : TL.joinL [44, 32] ((z :: y :: r).map TL.tl) = TL.tl z ++ ([44, 32] ++ TL.joinL [32] (ds.map TL.tl)) := by rw [← hj]; rfl
    rcases h z (by simp) with hz | ⟨w, n, hw, hn, rfl⟩
    · refine ⟨(⟨(TL.tl z ++ [44]).toArray⟩ : Str) :: ds, .plainM z _ ds hz rfl hds, ?_, fun d hd => ?_⟩
      · rw [e1]
        show _ = TL.joinL [32] ([TL.tl z ++ [44]] ++ ds.map TL.tl)
        rw [joinL_app [32] _ _ (by simp) hdne]
        show _ = (TL.tl z ++ [44]) ++ _
        simp
      · rcases List.mem_cons.mp hd with rfl | hd
        · refine nb_of (s := 44 :: TL.tl SMALLT) (fun c hc => ?_) (by decide +kernel) (by decide +kernel)
          rcases List.mem_append.mp (show c ∈ TL.tl z ++ [44] from hc) with h | h
          · exact List.mem_cons_of_mem _ ((plain_small hz).2.2 c h)
          · rw [List.mem_singleton.mp h]; simp
        · exact hnb d hd
    · refine ⟨w :: (⟨(TL.tl n ++ [44]).toArray⟩ : Str) :: ds, .namedM w n _ ds hw hn rfl hds, ?_, fun d hd => ?_⟩
      · rw [e1, TL.tl_append, TL.tl_append, show TL.tl (Str.ofString " ") = [32] by decide +kernel]
        show _ = TL.joinL [32] ([TL.tl w, TL.tl n ++ [44]] ++ ds.map TL.tl)
        rw [joinL_app [32] _ _ (by simp) hdne]
        show _ = (TL.tl w ++ ([32] ++ (TL.tl n ++ [44]))) ++ _
        simp
      · rcases List.mem_cons.mp hd with rfl | hd
        · exact nb_of (named_small hw).2.2 small_nb.1 small_nb.2
        · rcases List.mem_cons.mp hd with rfl | hd
          · refine nb_of (s := 44 :: TL.tl SMALLT) (fun c hc => ?_) (by decide +kernel) (by decide +kernel)
            rcases List.mem_append.mp (show c ∈ TL.tl n ++ [44] from hc) with h | h
            · exact List.mem_cons_of_mem _ (hn.2.2 c h)
            · rw [List.mem_singleton.mp h]; simp
          · exact hnb d hd
/-- the words of facts have no blanks -/
theorem time_nb {ts : List Str} (h : TimeW ts) : ∀ z ∈ ts, NB z := by
  obtain ⟨y, m, d, l, a, _, _, _, rfl⟩ := h
  intro z hz
  simp only [List.mem_cons, List.mem_nil_iff, or_false] at hz
  rcases hz with rfl | rfl | rfl | rfl
  · have e : TL.tl (SX.S (dateL y m d)) = dateL y m d := rfl
    unfold NB
    rw [e]
    unfold dateL four two
    constructor <;> (simp; omega)
  · have h : ∀ i, i < 7 → NB (dayNames.getD i Str.empty) := by unfold NB; decide +kernel
    exact h _ (by omega)
  · have e : TL.tl (SX.S (clockL l)) = clockL l := rfl
    unfold NB
    rw [e]
    unfold clockL two
    constructor <;> (simp; omega)
  · have e : TL.tl (SX.S (aheadL a)) = aheadL a := rfl
    unfold NB
    rw [e]
    unfold aheadL two
    constructor <;> (split <;> (simp; omega))
theorem addr_nb {z : Str} (h : GoodAddr (TL.tl z)) : NB z := by
  obtain ⟨loc, ws, hz, hloc, hw1, hw3, hws⟩ := h
  have hL : 32 ∉ TL.tl LOCALT ∧ 10 ∉ TL.tl LOCALT := by decide +kernel
  have hH : 32 ∉ TL.tl HOUSET ∧ 10 ∉ TL.tl HOUSET := by decide +kernel
  have key : ∀ c, c ∉ TL.tl LOCALT → c ∉ TL.tl HOUSET → c ≠ 64 → c ≠ 46 → c ∉ TL.tl z := fun c h1 h2 h3 h4 hc => by
    rw [hz] at hc
    rcases List.mem_append.mp hc with h | h
    · exact h1 (hloc.2.2 c h)
    · rcases List.mem_cons.mp h with h | h
      · exact h3 h
      · rcases joinL_mem [46] ws c h with h | ⟨p, hp, h⟩
        · exact h4 (List.mem_singleton.mp h)
        · exact h2 ((hws p hp).2.2 c h)
  exact ⟨key 32 hL.1 hH.1 (by decide) (by decide), key 10 hL.2 hH.2 (by decide) (by decide)⟩
theorem plainw_nb {F : List Str → Prop} (hF : ∀ us, F us → ∀ z ∈ us, NB z) {us : List Str} (h : PlainW F us) : ∀ z ∈ us, NB z := by
  intro x hx
  rcases h with rfl | ⟨z, y, rfl, hz, hy⟩ | ⟨z, y, rfl, hz, hy⟩ | ⟨ts, rfl, ht⟩ | ⟨fs, rfl, hf⟩
  · rw [List.mem_singleton.mp hx]; unfold NB; decide +kernel
  · simp only [List.mem_cons, List.mem_nil_iff, or_false] at hx
    rcases hx with rfl | rfl
    · rcases hz with rfl | rfl <;> (unfold NB; decide +kernel)
    · exact nb_of hy.2.2 small_nb.1 small_nb.2
  · simp only [List.mem_cons, List.mem_nil_iff, or_false] at hx
    rcases hx with rfl | rfl
    · rcases hz with rfl | rfl <;> (unfold NB; decide +kernel)
    · exact addr_nb hy
  · rcases List.mem_cons.mp hx with rfl | hx
    · unfold NB; decide +kernel
    · exact time_nb ht x hx
  · rcases List.mem_cons.mp hx with rfl | hx
    · unfold NB; decide +kernel
    · rcases List.mem_append.mp hx with hx | hx
      · exact hF fs hf x hx
      · rw [List.mem_singleton.mp hx]; unfold NB; decide +kernel
theorem seqw_nb {P : List Str → Prop} (hf : ∀ us, P us → ∀ z ∈ us, NB z) {us : List Str} (h : SeqW P us) : ∀ z ∈ us, NB z := by
  induction h with
  | one us h => exact hf us h
  | more us c r hu hc _ ih =>
    intro z hz
    rcases List.mem_append.mp hz with hz | hz
    · exact hf us hu z hz
    · rcases List.mem_cons.mp hz with rfl | hz
      · rcases hc with rfl | rfl <;> (unfold NB; decide +kernel)
      · exact ih z hz
theorem facts_nb : ∀ (d : Nat) (us : List Str), FactsD d us → ∀ z ∈ us, NB z
  | 0, us, h => fun _ _ => (show False from h).elim
  | d + 1, us, h => seqw_nb (fun vs hv z hz => by
      obtain ⟨n, ps, _, rfl, hp⟩ := hv
      rcases List.mem_append.mp hz with hz | hz
      · rw [(List.mem_replicate.mp hz).2]; unfold NB; decide +kernel
      · exact plainw_nb (facts_nb d) hp z hz) h
theorem seqw_mono {P P' : List Str → Prop} (h : ∀ us, P us → P' us) {us : List Str} (hs : SeqW P us) : SeqW P' us := by
  induction hs with
  | one us hu => exact .one us (h us hu)
  | more us c r hu hc _ ih => exact .more us c r (h us hu) hc ih
theorem facts_mono : ∀ (d : Nat) (us : List Str), FactsD d us → FactsD (d + 1) us
  | 0, us, h => (show False from h).elim
  | d + 1, us, h => seqw_mono (fun vs hv => by
      obtain ⟨n, ps, hn, rfl, hp⟩ := hv
      refine ⟨n, ps, hn, rfl, ?_⟩
      rcases hp with h | h | h | h | ⟨fs, h, hf⟩
      · exact .inl h
      · exact .inr (.inl h)
      · exact .inr (.inr (.inl h))
      · exact .inr (.inr (.inr (.inl h)))
      · exact .inr (.inr (.inr (.inr ⟨fs, h, facts_mono d fs hf⟩)))) h
theorem facts_five {d : Nat} (hd : d ≤ 5) {us : List Str} (h : FactsD d us) : FactsD 5 us := by
  obtain ⟨e, rfl⟩ : ∃ e, e = 5 - d := ⟨_, rfl⟩
  have : ∀ e d, d + e = 5 → FactsD d us → FactsD 5 us := fun e => by
    induction e with
    | zero => intro d hd h; obtain rfl : d = 5 := by omega
              exact h
    | succ e ih => intro d hd h; exact ih (d + 1) (by omega) (facts_mono d us h)
  exact this (5 - d) d (by omega) h
/-- a rule's row, of its words -/
theorem row_rule {z x y : Str} {us ds : List Str} {d : Nat} (hd : d ≤ 5) (hz : z = Str.ofString "if " ++ x ++ Str.ofString " then " ++ y) (hx : TextOf x us) (hus : FactsD d us) (hy : TL.tl y = TL.joinL [32] (ds.map TL.tl)) (hds : DeedsW ds) (hnb : ∀ e ∈ ds, NB e) (hl : z.length ≤ 50000) : RuleRow z ∧ skipB z = false ∧ 10 ∉ TL.tl z := by
  have hun : us.map TL.tl ≠ [] := by
    intro e
    cases d with
    | zero => exact (show False from hus)
    | succ d => exact seqw_ne hus (List.map_eq_nil_iff.mp e)
  have hdn : ds.map TL.tl ≠ [] := by cases hds <;> simp
  have htl : TL.tl z = TL.joinL [32] ((Str.ofString "if" :: (us ++ Str.ofString "then" :: ds)).map TL.tl) := by
    have hx : TL.tl x = TL.joinL [32] (us.map TL.tl) := hx
    rw [hz, TL.tl_append, TL.tl_append, TL.tl_append, hx, hy, List.map_cons, List.map_append, List.map_cons, show TL.tl (Str.ofString "if ") = [105, 102, 32] by decide +kernel, show TL.tl (Str.ofString " then ") = [32, 116, 104, 101, 110, 32] by decide +kernel, show TL.tl (Str.ofString "if") = [105, 102] by decide +kernel, show TL.tl (Str.ofString "then") = [116, 104, 101, 110] by decide +kernel]
    show _ = TL.joinL [32] ([[105, 102]] ++ (us.map TL.tl ++ ([[116, 104, 101, 110]] ++ ds.map TL.tl)))
    rw [joinL_app [32] [[105, 102]] _ (by simp) (by simp), joinL_app [32] _ _ hun (by simp), joinL_app [32] [[116, 104, 101, 110]] _ (by simp) hdn]
    show _ = [105, 102] ++ ([32] ++ (TL.joinL [32] (us.map TL.tl) ++ ([32] ++ ([116, 104, 101, 110] ++ ([32] ++ TL.joinL [32] (ds.map TL.tl))))))
    simp
  have hall : ∀ e ∈ Str.ofString "if" :: (us ++ Str.ofString "then" :: ds), NB e := by
    intro e he
    rcases List.mem_cons.mp he with rfl | he
    · unfold NB; decide +kernel
    · rcases List.mem_append.mp he with he | he
      · exact facts_nb d us hus e he
      · rcases List.mem_cons.mp he with rfl | he
        · unfold NB; decide +kernel
        · exact hnb e he
  have hsp := split_tl (x := z) (y := Str.ofString " ") (s := 32) (by decide +kernel) (by decide)
  rw [htl, splitL_join 32 _ (by simp) (fun p hp => by
    obtain ⟨e, he, rfl⟩ := List.mem_map.mp hp
    exact (hall e he).1)] at hsp
  have hwords : Txt.split z (Str.ofString " ") = Str.ofString "if" :: (us ++ Str.ofString "then" :: ds) := (List.map_inj_right (fun a b h => TL.ext_tl h)).mp hsp
  refine ⟨⟨us, ds, hwords, facts_five hd hus, hds, hl⟩, ?_, fun h10 => ?_⟩
  · have h0 : (TL.tl z)[0]? = some 105 := by
      rw [hz, TL.tl_append, TL.tl_append, TL.tl_append, show TL.tl (Str.ofString "if ") = [105, 102, 32] by decide +kernel]
      rfl
    unfold skipB
    rw [starts_one z _ 35 (by decide +kernel), h0, decide_eq_false (fun e => by rw [e] at h0; revert h0; decide +kernel)]
    decide
  · rw [htl] at h10
    rcases joinL_mem [32] _ 10 h10 with h | ⟨p, hp, h⟩
    · revert h; decide
    · obtain ⟨e, he, rfl⟩ := List.mem_map.mp hp
      exact (hall e he).2 h
theorem FL.addS {H : Hp} {l p : Addr} {ts : List Addr} {zs : List Str} {ns : Nat → Str} {z n : Str} (h : FL H l ts zs fun i => .str (ns i)) (hp : H p = some (.tup [.str z, .str n])) : FL (upd H l (.lst (ts.map V.ref ++ [V.ref p]))) l (ts ++ [p]) (zs ++ [z]) fun i => .str (if i = zs.length then n else ns i) := by
  have := h.add hp
  rw [show (fun i => V.str (if i = zs.length then n else ns i)) = fun i => if i = zs.length then V.str n else V.str (ns i) from funext fun i => by split <;> rfl]
  exact this
theorem named_in2 {w : Str} (h : w ∈ namedDeeds) : inV (.str w) [V.str (Str.ofString "refuse"), .str (Str.ofString "stop")] = false := by
  simp only [namedDeeds, List.mem_cons, List.mem_nil_iff, or_false] at h
  rcases h with rfl | rfl | rfl | rfl <;> decide +kernel
theorem plain_in2 {w : Str} (h : w ∈ plainDeeds) : inV (.str w) [V.str (Str.ofString "refuse"), .str (Str.ofString "stop")] = true := by
  simp only [plainDeeds, List.mem_cons, List.mem_nil_iff, or_false] at h
  rcases h with rfl | rfl <;> decide +kernel
theorem iteF' {c : Bool} {A B : Prop} (h : c = false) (b : B) : if c = true then A else B := by rw [h]; exact b
theorem iteT' {c : Bool} {A B : Prop} (h : c = true) (a : A) : if c = true then A else B := by rw [h]; exact a
theorem deed_add {zs : List Str} {ns : Nat → Str} {z n : Str} (h : ∀ k, k < zs.length → DeedT (zs.getD k Str.empty) (ns k)) (hz : DeedT z n) {k : Nat} (hk : k < (zs ++ [z]).length) : DeedT ((zs ++ [z]).getD k Str.empty) (if k = zs.length then n else ns k) := by
  rw [List.length_append, List.length_singleton] at hk
  by_cases e : k = zs.length
  · subst e
    rw [if_pos rfl, getD_app_r _ _ _ (Nat.le_refl _), Nat.sub_self]
    exact hz
  · rw [if_neg e, getD_app_l _ _ _ (by omega)]
    exact h k (by omega)
theorem tot_le (k b : Nat) (zs : List Str) (h : ∀ z ∈ zs, z.length ≤ b) : tot k zs ≤ zs.length * (b + k) := by
  induction zs with
  | nil => simp [tot]
  | cons z r ih =>
    have h1 := h z (by simp)
    have h2 := ih fun x hx => h x (List.mem_cons_of_mem _ hx)
    unfold tot at *
    rw [List.map_cons, List.sum_cons, List.length_cons, Nat.succ_mul]
    omega
section
variable {P : Program} {w : World} {K : PySem.W.Frag} {mg : Str → Option Value} {base : Heap} {tk : Nat → Tok} {ca : Nat → Addr} {dn md nd1 pd al C : Addr}
/-! ### _law_deeds -/
abbrev s__law_deeds : Stmt := topS 72
abbrev N__law_deeds : List Str := ["_law_world_here", "_law_cell", "_law_found", "_law_k", "_law_number", "_law_word", "_law_name"]
abbrev P__law_deeds : List Str := ["_law_world_here", "_law_cell"]
theorem sc__law_deeds : FnScope N__law_deeds ["_law_world_here", "_law_cell"] (defScope s__law_deeds) := ⟨rfl, rfl, rfl, by decide +kernel, rfl, by decide +kernel, by decide +kernel⟩
def sp_ldeeds : Sp := fun vs H Q _ => ∃ (a : Addr) (c : Int), vs = [.ref a, .int c] ∧ WorldR H a ∧ ∀ (H' : Hp) (p : Addr) (ts : List Addr) (zs : List Str) (ns : Nat → Str), Same H H' → H p = none → 1 ≤ zs.length → zs.length ≤ 4 → (∀ i, i < zs.length → DeedT (zs.getD i Str.empty) (ns i)) → FL H' p ts zs (fun i => .str (ns i)) → Q (.ref p) H'
theorem ok_ldeeds {f f1 : Addr} {fd fd1 : FuncData} (F : Fun K "_law_deeds" "_law_deeds" s__law_deeds f fd) (T : Tx K mg tk dn md) (D__law_mixed : Def P w K mg base "_law_mixed" 1 f1 fd1 P__law_mixed sp_mixed) : FnOk P w K mg base CX0 2 f fd P__law_deeds sp_ldeeds := by
  refine F.ok sc__law_deeds (fun vs H Q E h => ?_) (fun cdv A outer s H vs Q E hr h => ?_)
  · obtain ⟨c, ns, rfl, _⟩ := h
    rfl
  · have nd := sc__law_deeds.nd
    obtain ⟨a, c, rfl, hW, q⟩ := h
    refine ⟨_, (pss_cons (ps_set (i := 2) nd rfl (.inl rfl) (pe_lst pa_nil))
      (pss_cons (ps_for PassesOwn.never rfl (pi_range1 (by rfl) T.n_range (pa_cons (pe_op op_add pe_int (pe_op op_mod (pe_def D__law_mixed (hr.mono (by decide)) (pa_cons (pv 1) (pa_cons pe_int pa_nil))) pe_int)) pa_nil)) (pg_name (i := 3) nd rfl (Or.inl rfl))
        (pss_cons (ps_set (i := 4) nd rfl (.inl rfl) (pe_def D__law_mixed (hr.mono (by decide)) (pa_cons (pv 1) (pa_cons (pe_op op_add pe_int (pv 3)) pa_nil))))
        (pss_cons (ps_set (i := 5) nd rfl (.inl rfl) (pe_ix (ixL K) (pe_lst (pa_cons pe_str (pa_cons pe_str (pa_cons pe_str (pa_cons pe_str (pa_cons pe_str (pa_cons pe_str (pa_cons pe_str (pa_cons pe_str (pa_cons pe_str pa_nil)))))))))) (pe_op op_mod (pv 4) pe_int) (fun _ _ => rfl)))
        (pss_cons (ps_if (PW.pt (pw_and (pt_cmpR (oIn K) (pv 5) (pe_tup (pa_cons pe_str (pa_cons pe_str pa_nil))) (by rfl)) (pw_and1 (pt_cmpR op_gt (pe_op op_mod (pe_op op_fdiv (pv 4) pe_int) pe_int) pe_int (nomark _)))))
          (pss_one (ps_set (i := 5) nd rfl (.inl rfl) pe_str))
          pss_nil)
        (pss_cons (ps_set (i := 6) nd rfl (.inl rfl) (pe_ifExp (pt_cmpR (oIn K) (pv 5) (pe_tup (pa_cons pe_str (pa_cons pe_str pa_nil))) (by rfl)) pe_str (pe_ix (ixL K) (pe_op op_cat (pe_dget (LH.unit1 hr) (pv 0) pe_str (fun _ _ => rfl)) (pe_lst (pa_cons pe_str pa_nil))) (pe_op op_mod (pe_op op_fdiv (pv 4) pe_int) pe_int) (fun _ _ => rfl))))
        (pss_one (ps_expr (pe_bm PySem.F.plainAttrs_list PySem.F.slot_list_append PySem.F.type_list_append mt_append (pv 2) (pa_cons (pe_tup (pa_cons (pv 5) (pa_cons (pv 6) pa_nil))) pa_nil)))))))))
      (pss_one (ps_ret (pv 2))))), ?_⟩
    dsimp only [tSeq, tAsg, gName]
    have n2 : 2 ≤ sizeLine := by rw [sizeLine_eq]; decide
    obtain ⟨la, ln, lm, as, nn, ms, eW, ea, en, em, hal, hag, hnl, hng, hml, hmb⟩ := hW
    obtain ⟨k1, k2, k3⟩ := wkv_get la ln lm
    have fl : ([V.str (Str.ofString "refuse"), .str (Str.ofString "stop")]).all flatV = true := by decide +kernel
    refine ⟨Nat.zero_le _, fun l2 n2' => ?_⟩
    have s0 := same_upd (o := .lst []) n2'
    have e0 : upd H l2 (.lst []) l2 = some (.lst []) := upd_same
    generalize upd H l2 (.lst []) = H1 at e0 s0
    refine ⟨_, rfl, c, 130, rfl, by decide, by decide, fun r hr H2 s2 => ⟨_, 4, rfl, rfl, (show (0 : Int) < 4 by decide), 1, _, rfl, rfl, _, rfl, by omega, by omega, for_it walk_range (fun i σ H' => ∃ (y3 y4 y5 y6 : Option V) (ts : List Addr) (zs : List Str) (ns : Nat → Str), σ = [some (.ref a), some (.int c), some (.ref l2), y3, y4, y5, y6] ∧ Same H H' ∧ FL H' l2 ts zs (fun i => .str (ns i)) ∧ zs.length = i ∧ ∀ k, k < zs.length → DeedT (zs.getD k Str.empty) (ns k))
      ⟨none, none, none, none, [], [], fun _ => Str.empty, rfl, s0.trans s2, ⟨s2 _ _ e0, rfl, fun i hi => by cases hi⟩, rfl, fun k hk => by cases hk⟩ (fun _ _ _ _ _ => trivial) (fun i x σ H3 H4 hi hP hy => ?_) (fun σ H3 hP => ?_)⟩⟩
    · obtain ⟨y3, y4, y5, y6, ts, zs, ns, rfl, sm, hF, hzl, hD⟩ := hP
      obtain ⟨rfl, rfl⟩ := hy
      have hi : i < (1 + (r : Int) % 4).toNat := hi
      dsimp only [tSeq, tAsg, gName]
      refine ⟨_, rfl, _, rfl, 131, _, rfl, rfl, c, 131 + (0 + (i : Int)), rfl, by omega, by omega, fun n hn H5 s5 => ?_⟩
      obtain ⟨x, hx, ex⟩ := pickL [V.str (Str.ofString "move"), .str (Str.ofString "copy"), .str (Str.ofString "mark"), .str (Str.ofString "unmark"), .str (Str.ofString "copy"), .str (Str.ofString "mark"), .str (Str.ofString "mark"), .str (Str.ofString "refuse"), .str (Str.ofString "stop")] ((n : Int) % 9) (by omega) (by show _ < (9 : Int); omega)
      obtain ⟨w, rfl, hw⟩ : ∃ w : Str, x = .str w ∧ (w ∈ namedDeeds ∨ w ∈ plainDeeds) := by
        simp only [List.mem_cons, List.mem_nil_iff, or_false] at hx
        rcases hx with rfl | rfl | rfl | rfl | rfl | rfl | rfl | rfl | rfl <;> exact ⟨_, rfl, by simp [namedDeeds, plainDeeds]⟩
      refine ⟨by show 9 ≤ _; rw [sizeLine_eq]; decide, fun g ng => ⟨_, rfl, _, 9, rfl, rfl, (show (0 : Int) < 9 by decide), g, _, _, .str w, rfl, rfl, .inl (.inl upd_same), ex, ?_⟩⟩
      have s6 := s5.trans (same_upd (o := .lst [V.str (Str.ofString "move"), .str (Str.ofString "copy"), .str (Str.ofString "mark"), .str (Str.ofString "unmark"), .str (Str.ofString "copy"), .str (Str.ofString "mark"), .str (Str.ofString "mark"), .str (Str.ofString "refuse"), .str (Str.ofString "stop")]) ng)
      generalize upd H5 g (.lst [V.str (Str.ofString "move"), .str (Str.ofString "copy"), .str (Str.ofString "mark"), .str (Str.ofString "unmark"), .str (Str.ofString "copy"), .str (Str.ofString "mark"), .str (Str.ofString "mark"), .str (Str.ofString "refuse"), .str (Str.ofString "stop")]) = H6 at s6
      refine ifJoin (fun σ' H' => ∃ w, σ' = [some (.ref a), some (.int c), some (.ref l2), some (.int (0 + (i : Int))), some (.int (n : Nat)), some (.str w), y6] ∧ Same H6 H' ∧ (w ∈ namedDeeds ∨ w ∈ plainDeeds)) (fun D' q' => ?_) (fun σ' H7 hP => ?_)
      · exact ifT (inV (.str w) [V.str (Str.ofString "refuse"), .str (Str.ofString "stop")] && decide ((0 : Int) < (n : Int) / 9 % 3)) (fun k' q1 => andT _ _ (fun k' q1 => ⟨_, rfl, n2, fun t0 n0 => ⟨t0, _, rfl, .inr (.inl (.inl upd_same)), rfl, fl, _, rfl, q1 _ (same_upd n0)⟩⟩) (fun _ H8 k' s8 q1 => ⟨_, rfl, _, 9, rfl, rfl, ⟨by decide, by decide⟩, _, 3, rfl, rfl, (show (0 : Int) < 3 by decide), _, 0, rfl, rfl, _, rfl, q1 _ (Same.refl _)⟩) q1) (fun _ H8 s8 => q' _ _ ⟨Str.ofString "copy", rfl, s8, .inl (by simp [namedDeeds])⟩) (fun _ H8 s8 => q' _ _ ⟨w, rfl, s8, hw⟩)
      · obtain ⟨w, rfl, s7, hw⟩ := hP
        dsimp only [tSeq, tAsg, gName]
        have sA := s6.trans s7
        rcases hw with hw | hw
        · refine ⟨_, rfl, n2, fun t0 n0 => ⟨t0, _, rfl, .inr (.inl (.inl upd_same)), rfl, fl, _, rfl, ?_⟩⟩
          refine iteF' (named_in2 hw) ?_
          have s8 := sA.trans (same_upd (o := .tup [V.str (Str.ofString "refuse"), .str (Str.ofString "stop")]) n0)
          generalize upd H7 t0 (.tup [V.str (Str.ofString "refuse"), .str (Str.ofString "stop")]) = H8 at s8
          have g2 : DGet H8 a (.str (Str.ofString "names")) (some (V.ref ln)) := k2 ▸ DGet.k (k := Sum.inr (Str.ofString "names")) (s8 _ _ (sm _ _ eW))
          obtain ⟨nm, hnm, enm⟩ := pickM V.str (nn ++ [Str.ofString "in"]) ((n : Int) / 27 % 6) (by omega) (by rw [List.length_append, hnl]; show _ < (6 : Int); omega)
          rw [List.map_append] at enm
          have hgn : GoodName (TL.tl nm) := by
            rcases List.mem_append.mp hnm with h | h
            · exact hng nm h
            · rw [List.mem_singleton.mp h]; exact nw_good _ (by simp [NW])
          refine ⟨_, rfl, a, _, rfl, g2, by show 1 ≤ _; rw [sizeLine_eq]; decide, fun g1 n1 => ⟨ln, g1, _, _, rfl, rfl, same_upd n1 _ _ (s8 _ _ (sm _ _ en)), upd_same, by rw [List.length_map, hnl, sizeLine_eq]; decide, fun g3 n3 => ⟨_, rfl, _, 27, rfl, rfl, ⟨by decide, by decide⟩, _, 6, rfl, rfl, (show (0 : Int) < 6 by decide), g3, _, _, .str nm, rfl, rfl, .inl (.inl upd_same), enm, ?_⟩⟩⟩
          have s9 := s8.trans ((same_upd (o := .lst [V.str (Str.ofString "in")]) n1).trans (same_upd (o := .lst (nn.map V.str ++ [V.str (Str.ofString "in")])) n3))
          have hF9 := hF.same s9
          refine ⟨.ref l2, rfl, .inl ⟨rfl, _, .inl (.inl hF9.1)⟩, _, rfl, _, rfl, n2, fun t nt => ?_⟩
          have hF10 := hF9.same (same_upd (o := .tup [V.str w, .str nm]) nt)
          refine ⟨l2, _, _, rfl, rfl, hF10.1, by rw [List.length_map, hF.2.1, sizeLine_eq]; omega, _, _, _, _, _, _, _, rfl, fun b o hb => ?_, hF10.addS upd_same, by rw [List.length_append, hzl]; rfl, fun k hk => ?_⟩
          · rw [upd_ne (ne_of_none hb n2')]
            exact same_upd nt _ _ (s9 _ _ (sm _ _ hb))
          · exact deed_add hD (.inr ⟨hw, hgn⟩) hk
        · refine ⟨_, rfl, n2, fun t0 n0 => ⟨t0, _, rfl, .inr (.inl (.inl upd_same)), rfl, fl, _, rfl, ?_⟩⟩
          refine iteT' (plain_in2 hw) ?_
          have s9 := sA.trans (same_upd (o := .tup [V.str (Str.ofString "refuse"), .str (Str.ofString "stop")]) n0)
          generalize upd H7 t0 (.tup [V.str (Str.ofString "refuse"), .str (Str.ofString "stop")]) = H8 at s9
          have hF9 := hF.same s9
          refine ⟨.ref l2, rfl, .inl ⟨rfl, _, .inl (.inl hF9.1)⟩, _, rfl, _, rfl, n2, fun t nt => ?_⟩
          have hF10 := hF9.same (same_upd (o := .tup [V.str w, .str (Str.ofString "")]) nt)
          refine ⟨l2, _, _, rfl, rfl, hF10.1, by rw [List.length_map, hF.2.1, sizeLine_eq]; omega, _, _, _, _, _, _, _, rfl, fun b o hb => ?_, hF10.addS upd_same, by rw [List.length_append, hzl]; rfl, fun k hk => ?_⟩
          · rw [upd_ne (ne_of_none hb n2')]
            exact same_upd nt _ _ (s9 _ _ (sm _ _ hb))
          · exact deed_add hD (.inl ⟨hw, rfl⟩) hk
    · obtain ⟨y3, y4, y5, y6, ts, zs, ns, rfl, sm, hF, hzl, hD⟩ := hP
      exact ⟨_, rfl, q _ l2 ts zs ns sm n2' (by omega) (by omega) hD hF⟩
theorem fn_union {CX : CXT} {k : Nat} {f : Addr} {fd : FuncData} {ps : List Str} {sp : Nat → Sp} {p : Nat → Prop} (h : ∀ d, p d → FnOk P w K mg base CX k f fd ps (sp d)) : FnOk P w K mg base CX k f fd ps (fun vs H Q E => ∃ d, p d ∧ sp d vs H Q E) :=
  ⟨fun a b c e x => by obtain ⟨d, hp, x⟩ := x; exact (h d hp).1 a b c e x, fun a1 a2 a3 a4 a5 a6 a7 a8 a9 a10 a11 a12 a13 x => by obtain ⟨d, hp, x⟩ := x; exact (h d hp).2 a1 a2 a3 a4 a5 a6 a7 a8 a9 a10 a11 a12 a13 x⟩
theorem lfacts_all {f f1 f2 : Addr} {fd fd1 fd2 : FuncData} (F : Fun K "_law_facts" "_law_facts" s__law_facts f fd) (T : Tx K mg tk dn md) (D__law_mixed : Def P w K mg base "_law_mixed" 1 f1 fd1 P__law_mixed sp_mixed) (D__law_plain_fact : Def P w K mg base "_law_plain_fact" 6 f2 fd2 P__law_plain_fact sp_lplain) (D : Def P w K mg base "_law_facts" 1 f fd P__law_facts sp_never) : ∀ d : Nat, d ≤ 4 → ∀ L, 7 + d ≤ L → FnOk P w K mg base CX0 L f fd P__law_facts (sp_lfacts d)
  | 0, h, L, hL => by
    obtain ⟨L, rfl⟩ : ∃ L', L = L' + 1 := ⟨L - 1, by omega⟩
    exact ok_lfacts (by omega) h F T D__law_mixed D__law_plain_fact ⟨fn_empty fun vs H Q E h => by obtain ⟨e, h, _⟩ := h; omega, D.mg, D.kp, D.bd⟩
  | d + 1, h, L, hL => by
    obtain ⟨L, rfl⟩ : ∃ L', L = L' + 1 := ⟨L - 1, by omega⟩
    have ih := lfacts_all F T D__law_mixed D__law_plain_fact D d (by omega) L (by omega)
    exact ok_lfacts (by omega) h F T D__law_mixed D__law_plain_fact ⟨fn_union (p := fun e => d + 1 = e + 1) (sp := fun e => sp_lfacts e) (fun e he => (show d = e by omega) ▸ ih), D.mg, D.kp, D.bd⟩
/-! ### _law_rule -/
abbrev s__law_rule : Stmt := topS 73
abbrev N__law_rule : List Str := ["_law_world_here", "_law_cell", "_law_deeds_here", "_law_row", "_law_text_here", "_law_tree", "_law_word", "_law_name"]
abbrev P__law_rule : List Str := ["_law_world_here", "_law_cell"]
theorem sc__law_rule : FnScope N__law_rule ["_law_world_here", "_law_cell"] (defScope s__law_rule) := ⟨rfl, rfl, rfl, by decide +kernel, rfl, by decide +kernel, by decide +kernel⟩
def sp_lrule : Sp := fun vs H Q _ => ∃ (a : Addr) (c : Int), vs = [.ref a, .int c] ∧ WorldR H a ∧ ∀ z, RuleRow z → skipB z = false → z.length ≤ 4000 → 10 ∉ TL.tl z → NewRule H z Q
theorem ok_lrule {f f1 f2 f3 : Addr} {fd fd1 fd2 fd3 : FuncData} (F : Fun K "_law_rule" "_law_rule" s__law_rule f fd) (T : Tx K mg tk dn md) (D__law_mixed : Def P w K mg base "_law_mixed" 1 f1 fd1 P__law_mixed sp_mixed) (D__law_facts : Def P w K mg base "_law_facts" 11 f2 fd2 P__law_facts (fun vs H Q E => ∃ d : Nat, d ≤ 4 ∧ sp_lfacts d vs H Q E)) (D__law_deeds : Def P w K mg base "_law_deeds" 2 f3 fd3 P__law_deeds sp_ldeeds) : FnOk P w K mg base CX0 12 f fd P__law_rule sp_lrule := by
  refine F.ok sc__law_rule (fun vs H Q E h => ?_) (fun cdv A outer s H vs Q E hr h => ?_)
  · obtain ⟨c, ns, rfl, _⟩ := h
    rfl
  · have nd := sc__law_rule.nd
    obtain ⟨a, c, rfl, hW, q⟩ := h
    refine ⟨_, (pss_cons (ps_asg (pe_def D__law_facts (hr.mono (by decide)) (pa_cons (pv 0) (pa_cons (pv 1) (pa_cons (pe_op op_mod (pe_def D__law_mixed (hr.mono (by decide)) (pa_cons (pv 1) (pa_cons pe_int pa_nil))) pe_int) pa_nil)))) (pg_tup rfl (pgs_cons (pg_name (i := 4) nd rfl (Or.inl rfl)) (pgs_cons (pg_name (i := 5) nd rfl (Or.inl rfl)) pgs_nil))))
      (pss_cons (ps_set (i := 2) nd rfl (.inl rfl) (pe_def D__law_deeds (hr.mono (by decide)) (pa_cons (pv 0) (pa_cons (pv 1) pa_nil))))
      (pss_cons (ps_set (i := 3) nd rfl (.inl rfl) (pe_op op_add_str (pe_op op_add_str (pe_op op_add_str pe_str (pv 4)) pe_str) (pe_join pe_str (pe_lc (own := [("_law_word", 6), ("_law_name", 7)]) (g := gTup K 2 (gCons (gName 6) (gCons (gName 7) gNil))) (by rfl) nd (pi_list (pv 2)) (blkOk_by (N := N__law_rule) (sc := defScope s__law_rule) (by decide +kernel)) (fun _ _ _ _ _ => by exact (pg_tup rfl (pgs_cons (pg_name (i := 6) nd rfl (Or.inl rfl)) (pgs_cons (pg_name (i := 7) nd rfl (Or.inl rfl)) pgs_nil)))) (fun _ _ _ _ _ => pts_nil) (fun _ _ _ _ _ => (pe_strip (pe_op op_add_str (pe_op op_add_str (pv 6) pe_str) (pv 7))))))))
      (pss_one (ps_ret (pe_tup (pa_cons (pv 3) (pa_cons (pv 5) (pa_cons (pv 2) pa_nil))))))))), ?_⟩
    dsimp only [tSeq, tAsg, gName]
    have n2 : 2 ≤ sizeLine := by rw [sizeLine_eq]; decide
    have lif : (Str.ofString "if ").length = 3 := by decide +kernel
    have lth : (Str.ofString " then ").length = 6 := by decide +kernel
    have lco : (Str.ofString ", ").length = 2 := by decide +kernel
    have lsp : (Str.ofString " ").length = 1 := by decide +kernel
    refine ⟨_, rfl, _, rfl, _, rfl, c, 140, rfl, by decide, by decide, fun m hm H1 s1 => ⟨_, 5, rfl, rfl, (show (0 : Int) < 5 by decide), m % 5, by omega, a, c, rfl, hW.same s1, fun us hus H2 p2 x2 v2 s2 np2 e2 ht hl => ⟨p2, _, rfl, .inl (.inl e2), rfl, _, _, rfl, _, _, rfl, rfl, ?_⟩⟩⟩
    have s12 := s1.trans s2
    refine ⟨_, rfl, _, rfl, a, c, rfl, hW.same s12, fun H3 p3 ts zs ns s3 np3 hz1 hz4 hD hF => ?_⟩
    have s13 := s12.trans s3
    have htl := hF.2.1
    have hxl : x2.length ≤ 3000 := by omega
    refine ⟨_, rfl, _, _, rfl, rfl, by rw [lif, sizeLine_eq]; omega, _, _, rfl, rfl, by rw [len_app, lif, lth, sizeLine_eq]; omega, ⟨_, rfl⟩, _, rfl, p3, rfl, ⟨_, .inl (.inl hF.1)⟩, fun D hDn => lc_two (ts := ts) (ps := fun i => (.str (zs.getD i Str.empty), .str (ns i))) (fun i => .str (Txt.strip (zs.getD i Str.empty ++ Str.ofString " " ++ ns i))) (by decide) (.inl (.inl hF.1)) (fun i hi => .inl (.inl (hF.2.2 i (by omega)))) hDn (by rw [sizeLine_eq]; omega) (fun i H4 Q4 hi s4 q4 => ?_) (fun H4 s4 e4 => ?_)⟩
    · obtain ⟨d1, d2, d3, d4, d5⟩ := deed_strip (hD i (by omega))
      exact ⟨_, rfl, _, _, rfl, rfl, by rw [lsp, sizeLine_eq]; omega, _, rfl, _, _, rfl, rfl, by rw [len_app, lsp, sizeLine_eq]; omega, ⟨_, rfl⟩, _, rfl, rfl, by rw [sizeLine_eq]; omega, q4 _ (Same.refl _)⟩
    · obtain ⟨dz, hdz⟩ : ∃ dz, dz = (List.range zs.length).map fun i => Txt.strip (zs.getD i Str.empty ++ Str.ofString " " ++ ns i) := ⟨_, rfl⟩
      have e4' : H4 D = some (.lst (dz.map V.str)) := by rw [e4, htl, hdz, List.map_map]; rfl
      have hdl : dz.length = zs.length := by rw [hdz, List.length_map, List.length_range]
      have hall : ∀ z ∈ dz, DeedZ z ∧ z.length ≤ 19 := fun z hz => by
        rw [hdz] at hz
        obtain ⟨i, hi, rfl⟩ := List.mem_map.mp hz
        obtain ⟨d1, d2, d3, d4, d5⟩ := deed_strip (hD i (List.mem_range.mp hi))
        exact ⟨d1, d3⟩
      have htot := tot_le 2 19 dz fun z hz => (hall z hz).2
      rw [hdl] at htot
      have hjt := join_tot (Str.ofString ", ") dz
      rw [lco] at hjt
      obtain ⟨ds, hds, hj, hnb⟩ := deeds_words dz (fun e => by rw [e] at hdl; have : 0 = zs.length := hdl; omega) fun z hz => (hall z hz).1
      have hln : (Str.ofString "if " ++ x2 ++ Str.ofString " then " ++ Txt.join (Str.ofString ", ") dz).length ≤ 4000 := by
        rw [len_app, len_app, len_app, lif, lth]
        omega
      obtain ⟨r1, r2, r3⟩ := row_rule (d := m % 5 + 1) (by omega) (rfl : Str.ofString "if " ++ x2 ++ Str.ofString " then " ++ Txt.join (Str.ofString ", ") dz = _) ht hus (by rw [TL.join_eq, TL.tl_join, show TL.tl (Str.ofString ", ") = [44, 32] by decide +kernel]; exact hj) hds hnb (by omega)
      refine ⟨Str.ofString ", ", D, dz, rfl, rfl, .inl (.inl (.inl e4')), by rw [tot_sum, lco]; omega, _, _, rfl, rfl, by rw [len_app, len_app, lif, lth, sizeLine_eq]; omega, ?_⟩
      refine ⟨_, rfl, _, rfl, _, rfl, by show 3 ≤ _; rw [sizeLine_eq]; decide, fun t nt => ?_⟩
      exact q _ r1 r2 hln r3 _ t _ _ (s13.trans (s4.trans (same_upd nt))) ((s13.trans s4).free nt) upd_same
end
end K31

namespace K31
open PySem PySem.Spec PyProof.Rows L2 LH
/-! ### the law -/
theorem cutV_init (z : List V) : cutV z none (some (-1)) = z.dropLast := by
  have e : HT.sIx z.length z.length (some (-1)) = z.length - 1 := by
    show (if (-1 : Int) < 0 then (-1 + (z.length : Int)).toNat else min (-1 : Int).toNat z.length) = _
    rw [if_pos (by decide)]
    omega
  have h0 : cutV z none (some (-1)) = cutV z none (some ((z.length - 1 : Nat) : Int)) := by
    have e2 : HT.sIx z.length z.length (some ((z.length - 1 : Nat) : Int)) = z.length - 1 := by
      show (if ((z.length - 1 : Nat) : Int) < 0 then (((z.length - 1 : Nat) : Int) + (z.length : Int)).toNat else min ((z.length - 1 : Nat) : Int).toNat z.length) = _
      rw [if_neg (by omega)]
      omega
    unfold cutV
    rw [e, e2]
  rw [h0, cutV_to, List.dropLast_eq_take]
theorem split_rows {ls : List Str} (hn : ls ≠ []) (h : ∀ z ∈ ls, 10 ∉ TL.tl z) : Txt.split (Txt.join (Str.ofString "\n") ls) (Str.ofString "\n") = ls := by
  have hsp := split_tl (x := Txt.join (Str.ofString "\n") ls) (y := Str.ofString "\n") (s := 10) (by decide +kernel) (by decide)
  have e : TL.tl (Txt.join (Str.ofString "\n") ls) = TL.joinL [10] (ls.map TL.tl) := by rw [TL.join_eq, TL.tl_join, show TL.tl (Str.ofString "\n") = [10] by decide +kernel]
  rw [e, splitL_join 10 _ (fun e => hn (List.map_eq_nil_iff.mp e)) (fun p hp => by
    obtain ⟨z, hz, rfl⟩ := List.mem_map.mp hp
    exact h z hz)] at hsp
  exact (List.map_inj_right (fun a b h => TL.ext_tl h)).mp hsp
/-- a rule's row that the law drew -/
def GR (z : Str) : Prop := RuleRow z ∧ skipB z = false ∧ z.length ≤ 4000 ∧ 10 ∉ TL.tl z
def LineOk (z : Str) : Prop := 10 ∉ TL.tl z ∧ z.length ≤ 4000 ∧ (skipB z = true ∨ (skipB z = false ∧ RuleRow z))
theorem GR.line {z : Str} (h : GR z) : LineOk z := ⟨h.2.2.2, h.2.2.1, .inr ⟨h.2.1, h.1⟩⟩
theorem rows_filter {rows : List Str} (h : ∀ z ∈ rows, GR z) : rows.filter (fun z => !skipB z) = rows := List.filter_eq_self.mpr fun z hz => by rw [(h z hz).2.1]; rfl
def SkipLine (z : Str) : Prop := skipB z = true ∧ 10 ∉ TL.tl z ∧ z.length ≤ 4000
theorem SkipLine.line {z : Str} (h : SkipLine z) : LineOk z := ⟨h.2.1, h.2.2, .inl h.1⟩
theorem skip_filter {bs : List Str} (h : ∀ z ∈ bs, SkipLine z) : bs.filter (fun z => !skipB z) = [] := List.filter_eq_nil_iff.mpr fun z hz => by rw [(h z hz).1]; decide
theorem sk1 : SkipLine (Str.ofString "") := by unfold SkipLine; decide +kernel
theorem sk2 : SkipLine (Str.ofString "# if") := by unfold SkipLine; decide +kernel
theorem sk3 : SkipLine (Str.ofString "#") := by unfold SkipLine; decide +kernel
theorem sk4 : SkipLine (Str.ofString "#if always then stop") := by unfold SkipLine; decide +kernel
theorem sk5 : SkipLine (Str.ofString "# x") := by unfold SkipLine; decide +kernel
theorem rows_tot {n : Nat} {rows : List Str} (h : ∀ z ∈ rows, z.length ≤ 4000) (hn : rows.length ≤ n) : tot 1 rows ≤ n * 4001 := Nat.le_trans (tot_le 1 4000 rows h) (Nat.mul_le_mul_right _ hn)
theorem join_one (z : Str) : Txt.join (Str.ofString "\n") [z] = z := TL.ext_tl (by rw [TL.join_eq, TL.tl_join]; rfl)
theorem cut_one {ts : List Addr} {k : Nat} (h : k < ts.length) : cutV (ts.map V.ref) (some (0 + (k : Int))) (some (0 + (k : Int) + 1)) = [V.ref (ts.getD k 0)] := by
  rw [show 0 + (k : Int) = ((k : Nat) : Int) by omega, show ((k : Nat) : Int) + 1 = ((k + 1 : Nat) : Int) by omega, cutV_at, show k + 1 - k = 1 by omega, ← List.map_drop, List.drop_eq_getElem_cons h, List.getD_eq_getElem?_getD, List.getElem?_eq_getElem h]
  rfl
theorem ix_row {rows : List Str} {k : Nat} (h : k < rows.length) : atI (rows.map V.str) (0 + (k : Int)) = some (.str (rows.getD k Str.empty)) := by
  rw [show 0 + (k : Int) = ((k : Nat) : Int) by omega]
  refine atI_nat ?_
  rw [List.getElem?_map, List.getElem?_eq_getElem h, List.getD_eq_getElem?_getD, List.getElem?_eq_getElem h]
  rfl
theorem drop_get {α : Type} {l : List α} {d : α} {j : Nat} (h : j < l.length - 1) : l.dropLast.getD j d = l.getD j d := by
  rw [List.getD_eq_getElem?_getD, List.getD_eq_getElem?_getD, List.getElem?_dropLast, if_pos h]
theorem sh0 : SeqAt.shaped (.list []) = true := by decide +kernel
theorem eqv0 : PyData.eqv (.list []) (.list []) = true := SeqAt.eqv_refl _ (SeqAt.canLay_of_shaped sh0)
section
variable {P : Program} {w : World} {K : PySem.W.Frag} {mg : Str → Option Value} {base : Heap} {tk : Nat → Tok} {ca : Nat → Addr} {dn md nd1 pd al C : Addr}
theorem ok_lrfacts {f f1 f2 : Addr} {fd fd1 fd2 : FuncData} (F : Fun K "_law_facts" "_law_facts" s__law_facts f fd) (T : Tx K mg tk dn md) (D__law_mixed : Def P w K mg base "_law_mixed" 1 f1 fd1 P__law_mixed sp_mixed) (D__law_plain_fact : Def P w K mg base "_law_plain_fact" 6 f2 fd2 P__law_plain_fact sp_lplain) (D__law_facts : Def P w K mg base "_law_facts" 1 f fd P__law_facts sp_never) : FnOk P w K mg base CX0 11 f fd P__law_facts (fun vs H Q E => ∃ d : Nat, d ≤ 4 ∧ sp_lfacts d vs H Q E) := by
  exact fn_union (p := fun d => d ≤ 4) (sp := sp_lfacts) fun d h => lfacts_all F T D__law_mixed D__law_plain_fact D__law_facts d h 11 (by omega)
/-! ### law -/
abbrev s_law : Stmt := topS 74
abbrev N_law : List Str := ["_law_script", "_law_world_here", "_law_cells", "_law_rows", "_law_lines", "_law_turn", "_law_k", "_law_row", "_law_number", "_law_found", "_law_cell"]
abbrev P_law : List Str := ["_law_script"]
theorem sc_law : FnScope N_law ["_law_script"] (defScope s_law) := ⟨rfl, rfl, rfl, by decide +kernel, rfl, by decide +kernel, by decide +kernel⟩
def spLaw (K : PySem.W.Frag) : Sp := fun vs H Q _ => ∃ (a : Addr) (ns : List Int), vs = [.ref a] ∧ SqL K H a (ns.map V.int) ∧ ns.length ≤ 63 ∧ ∀ H', Q (.bl true) H'
theorem ok_law {f f1 f2 f3 f4 f5 : Addr} {fd fd1 fd2 fd3 fd4 fd5 : FuncData} (F : Fun K "law" "law" s_law f fd) (T : Tx K mg tk dn md) (D__law_world : Def P w K mg base "_law_world" 4 f1 fd1 P__law_world (sp_world K)) (D__law_rule : Def P w K mg base "_law_rule" 12 f2 fd2 P__law_rule sp_lrule) (D__law_mixed : Def P w K mg base "_law_mixed" 1 f3 fd3 P__law_mixed sp_mixed) (D_rules_of : Def P w K mg base "rules_of" 23 f4 fd4 P_rules_of sp_rules) (D_rules_text : Def P w K mg base "rules_text" 1 f5 fd5 P_rules_text sp_rtext) : FnOk P w K mg base CX0 24 f fd ["_law_script"] (spLaw K) := by
  refine F.ok sc_law (fun vs H Q E h => ?_) (fun cdv A outer s H vs Q E hr h => ?_)
  · obtain ⟨c, ns, rfl, _⟩ := h
    rfl
  · have nd := sc_law.nd
    obtain ⟨p, ns, rfl, hS, _, q⟩ := h
    refine ⟨_, (pss_cons (ps_set (i := 1) nd rfl (.inr rfl) (pe_def D__law_world (hr.mono (by decide)) (pa_cons (pv 0) pa_nil)))
      (pss_cons (ps_set (i := 2) nd rfl (.inl rfl) (pe_op op_cat (pe_lst (pa_cons pe_int pa_nil)) (pe_slice (slL K) (pv 0) po_none (po_some pe_int))))
      (pss_cons (ps_setLc (i := 3) (own := [("_law_k", 6), ("_law_cell", 10)]) (g := gTup K 2 (gCons (gName 6) (gCons (gName 10) gNil))) (by rfl) nd rfl rfl (sw_true rfl rfl rfl (by decide +kernel)) (pi_enum (by rfl) T.n_enumerate (pa_cons (pv 2) pa_nil)) (blkOk_by (N := N_law) (sc := defScope s_law) (by decide +kernel)) (fun _ _ _ _ _ => by exact (pg_tup rfl (pgs_cons (pg_name (i := 6) nd rfl (Or.inl rfl)) (pgs_cons (pg_name (i := 10) nd rfl (Or.inl rfl)) pgs_nil)))) (fun _ _ _ _ _ => pts_nil) (fun _ _ _ _ _ => (pe_ix (ixT K) (pe_def D__law_rule (hr.mono (by decide)) (pa_cons (pv 1) (pa_cons (pe_op op_add (pv 10) (pv 6)) pa_nil))) pe_int (fun _ _ => rfl))))
      (pss_cons (ps_set (i := 4) nd rfl (.inl rfl) (pe_lst pa_nil))
      (pss_cons (ps_for PassesOwn.never rfl (pi_enum (by rfl) T.n_enumerate (pa_cons (pv 3) pa_nil)) (pg_tup rfl (pgs_cons (pg_name (i := 6) nd rfl (Or.inl rfl)) (pgs_cons (pg_name (i := 7) nd rfl (Or.inl rfl)) pgs_nil)))
        (pss_cons (ps_set (i := 8) nd rfl (.inl rfl) (pe_def D__law_mixed (hr.mono (by decide)) (pa_cons (pe_ix (ixL K) (pv 2) (pv 6) (fun _ _ => rfl)) (pa_cons pe_int pa_nil))))
        (pss_one (ps_set (i := 4) nd rfl (.inl rfl) (pe_op op_cat (pe_op op_cat (pv 4) (pe_ix (ixL K) (pe_lst (pa_cons (pe_lst pa_nil) (pa_cons (pe_lst (pa_cons pe_str pa_nil)) (pa_cons (pe_lst (pa_cons pe_str pa_nil)) (pa_cons (pe_lst (pa_cons pe_str pa_nil)) (pa_cons (pe_lst (pa_cons pe_str (pa_cons pe_str pa_nil))) pa_nil)))))) (pe_op op_mod (pv 8) pe_int) (fun _ _ => rfl))) (pe_lst (pa_cons (pv 7) pa_nil)))))))
      (pss_cons (ps_set (i := 4) nd rfl (.inl rfl) (pe_op op_cat (pv 4) (pe_ix (ixL K) (pe_lst (pa_cons (pe_lst pa_nil) (pa_cons (pe_lst (pa_cons pe_str pa_nil)) (pa_cons (pe_lst (pa_cons pe_str pa_nil)) pa_nil)))) (pe_op op_mod (pe_def D__law_mixed (hr.mono (by decide)) (pa_cons (pe_ix (ixL K) (pv 2) (pe_un un_neg pe_int) (fun _ _ => rfl)) (pa_cons pe_int pa_nil))) pe_int) (fun _ _ => rfl))))
      (pss_cons (ps_for PassesOwn.never rfl (pi_range1 (by rfl) T.n_range (pa_cons pe_int pa_nil)) (pg_name (i := 5) nd rfl (Or.inl rfl))
        (pss_cons (ps_set (i := 9) nd rfl (.inl rfl) (pe_def D_rules_of (hr.mono (by decide)) (pa_cons (pe_join pe_str (pv 4)) pa_nil)))
        (pss_cons (ps_if (PW.pt (pw_or (pt_not (pt_val (pe_callB (cIsi K) (by rfl) T.n_isinstance (by decide +kernel) (pa_cons (pv 9) (pa_cons (pe_bltn (v := .ty "list") (by rfl) T.n_list (by decide +kernel) rfl) pa_nil))))) (pw_or (pt_cmpR op_ne (pe_callB (cLen K) (by rfl) T.n_len (by decide +kernel) (pa_cons (pv 9) pa_nil)) (pe_callB (cLen K) (by rfl) T.n_len (by decide +kernel) (pa_cons (pv 3) pa_nil)) (nomark _)) (pw_or1 (pt_cmpR op_ne (pe_def D_rules_text (hr.mono (by decide)) (pa_cons (pv 9) pa_nil)) (pe_join pe_str (pv 3)) (nomark _))))))
          (pss_one (ps_ret pe_bl))
          pss_nil)
        (pss_cons (ps_if (pt_cmpR op_ne (pe_def D_rules_text (hr.mono (by decide)) (pa_cons (pe_def D_rules_of (hr.mono (by decide)) (pa_cons (pe_def D_rules_text (hr.mono (by decide)) (pa_cons (pv 9) pa_nil)) pa_nil)) pa_nil)) (pe_join pe_str (pv 3)) (nomark _))
          (pss_one (ps_ret pe_bl))
          pss_nil)
        (pss_cons (ps_for PassesOwn.never rfl (pi_range1 (by rfl) T.n_range (pa_cons (pe_callB (cLen K) (by rfl) T.n_len (by decide +kernel) (pa_cons (pv 3) pa_nil)) pa_nil)) (pg_name (i := 6) nd rfl (Or.inl rfl))
          (pss_one (ps_if (PW.pt (pw_or (pt_cmpR op_ne (pe_def D_rules_text (hr.mono (by decide)) (pa_cons (pe_slice (slL K) (pv 9) (po_some (pv 6)) (po_some (pe_op op_add (pv 6) pe_int))) pa_nil)) (pe_ix (ixL K) (pv 3) (pv 6) (fun _ _ => rfl)) (nomark _)) (pw_or1 (pt_cmpR op_ne (pe_def D_rules_text (hr.mono (by decide)) (pa_cons (pe_def D_rules_of (hr.mono (by decide)) (pa_cons (pe_ix (ixL K) (pv 3) (pv 6) (fun _ _ => rfl)) pa_nil)) pa_nil)) (pe_ix (ixL K) (pv 3) (pv 6) (fun _ _ => rfl)) (nomark _)))))
            (pss_one (ps_ret pe_bl))
            pss_nil)))
        (pss_cons (ps_expr (pe_bm0 PySem.F.plainAttrs_list PySem.F.slot_list_pop PySem.F.type_list_pop mt_pop (pv 9)))
        (pss_one (ps_if (pt_cmpR op_ne (pe_def D_rules_text (hr.mono (by decide)) (pa_cons (pv 9) pa_nil)) (pe_join pe_str (pe_slice (slL K) (pv 3) po_none (po_some (pe_un un_neg pe_int)))) (nomark _))
          (pss_one (ps_ret pe_bl))
          pss_nil))))))))
      (pss_one (ps_ret (pe_and (pe_cmpR (oEqD K hr.units) (pe_def D_rules_of (hr.mono (by decide)) (pa_cons pe_str pa_nil)) (pe_lst pa_nil) (nomark _)) (pe_and (pe_cmpR op_eq (pe_def D_rules_text (hr.mono (by decide)) (pa_cons (pe_lst pa_nil) pa_nil)) pe_str (nomark _)) (pe_one (pe_cmpR (oEqD K hr.units) (pe_def D_rules_of (hr.mono (by decide)) (pa_cons pe_str pa_nil)) (pe_lst pa_nil) (nomark _)))))))))))))), ?_⟩
    dsimp only [tSeq, tAsg, gName]
    have n2 : 2 ≤ sizeLine := by rw [sizeLine_eq]; decide
    have n1 : 1 ≤ sizeLine := by rw [sizeLine_eq]; decide
    have l1 : (Str.ofString "\n").length = 1 := by decide +kernel
    refine ⟨_, rfl, p, ns, rfl, hS, fun H1 aw s1 hW => ?_⟩
    refine ⟨n1, fun g1 m1 => ⟨_, rfl, _, rfl, p, _, rfl, (s1.trans (same_upd m1)).seq hS, fun g2 m2 => ⟨g1, g2, _, _, rfl, rfl, same_upd m2 _ _ upd_same, upd_same, ?_, fun g3 m3 => ?_⟩⟩⟩
    · rw [show (30 : Int) = ((30 : Nat) : Int) from rfl, cutV_to, List.length_take, sizeLine_eq]
      show 1 + _ ≤ _
      omega
    have hcs : [V.int 9] ++ cutV (ns.map V.int) none (some 30) = (9 :: ns.take 30).map V.int := by rw [show (30 : Int) = ((30 : Nat) : Int) from rfl, cutV_to, ← List.map_take]; rfl
    rw [hcs] at *
    have s2 := s1.trans ((same_upd (o := .lst [V.int 9]) m1).trans ((same_upd (o := .lst (cutV (ns.map V.int) none (some 30))) m2).trans (same_upd (o := .lst ((9 :: ns.take 30).map V.int)) m3)))
    have hW2 := hW.same ((same_upd (o := .lst [V.int 9]) m1).trans ((same_upd (o := .lst (cutV (ns.map V.int) none (some 30))) m2).trans (same_upd (o := .lst ((9 :: ns.take 30).map V.int)) m3)))
    have hcl : (9 :: ns.take 30).length ≤ 31 ∧ 1 ≤ (9 :: ns.take 30).length := by rw [List.length_cons, List.length_take]; omega
    have e3 : upd (upd (upd H1 g1 (.lst [V.int 9])) g2 (.lst (cutV (ns.map V.int) none (some 30)))) g3 (.lst ((9 :: ns.take 30).map V.int)) g3 = some (.lst ((9 :: ns.take 30).map V.int)) := upd_same
    generalize upd (upd (upd H1 g1 (.lst [V.int 9])) g2 (.lst (cutV (ns.map V.int) none (some 30)))) g3 (.lst ((9 :: ns.take 30).map V.int)) = H2 at e3 s2 hW2
    generalize (9 :: ns.take 30) = cs at *
    dsimp only [gName]
    have hml : (cs.map V.int).length = cs.length := List.length_map ..
    refine ⟨_, rfl, g3, _, rfl, .inl (.inl e3), fun D hD => lc_enumD (cs.map V.int) (fun _ v => ∃ z, GR z ∧ v = .str z) (by decide) (.inl (.inl e3)) hD (by rw [hml, sizeLine_eq]; omega) (fun i H4 Q4 hi s4 q4 => ?_) (fun H4 vs s4 hl hv e4 => ?_)⟩
    · have hx : (cs.map V.int).getD i .non = .int (cs.getD i 0) := by
        rw [hml] at hi
        rw [List.getD_eq_getElem?_getD, List.getElem?_map, List.getElem?_eq_getElem hi, List.getD_eq_getElem?_getD, List.getElem?_eq_getElem hi]
        rfl
      rw [hx]
      exact ⟨_, rfl, _, rfl, _, rfl, _, _, rfl, rfl, aw, _, rfl, hW2.same s4, fun z r1 r2 r3 r4 H5 p5 x y s5 n5 e5 => ⟨p5, _, 0, .str z, rfl, rfl, .inl (.inl e5), rfl, q4 _ _ s5 ⟨z, ⟨r1, r2, r3, r4⟩, rfl⟩⟩⟩
    · rw [hml] at hl
      obtain ⟨rows, hrl, hrs, rfl⟩ := pick_list V.str GR vs fun i hi => hv i (by rw [hml]; omega)
      have hrl : rows.length = cs.length := by omega
      have hrl31 : rows.length ≤ 31 ∧ 1 ≤ rows.length := by omega
      have e34 := s4 _ _ e3
      refine ⟨Nat.zero_le _, fun lw0 nlw0 => ?_⟩
      have s5 := s4.trans (same_upd (o := .lst []) nlw0)
      have e5 : upd H4 lw0 (.lst []) lw0 = some (.lst []) := upd_same
      have eD5 := same_upd (o := .lst []) nlw0 _ _ e4
      have e35 := same_upd (o := .lst []) nlw0 _ _ e34
      generalize upd H4 lw0 (.lst []) = H5 at e5 s5 eD5 e35
      have s25 := s2.trans s5
      refine ⟨_, rfl, D, _, rfl, .inl (.inl eD5), for_it walk_enum (fun i σ H' => ∃ (y6 y7 y8 : Option V) (lw : Addr) (ls : List Str), σ = [some (.ref p), some (.ref aw), some (.ref g3), some (.ref D), some (.ref lw), none, y6, y7, y8, none, none] ∧ Same H5 H' ∧ H' lw = some (.lst (ls.map V.str)) ∧ ls.length ≤ 3 * i ∧ (∀ z ∈ ls, LineOk z) ∧ ls.filter (fun z => !skipB z) = rows.take i)
        ⟨none, none, none, lw0, [], rfl, Same.refl _, e5, Nat.zero_le _, (fun z hz => by cases hz), rfl⟩ (fun i σ H' _ h => by obtain ⟨_, _, _, _, _, rfl, sm, _⟩ := h; exact .inl (.inl (sm _ _ eD5))) (fun i x σ H6 H7 hi hP hy => ?_) (fun σ H6 hP => ?_)⟩
      · obtain ⟨y6, y7, y8, lw, ls, rfl, sm, el, hll, hls, hlf⟩ := hP
        obtain ⟨U, x1, x2, rfl, nU, rfl, f1, f2⟩ := hy
        rw [List.length_map] at hi
        have f2 : (rows.map V.str)[i]? = some x2 := f2
        rw [List.getElem?_map, List.getElem?_eq_getElem hi] at f2
        obtain rfl := Option.some.inj f1
        obtain rfl := Option.some.inj f2
        have hgr : GR rows[i] := hrs _ (List.getElem_mem hi)
        have htk : rows.take (i + 1) = rows.take i ++ [rows[i]] := List.take_succ_eq_append_getElem hi
        generalize rows[i] = row at *
        have sU := same_upd (o := .tup [.int (i : Nat), .str row]) nU
        refine ⟨U, _, rfl, .inl (.inl upd_same), rfl, _, _, rfl, _, _, rfl, rfl, ?_⟩
        have eU := sU _ _ el
        have e3U := sU _ _ (sm _ _ e35)
        have smU := sm.trans sU
        generalize upd H6 U (.tup [.int (i : Nat), .str row]) = H8 at eU e3U smU
        dsimp only [tSeq, tAsg, gName]
        have hci : (cs.map V.int)[i]? = some (.int cs[i]) := by rw [List.getElem?_map, List.getElem?_eq_getElem (by omega)]; rfl
        refine ⟨_, rfl, _, rfl, g3, _, _, .int cs[i], rfl, rfl, .inl (.inl e3U), atI_nat hci, cs[i], 190, rfl, by decide, by decide, fun m hm H9 s9 => ?_⟩
        refine ⟨_, rfl, Nat.zero_le _, fun b1 nb1 => ⟨n1, fun b2 nb2 => ⟨n1, fun b3 nb3 => ⟨n1, fun b4 nb4 => ⟨n2, fun b5 nb5 => ⟨by show 5 ≤ _; rw [sizeLine_eq]; decide, fun b6 nb6 => ?_⟩⟩⟩⟩⟩⟩
        have t1 := same_upd (o := .lst []) nb1
        have t2 := same_upd (o := .lst [V.str (Str.ofString "")]) nb2
        have t3 := same_upd (o := .lst [V.str (Str.ofString "# if")]) nb3
        have t4 := same_upd (o := .lst [V.str (Str.ofString "#")]) nb4
        have t5 := same_upd (o := .lst [V.str (Str.ofString ""), V.str (Str.ofString "#if always then stop")]) nb5
        have t6 := same_upd (o := .lst [V.ref b1, .ref b2, .ref b3, .ref b4, .ref b5]) nb6
        have sB := s9.trans (t1.trans (t2.trans (t3.trans (t4.trans (t5.trans t6)))))
        obtain ⟨x, hx, ex⟩ := pickL [V.ref b1, .ref b2, .ref b3, .ref b4, .ref b5] ((m : Int) % 5) (by omega) (by show _ < (5 : Int); omega)
        have hB : ∃ (bb : Addr) (bs : List Str), x = .ref bb ∧ upd (upd (upd (upd (upd (upd H9 b1 (.lst [])) b2 (.lst [V.str (Str.ofString "")])) b3 (.lst [V.str (Str.ofString "# if")])) b4 (.lst [V.str (Str.ofString "#")])) b5 (.lst [V.str (Str.ofString ""), V.str (Str.ofString "#if always then stop")])) b6 (.lst [V.ref b1, .ref b2, .ref b3, .ref b4, .ref b5]) bb = some (.lst (bs.map V.str)) ∧ bs.length ≤ 2 ∧ ∀ z ∈ bs, SkipLine z := by
          simp only [List.mem_cons, List.mem_nil_iff, or_false] at hx
          rcases hx with rfl | rfl | rfl | rfl | rfl
          · exact ⟨b1, [], rfl, t6 _ _ (t5 _ _ (t4 _ _ (t3 _ _ (t2 _ _ upd_same)))), by decide, fun z hz => by cases hz⟩
          · exact ⟨b2, [Str.ofString ""], rfl, t6 _ _ (t5 _ _ (t4 _ _ (t3 _ _ upd_same))), (show 1 ≤ 2 by decide), fun z hz => by rw [List.mem_singleton.mp hz]; exact sk1⟩
          · exact ⟨b3, [Str.ofString "# if"], rfl, t6 _ _ (t5 _ _ (t4 _ _ upd_same)), (show 1 ≤ 2 by decide), fun z hz => by rw [List.mem_singleton.mp hz]; exact sk2⟩
          · exact ⟨b4, [Str.ofString "#"], rfl, t6 _ _ (t5 _ _ upd_same), (show 1 ≤ 2 by decide), fun z hz => by rw [List.mem_singleton.mp hz]; exact sk3⟩
          · refine ⟨b5, [Str.ofString "", Str.ofString "#if always then stop"], rfl, t6 _ _ upd_same, (show 2 ≤ 2 by decide), fun z hz => ?_⟩
            simp only [List.mem_cons, List.mem_nil_iff, or_false] at hz
            rcases hz with rfl | rfl
            · exact sk1
            · exact sk4
        have e6 : upd (upd (upd (upd (upd (upd H9 b1 (.lst [])) b2 (.lst [V.str (Str.ofString "")])) b3 (.lst [V.str (Str.ofString "# if")])) b4 (.lst [V.str (Str.ofString "#")])) b5 (.lst [V.str (Str.ofString ""), V.str (Str.ofString "#if always then stop")])) b6 (.lst [V.ref b1, .ref b2, .ref b3, .ref b4, .ref b5]) b6 = some (.lst [V.ref b1, .ref b2, .ref b3, .ref b4, .ref b5]) := upd_same
        generalize upd (upd (upd (upd (upd (upd H9 b1 (.lst [])) b2 (.lst [V.str (Str.ofString "")])) b3 (.lst [V.str (Str.ofString "# if")])) b4 (.lst [V.str (Str.ofString "#")])) b5 (.lst [V.str (Str.ofString ""), V.str (Str.ofString "#if always then stop")])) b6 (.lst [V.ref b1, .ref b2, .ref b3, .ref b4, .ref b5]) = H10 at e6 hB sB
        obtain ⟨bb, bs, rfl, eb, hbl, hbs⟩ := hB
        refine ⟨_, rfl, _, 5, rfl, rfl, (show (0 : Int) < 5 by decide), b6, _, _, .ref bb, rfl, rfl, .inl (.inl e6), ex, ?_⟩
        refine ⟨lw, bb, _, _, rfl, rfl, sB _ _ eU, eb, by rw [List.length_map, List.length_map, sizeLine_eq]; omega, fun c1 nc1 => ⟨_, rfl, n1, fun c2 nc2 => ⟨c1, c2, _, _, rfl, rfl, same_upd nc2 _ _ upd_same, upd_same, by rw [List.length_append, List.length_map, List.length_map, sizeLine_eq]; show _ + 1 ≤ _; omega, fun c3 nc3 => ?_⟩⟩⟩
        have sC := (same_upd (o := .lst (ls.map V.str ++ bs.map V.str)) nc1).trans ((same_upd (o := .lst [V.str row]) nc2).trans (same_upd (o := .lst (ls.map V.str ++ bs.map V.str ++ [V.str row])) nc3))
        refine ⟨_, _, _, c3, ls ++ bs ++ [row], rfl, smU.trans (sB.trans sC), by rw [upd_same, List.map_append, List.map_append]; rfl, by rw [List.length_append, List.length_append, List.length_singleton]; omega, fun z hz => ?_, ?_⟩
        · rcases List.mem_append.mp hz with hz | hz
          · rcases List.mem_append.mp hz with hz | hz
            · exact hls z hz
            · exact (hbs z hz).line
          · rw [List.mem_singleton.mp hz]; exact hgr.line
        · rw [List.filter_append, List.filter_append, hlf, skip_filter hbs, List.append_nil, htk, rows_filter (rows := [row]) (fun z hz => by rw [List.mem_singleton.mp hz]; exact hgr)]
      · obtain ⟨y6, y7, y8, lw, ls, rfl, sm, el, hll, hls, hlf⟩ := hP
        rw [List.length_map] at hll hlf
        rw [List.take_length] at hlf
        have e36 := sm _ _ e35
        have eD6 := sm _ _ eD5
        dsimp only [tSeq, tAsg, gName]
        refine ⟨_, rfl, Nat.zero_le _, fun b1 nb1 => ⟨n1, fun b2 nb2 => ⟨n1, fun b3 nb3 => ⟨by show 3 ≤ _; rw [sizeLine_eq]; decide, fun b4 nb4 => ?_⟩⟩⟩⟩
        have t1 := same_upd (o := .lst []) nb1
        have t2 := same_upd (o := .lst [V.str (Str.ofString "")]) nb2
        have t3 := same_upd (o := .lst [V.str (Str.ofString "# x")]) nb3
        have t4 := same_upd (o := .lst [V.ref b1, .ref b2, .ref b3]) nb4
        have sB := t1.trans (t2.trans (t3.trans t4))
        have hB : ∀ x ∈ [V.ref b1, .ref b2, .ref b3], ∃ (bb : Addr) (bs : List Str), x = .ref bb ∧ upd (upd (upd (upd H6 b1 (.lst [])) b2 (.lst [V.str (Str.ofString "")])) b3 (.lst [V.str (Str.ofString "# x")])) b4 (.lst [V.ref b1, .ref b2, .ref b3]) bb = some (.lst (bs.map V.str)) ∧ bs.length ≤ 1 ∧ ∀ z ∈ bs, SkipLine z := by
          intro x hx
          simp only [List.mem_cons, List.mem_nil_iff, or_false] at hx
          rcases hx with rfl | rfl | rfl
          · exact ⟨b1, [], rfl, t4 _ _ (t3 _ _ (t2 _ _ upd_same)), by decide, fun z hz => by cases hz⟩
          · exact ⟨b2, [Str.ofString ""], rfl, t4 _ _ (t3 _ _ upd_same), (show 1 ≤ 1 by decide), fun z hz => by rw [List.mem_singleton.mp hz]; exact sk1⟩
          · exact ⟨b3, [Str.ofString "# x"], rfl, t4 _ _ upd_same, (show 1 ≤ 1 by decide), fun z hz => by rw [List.mem_singleton.mp hz]; exact sk5⟩
        have e6 : upd (upd (upd (upd H6 b1 (.lst [])) b2 (.lst [V.str (Str.ofString "")])) b3 (.lst [V.str (Str.ofString "# x")])) b4 (.lst [V.ref b1, .ref b2, .ref b3]) b4 = some (.lst [V.ref b1, .ref b2, .ref b3]) := upd_same
        generalize upd (upd (upd (upd H6 b1 (.lst [])) b2 (.lst [V.str (Str.ofString "")])) b3 (.lst [V.str (Str.ofString "# x")])) b4 (.lst [V.ref b1, .ref b2, .ref b3]) = H10 at e6 hB sB
        obtain ⟨cl, hcl2⟩ : ∃ cl : Int, atI (cs.map V.int) (-1) = some (.int cl) := by
          rcases List.eq_nil_or_concat cs with h | ⟨L, y, h⟩
          · rw [h] at hcl; exact absurd hcl.2 (by decide)
          · rw [List.concat_eq_append] at h
            rw [h, List.map_append]
            exact ⟨y, atI_last _ _⟩
        refine ⟨_, rfl, 1, rfl, g3, _, _, .int cl, rfl, rfl, .inl (.inl (sB _ _ e36)), hcl2, cl, 191, rfl, by decide, by decide, fun m hm H11 s11 => ?_⟩
        obtain ⟨x, hx, ex⟩ := pickL [V.ref b1, .ref b2, .ref b3] ((m : Int) % 3) (by omega) (by show _ < (3 : Int); omega)
        obtain ⟨bb, bs, rfl, eb, hbl, hbs⟩ := hB x hx
        refine ⟨_, 3, rfl, rfl, (show (0 : Int) < 3 by decide), b4, _, _, .ref bb, rfl, rfl, .inl (.inl (s11 _ _ e6)), ex, ?_⟩
        refine ⟨lw, bb, _, _, rfl, rfl, s11 _ _ (sB _ _ el), s11 _ _ eb, by rw [List.length_map, List.length_map, sizeLine_eq]; omega, fun c1 nc1 => ?_⟩
        have sC := sB.trans (s11.trans (same_upd (o := .lst (ls.map V.str ++ bs.map V.str)) nc1))
        have eL : upd H11 c1 (.lst (ls.map V.str ++ bs.map V.str)) c1 = some (.lst ((ls ++ bs).map V.str)) := by rw [upd_same, List.map_append]
        have hls' : ∀ z ∈ ls ++ bs, LineOk z := fun z hz => by
          rcases List.mem_append.mp hz with hz | hz
          · exact hls z hz
          · exact (hbs z hz).line
        have hlf' : (ls ++ bs).filter (fun z => !skipB z) = rows := by rw [List.filter_append, hlf, skip_filter hbs, List.append_nil]
        have hll' : (ls ++ bs).length ≤ 94 := by rw [List.length_append]; omega
        have eD' := sC _ _ eD6
        generalize upd H11 c1 (.lst (ls.map V.str ++ bs.map V.str)) = H12 at sC eL eD'
        generalize ls ++ bs = Ls at *
        have hLne : Ls ≠ [] := fun e => by rw [e] at hlf'; rw [← hlf'] at hrl31; exact absurd hrl31.2 (by decide)
        have hrne : rows ≠ [] := fun e => by rw [e] at hrl31; exact absurd hrl31.2 (by decide)
        have htL := rows_tot (n := 94) (fun z hz => (hls' z hz).2.1) hll'
        have htR := rows_tot (n := 31) (fun z hz => (hrs z hz).2.2.1) hrl31.1
        have hjL := join_tot (Str.ofString "\n") Ls
        have hjR := join_tot (Str.ofString "\n") rows
        rw [l1] at hjL hjR
        have spL := split_rows hLne fun z hz => (hls' z hz).1
        have spR := split_rows hrne fun z hz => (hrs z hz).2.2.2
        have clR : ∀ z ∈ rows, skipB z = true ∨ (skipB z = false ∧ RuleRow z) := fun z hz => .inr ⟨(hrs z hz).2.1, (hrs z hz).1⟩
        have flR := rows_filter hrs
        have lnR : ∀ z ∈ rows, z.length ≤ 5000 := fun z hz => by have := (hrs z hz).2.2.1; omega
        dsimp only
        refine ⟨2, rfl, by decide, by decide, for_it walk_range (fun i σ H' => ∃ (y5 y6 y7 y8 y9 : Option V), σ = [some (.ref p), some (.ref aw), some (.ref g3), some (.ref D), some (.ref c1), y5, y6, y7, y8, y9, none] ∧ Same H12 H')
          ⟨_, _, _, _, _, rfl, Same.refl _⟩ (fun _ _ _ _ _ => trivial) (fun i x σ H13 H14 hi hP hy => ?_) (fun σ H13 hP => ?_)⟩
        · obtain ⟨y5, y6, y7, y8, y9, rfl, sm⟩ := hP
          obtain ⟨rfl, rfl⟩ := hy
          dsimp only [tSeq, tAsg, gName]
          have eL' := sm _ _ eL
          have eD' := sm _ _ eD'
          refine ⟨⟨_, rfl⟩, _, rfl, Str.ofString "\n", c1, Ls, rfl, rfl, .inl (.inl (.inl eL')), by rw [tot_sum, l1]; omega, _, Ls, rfl, by omega, spL, fun z hz => (hls' z hz).2.2, fun H15 pf ts s15 n15 e15 hR => ?_⟩
          rw [hlf'] at hR
          have htl := hR.1
          have eD15 := s15 _ _ eD'
          refine ifT false (fun k q1 => orT false false (fun k q2 => notT true (fun k q3 => ⟨_, rfl, .ref pf, .ty "list", _, _, true, rfl, .ty _, .base (.lst e15), kit_ty (by decide +kernel), true, rfl, q3 _ (Same.refl _)⟩) q2) (fun _ H16 k s16 q2 => orT false false (fun k q3 => ⟨_, rfl, pf, _, rfl, .inl (.inl (.inl (s16 _ _ e15))), _, rfl, D, _, rfl, .inl (.inl (.inl (s16 _ _ eD15))), rfl, _, rfl, TellB.eq (by rw [List.length_map, List.length_map, htl, decide_eq_true rfl]; rfl) q3 _ (Same.refl _)⟩) (fun _ H17 k s17 q3 => ⟨_, rfl, pf, ts, rows, rfl, s17 _ _ (s16 _ _ e15), (hR.same s16).same s17, by omega, lnR, fun H18 s18 => ⟨⟨_, rfl⟩, _, rfl, Str.ofString "\n", D, rows, rfl, rfl, .inl (.inl (.inl (s18 _ _ (s17 _ _ (s16 _ _ eD15))))), by rw [tot_sum, l1]; omega, rfl, _, rfl, TellB.eq (by rw [decide_eq_true rfl]; rfl) q3 _ s18⟩⟩) q2) q1) (fun h => nomatch h) (fun _ H16 s16 => ?_)
          dsimp only [tNext, tSeq]
          have sA := s15.trans s16
          have e16 := s16 _ _ e15
          have hR16 := hR.same s16
          have eD16 := s16 _ _ eD15
          refine ifT false (fun k q1 => ⟨_, rfl, pf, ts, rows, rfl, e16, hR16, by omega, lnR, fun H17 s17 => ⟨_, rows, rfl, by omega, spR, clR, fun H18 p7 ts7 s18 n18 e18 hR7 => ⟨p7, ts7, rows, rfl, e18, by rw [flR] at hR7; exact hR7, by omega, lnR, fun H19 s19 => ⟨⟨_, rfl⟩, _, rfl, Str.ofString "\n", D, rows, rfl, rfl, .inl (.inl (.inl (s19 _ _ (s18 _ _ (s17 _ _ eD16))))), by rw [tot_sum, l1]; omega, rfl, _, rfl, TellB.eq (by rw [decide_eq_true rfl]; rfl) q1 _ (s17.trans (s18.trans s19))⟩⟩⟩⟩) (fun h => nomatch h) (fun _ H17 s17 => ?_)
          dsimp only [tNext, tSeq]
          have e17 := s17 _ _ e16
          have hR17 := hR16.same s17
          have eD17 := s17 _ _ eD16
          refine ⟨_, rfl, D, _, rfl, .inl (.inl (.inl eD17)), _, rfl, by rw [List.length_map]; omega, by rw [List.length_map]; omega, for_it walk_range (fun k σ H' => ∃ (y6 : Option V), σ = [some (.ref p), some (.ref aw), some (.ref g3), some (.ref D), some (.ref c1), some (.int (0 + (i : Int))), y6, y7, y8, some (.ref pf), none] ∧ Same H17 H')
            ⟨_, rfl, Same.refl _⟩ (fun _ _ _ _ _ => trivial) (fun k x σ H18 H19 hk hP hy => ?_) (fun σ H18 hP => ?_)⟩
          · obtain ⟨y6, rfl, sm8⟩ := hP
            obtain ⟨rfl, rfl⟩ := hy
            rw [List.length_map] at hk
            have hk : k < rows.length := by omega
            have e18 := sm8 _ _ e17
            have eD18 := sm8 _ _ eD17
            have hgr : GR (rows.getD k Str.empty) := hrs _ (getD_mem rows _ hk)
            have hixr := ix_row hk
            have hRk : ∀ H', Same H19 H' → RulesR H' [ts.getD k 0] [rows.getD k Str.empty] := fun H' s' => ⟨rfl, fun j hj => by
              have : j = 0 := by have : j < 1 := hj; omega
              subst this
              obtain ⟨x, y, e⟩ := hR17.2 k hk
              exact ⟨x, y, s' _ _ (sm8 _ _ e)⟩⟩
            generalize rows.getD k Str.empty = row at *
            have spo := split_rows (ls := [row]) (by simp) fun z hz => by rw [List.mem_singleton.mp hz]; exact hgr.2.2.2
            rw [join_one] at spo
            have hrl5 : ∀ z ∈ [row], z.length ≤ 5000 := fun z hz => by rw [List.mem_singleton.mp hz]; have := hgr.2.2.1; omega
            dsimp only [gName]
            refine ifT false (fun k' q1 => orT false false (fun k' q2 => ⟨_, rfl, _, rfl, _, rfl, _, rfl, _, 1, rfl, rfl, _, rfl, pf, _, rfl, .inl (.inl e18), fun g ng => ⟨g, [ts.getD k 0], [row], rfl, by rw [upd_same, cut_one (by omega)]; rfl, hRk _ (same_upd ng), (show 1 ≤ 1000 by decide), hrl5, fun H20 s20 => ⟨_, rfl, _, rfl, D, _, _, .str row, rfl, rfl, .inl (.inl (s20 _ _ (same_upd ng _ _ eD18))), hixr, rfl, _, rfl, TellB.eq (by rw [join_one, decide_eq_true rfl]; rfl) q2 _ ((same_upd ng).trans s20)⟩⟩⟩) (fun _ H20 k' s20 q2 => ⟨_, rfl, _, rfl, D, _, _, .str row, rfl, rfl, .inl (.inl (s20 _ _ eD18)), hixr, row, [row], rfl, by have := hgr.2.2.1; omega, spo, fun z hz => by rw [List.mem_singleton.mp hz]; exact .inr ⟨hgr.2.1, hgr.1⟩, fun H21 p6 ts6 s21 n21 e21 hR6 => ⟨p6, ts6, [row], rfl, e21, by rw [rows_filter (rows := [row]) (fun z hz => by rw [List.mem_singleton.mp hz]; exact hgr)] at hR6; exact hR6, (show 1 ≤ 1000 by decide), hrl5, fun H22 s22 => ⟨_, rfl, _, rfl, D, _, _, .str row, rfl, rfl, .inl (.inl (s22 _ _ (s21 _ _ (s20 _ _ eD18)))), hixr, rfl, _, rfl, TellB.eq (by rw [join_one, decide_eq_true rfl]; rfl) q2 _ (s21.trans s22)⟩⟩⟩) q1) (fun h => nomatch h) (fun _ H20 s20 => ?_)
            exact ⟨_, rfl, sm8.trans s20⟩
          · obtain ⟨y6, rfl, sm8⟩ := hP
            have e18 := sm8 _ _ e17
            have hR18 := hR17.same sm8
            have hty : (ts.map V.ref)[(ts.map V.ref).length - 1]? = some (.ref (ts.getD (ts.length - 1) 0)) := by
              rw [List.length_map, List.getElem?_map, List.getElem?_eq_getElem (by omega), List.getD_eq_getElem?_getD, List.getElem?_eq_getElem (by omega)]
              rfl
            dsimp only [tSeq]
            refine ⟨.ref pf, rfl, .inl ⟨rfl, _, .inl (.inl e18)⟩, pf, _, _, rfl, rfl, e18, hty, ?_⟩
            have npf : H12 pf = none := sm.free n15
            have hDp : D ≠ pf := fun e => by rw [e, n15] at eD'; exact nomatch eD'
            have hsp : Same H12 (upd H18 pf (.lst (ts.map V.ref).dropLast)) := fun b o hb => by
              rw [upd_ne (ne_of_none hb npf)]
              exact sm8 _ _ (s17 _ _ (sA _ _ (sm _ _ hb)))
            have hRd : RulesR (upd H18 pf (.lst (ts.map V.ref).dropLast)) ts.dropLast rows.dropLast := by
              refine ⟨by rw [List.length_dropLast, List.length_dropLast, htl], fun j hj => ?_⟩
              rw [List.length_dropLast] at hj
              obtain ⟨x, y, e⟩ := hR18.2 j (by omega)
              refine ⟨x, y, ?_⟩
              rw [drop_get (by omega), drop_get (by omega), upd_ne (fun e2 => by rw [e2, e18] at e; exact nomatch e)]
              exact e
            have ed : upd H18 pf (.lst (ts.map V.ref).dropLast) pf = some (.lst (ts.dropLast.map V.ref)) := by rw [upd_same, List.map_dropLast]
            have eDd : upd H18 pf (.lst (ts.map V.ref).dropLast) D = some (.lst (rows.map V.str)) := by rw [upd_ne hDp]; exact sm8 _ _ eD17
            generalize upd H18 pf (.lst (ts.map V.ref).dropLast) = H19 at hsp hRd ed eDd
            dsimp only [tSeq]
            have hdl : ∀ z ∈ rows.dropLast, z.length ≤ 5000 := fun z hz => lnR z (List.dropLast_subset _ hz)
            have htd : tot 1 rows.dropLast ≤ 31 * 4001 := rows_tot (n := 31) (fun z hz => (hrs z (List.dropLast_subset _ hz)).2.2.1) (by rw [List.length_dropLast]; omega)
            refine ifT false (fun k q1 => ⟨_, rfl, pf, ts.dropLast, rows.dropLast, rfl, ed, hRd, by rw [List.length_dropLast]; omega, hdl, fun H20 s20 => ⟨⟨_, rfl⟩, _, rfl, 1, rfl, _, rfl, D, _, rfl, .inl (.inl (s20 _ _ eDd)), fun g ng => ⟨Str.ofString "\n", g, rows.dropLast, rfl, rfl, .inl (.inl (.inl (by rw [upd_same, cutV_init, List.map_dropLast]))), by rw [tot_sum, l1]; omega, rfl, _, rfl, TellB.eq (by rw [decide_eq_true rfl]; rfl) q1 _ (s20.trans (same_upd ng))⟩⟩⟩) (fun h => nomatch h) (fun _ H20 s20 => ?_)
            exact ⟨_, _, _, _, _, rfl, hsp.trans s20⟩
        · obtain ⟨y5, y6, y7, y8, y9, rfl, sm⟩ := hP
          dsimp only [tRet]
          refine andV true true (fun Q' q' => ?_) (fun _ H14 Q' s14 q' => andV true true (fun Q' q' => ?_) (fun _ H15 Q' s15 q' => ?_) q') (fun H' _ => q H')
          · refine ⟨Str.ofString "", [Str.ofString ""], rfl, by decide +kernel, by decide +kernel, fun z hz => by rw [List.mem_singleton.mp hz]; exact .inl (by decide +kernel), fun H5 p5 ts s5 n5 e5 hR => ⟨Nat.zero_le _, fun g ng => ?_⟩⟩
            have h0 : ([Str.ofString ""].filter fun z => !skipB z) = [] := by decide +kernel
            rw [h0] at hR
            obtain rfl : ts = [] := List.length_eq_zero_iff.mp hR.1
            refine ⟨_, _, .lst (ds := []) (.inl (.inl (same_upd ng _ _ e5))) .nil, .lst (ds := []) (.inl (.inl upd_same)) .nil, sh0, sh0, ?_⟩
            rw [eqv0]
            exact q' _ (s5.trans (same_upd ng))
          · refine ⟨Nat.zero_le _, fun g ng => ⟨g, [], [], rfl, upd_same, ⟨rfl, fun j hj => by cases hj⟩, Nat.zero_le _, (fun z hz => by cases hz), fun H5 s5 => ⟨rfl, ?_⟩⟩⟩
            rw [show decide (V.str (Txt.join (Str.ofString "\n") []) = V.str (Str.ofString "")) = true by decide +kernel]
            exact q' _ ((same_upd ng).trans s5)
          · refine ⟨Str.ofString "#\n\n#", [Str.ofString "#", Str.ofString "", Str.ofString "#"], rfl, by decide +kernel, by decide +kernel, fun z hz => .inl ?_, fun H5 p5 ts s5 n5 e5 hR => ⟨Nat.zero_le _, fun g ng => ?_⟩⟩
            · simp only [List.mem_cons, List.mem_nil_iff, or_false] at hz
              rcases hz with rfl | rfl | rfl <;> decide +kernel
            have h0 : ([Str.ofString "#", Str.ofString "", Str.ofString "#"].filter fun z => !skipB z) = [] := by decide +kernel
            rw [h0] at hR
            obtain rfl : ts = [] := List.length_eq_zero_iff.mp hR.1
            refine ⟨_, _, .lst (ds := []) (.inl (.inl (same_upd ng _ _ e5))) .nil, .lst (ds := []) (.inl (.inl upd_same)) .nil, sh0, sh0, ?_⟩
            rw [eqv0]
            exact q' _ (s5.trans (same_upd ng))
end
end K31

namespace K31
open PySem PySem.Spec PyProof.Rows L2 LH
set_option maxHeartbeats 2000000 in
theorem all_mk {l : PySem.W.OpenLaw} {w : World} {K : PySem.W.Frag} {h : Heap} {mg : Str → Option Value} {fa : Addr} {f0 f1 f2 f3 f4 f5 f6 f7 f8 f9 f10 f11 f12 f13 f14 f15 f16 f17 f18 f19 f20 f21 f22 f23 f24 f25 f26 f27 f28 f29 f30 f31 f32 f33 f34 f35 f36 f37 f38 f39 f40 f41 f42 f43 f44 : Addr} {t1 t2 t3 t4 t5 t6 t7 t8 t9 t10 t11 t12 t13 : Tok} (X : K.In h) (G : h.Ns mainGlobals mg) (hfa : mg "law" = some (.ref fa))
    {cReader : Addr}
    (mReader : PySem.W.nsIn K mainGlobals "Reader" = some (some (.ref cReader))) (pgReader : PySem.W.plainGet K cReader Str.empty = true) (hdReader : PySem.W.hasDictIn K cReader = true) (poReader : PySem.W.plainOver K cReader = true) (saReader : PySem.W.findIn K (.ref cReader) "__setattr__" = some (some (.builtin "object.__setattr__"))) (mkReader : PySem.W.makesIn K cReader = true) (kpReader : PySem.W.keepIn K (.ref cReader) = true) (naReader0 : PySem.W.findIn K (.ref cReader) "signs" = some none) (naReader1 : PySem.W.findIn K (.ref cReader) "at" = some none)
    {dn : Addr} {oddn : Option Addr} {ndn : Nat} {sldn : Array (Option Value)} {tdn0 tdn1 tdn2 tdn3 tdn4 tdn5 tdn6 : Tok}
    (vdn : PySem.W.nsIn K mainGlobals "DAY_NAMES" = some (some (.ref dn))) (ldn : K.lookup dn = some ⟨.type "tuple", oddn, .seq #[.str (Str.ofString "Mon") tdn0, .str (Str.ofString "Tue") tdn1, .str (Str.ofString "Wed") tdn2, .str (Str.ofString "Thu") tdn3, .str (Str.ofString "Fri") tdn4, .str (Str.ofString "Sat") tdn5, .str (Str.ofString "Sun") tdn6] ndn, sldn⟩)
    {md : Addr} {odmd : Option Addr} {nmd : Nat} {slmd : Array (Option Value)} {tmd0 tmd1 tmd2 tmd3 tmd4 tmd5 tmd6 tmd7 tmd8 tmd9 tmd10 tmd11 : Tok}
    (vmd : PySem.W.nsIn K mainGlobals "MONTH_DAYS" = some (some (.ref md))) (lmd : K.lookup md = some ⟨.type "tuple", odmd, .seq #[.int 31 tmd0, .int 28 tmd1, .int 31 tmd2, .int 30 tmd3, .int 31 tmd4, .int 30 tmd5, .int 31 tmd6, .int 31 tmd7, .int 30 tmd8, .int 31 tmd9, .int 30 tmd10, .int 31 tmd11] nmd, slmd⟩)
    {nd1 : Addr} {odnd1 : Option Addr} {nnd1 : Nat} {slnd1 : Array (Option Value)} {tnd10 tnd11 tnd12 tnd13 : Tok}
    (vnd1 : PySem.W.nsIn K mainGlobals "NAMED_DEEDS" = some (some (.ref nd1))) (lnd1 : K.lookup nd1 = some ⟨.type "tuple", odnd1, .seq #[.str (Str.ofString "move") tnd10, .str (Str.ofString "copy") tnd11, .str (Str.ofString "mark") tnd12, .str (Str.ofString "unmark") tnd13] nnd1, slnd1⟩)
    {pd : Addr} {odpd : Option Addr} {npd : Nat} {slpd : Array (Option Value)} {tpd0 tpd1 : Tok}
    (vpd : PySem.W.nsIn K mainGlobals "PLAIN_DEEDS" = some (some (.ref pd))) (lpd : K.lookup pd = some ⟨.type "tuple", odpd, .seq #[.str (Str.ofString "refuse") tpd0, .str (Str.ofString "stop") tpd1] npd, slpd⟩)
    {al : Addr}
    (val : PySem.W.nsIn K mainGlobals "ALWAYS" = some (some (.ref al)))
    {od0 an0 : Option Addr} {sl0 : Array (Option Value)} {oc0 kV0 dc0 pm0 cd0 ct0 : Value}
    (a0 : PySem.W.nsIn K mainGlobals "_law_mixed" = some (some (.ref f0)))
    (l0 : K.lookup f0 = some ⟨oc0, od0, .func (PySem.W.fnOf "_law_mixed" "_law_mixed" (defArgs s__law_mixed) (defBody s__law_mixed) (defScope s__law_mixed) .none kV0 dc0 pm0 an0 cd0 ct0), sl0⟩) (c0 : PySem.W.codeIn K cd0 "_law_mixed" = true) (k0 : PySem.W.keepIn K (.ref f0) = true)
    {od1 an1 : Option Addr} {sl1 : Array (Option Value)} {oc1 kV1 dc1 pm1 cd1 ct1 : Value}
    (a1 : PySem.W.nsIn K mainGlobals "_law_total" = some (some (.ref f1)))
    (l1 : K.lookup f1 = some ⟨oc1, od1, .func (PySem.W.fnOf "_law_total" "_law_total" (defArgs s__law_total) (defBody s__law_total) (defScope s__law_total) .none kV1 dc1 pm1 an1 cd1 ct1), sl1⟩) (c1 : PySem.W.codeIn K cd1 "_law_total" = true) (k1 : PySem.W.keepIn K (.ref f1) = true)
    {od2 an2 : Option Addr} {sl2 : Array (Option Value)} {oc2 kV2 dc2 pm2 cd2 ct2 : Value}
    (a2 : PySem.W.nsIn K mainGlobals "_law_text" = some (some (.ref f2)))
    (l2 : K.lookup f2 = some ⟨oc2, od2, .func (PySem.W.fnOf "_law_text" "_law_text" (defArgs s__law_text) (defBody s__law_text) (defScope s__law_text) .none kV2 dc2 pm2 an2 cd2 ct2), sl2⟩) (c2 : PySem.W.codeIn K cd2 "_law_text" = true) (k2 : PySem.W.keepIn K (.ref f2) = true)
    {od3 an3 : Option Addr} {sl3 : Array (Option Value)} {oc3 kV3 dc3 pm3 cd3 ct3 : Value}
    (a3 : PySem.W.nsIn K mainGlobals "_law_small" = some (some (.ref f3)))
    (l3 : K.lookup f3 = some ⟨oc3, od3, .func (PySem.W.fnOf "_law_small" "_law_small" (defArgs s__law_small) (defBody s__law_small) (defScope s__law_small) .none kV3 dc3 pm3 an3 cd3 ct3), sl3⟩) (c3 : PySem.W.codeIn K cd3 "_law_small" = true) (k3 : PySem.W.keepIn K (.ref f3) = true)
    {od4 an4 : Option Addr} {sl4 : Array (Option Value)} {oc4 kV4 dc4 pm4 cd4 ct4 : Value}
    (a4 : PySem.W.nsIn K mainGlobals "_law_names" = some (some (.ref f4)))
    (l4 : K.lookup f4 = some ⟨oc4, od4, .func (PySem.W.fnOf "_law_names" "_law_names" (defArgs s__law_names) (defBody s__law_names) (defScope s__law_names) .none kV4 dc4 pm4 an4 cd4 ct4), sl4⟩) (c4 : PySem.W.codeIn K cd4 "_law_names" = true) (k4 : PySem.W.keepIn K (.ref f4) = true)
    {od5 an5 : Option Addr} {sl5 : Array (Option Value)} {oc5 kV5 dc5 pm5 cd5 ct5 : Value}
    (a5 : PySem.W.nsIn K mainGlobals "_law_addresses" = some (some (.ref f5)))
    (l5 : K.lookup f5 = some ⟨oc5, od5, .func (PySem.W.fnOf "_law_addresses" "_law_addresses" (defArgs s__law_addresses) (defBody s__law_addresses) (defScope s__law_addresses) .none kV5 dc5 pm5 an5 cd5 ct5), sl5⟩) (c5 : PySem.W.codeIn K cd5 "_law_addresses" = true) (k5 : PySem.W.keepIn K (.ref f5) = true)
    {od6 an6 : Option Addr} {sl6 : Array (Option Value)} {oc6 kV6 dc6 pm6 cd6 ct6 : Value}
    (a6 : PySem.W.nsIn K mainGlobals "_law_world" = some (some (.ref f6)))
    (l6 : K.lookup f6 = some ⟨oc6, od6, .func (PySem.W.fnOf "_law_world" "_law_world" (defArgs s__law_world) (defBody s__law_world) (defScope s__law_world) .none kV6 dc6 pm6 an6 cd6 ct6), sl6⟩) (c6 : PySem.W.codeIn K cd6 "_law_world" = true) (k6 : PySem.W.keepIn K (.ref f6) = true)
    {od7 an7 : Option Addr} {sl7 : Array (Option Value)} {oc7 kV7 dc7 pm7 cd7 ct7 : Value}
    (a7 : PySem.W.nsIn K mainGlobals "is_number" = some (some (.ref f7)))
    (l7 : K.lookup f7 = some ⟨oc7, od7, .func (PySem.W.fnOf "is_number" "is_number" (defArgs s_is_number) (defBody s_is_number) (defScope s_is_number) .none kV7 dc7 pm7 an7 cd7 ct7), sl7⟩) (c7 : PySem.W.codeIn K cd7 "is_number" = true) (k7 : PySem.W.keepIn K (.ref f7) = true)
    {od8 an8 : Option Addr} {sl8 : Array (Option Value)} {oc8 kV8 dc8 pm8 cd8 ct8 : Value}
    (a8 : PySem.W.nsIn K mainGlobals "has_leap_day" = some (some (.ref f8)))
    (l8 : K.lookup f8 = some ⟨oc8, od8, .func (PySem.W.fnOf "has_leap_day" "has_leap_day" (defArgs s_has_leap_day) (defBody s_has_leap_day) (defScope s_has_leap_day) .none kV8 dc8 pm8 an8 cd8 ct8), sl8⟩) (c8 : PySem.W.codeIn K cd8 "has_leap_day" = true) (k8 : PySem.W.keepIn K (.ref f8) = true)
    {od9 an9 : Option Addr} {sl9 : Array (Option Value)} {oc9 kV9 dc9 pm9 cd9 ct9 : Value}
    (a9 : PySem.W.nsIn K mainGlobals "days_ahead" = some (some (.ref f9)))
    (l9 : K.lookup f9 = some ⟨oc9, od9, .func (PySem.W.fnOf "days_ahead" "days_ahead" (defArgs s_days_ahead) (defBody s_days_ahead) (defScope s_days_ahead) .none kV9 dc9 pm9 an9 cd9 ct9), sl9⟩) (c9 : PySem.W.codeIn K cd9 "days_ahead" = true) (k9 : PySem.W.keepIn K (.ref f9) = true)
    {od10 an10 : Option Addr} {sl10 : Array (Option Value)} {oc10 kV10 dc10 pm10 cd10 ct10 : Value}
    (a10 : PySem.W.nsIn K mainGlobals "day_text" = some (some (.ref f10)))
    (l10 : K.lookup f10 = some ⟨oc10, od10, .func (PySem.W.fnOf "day_text" "day_text" (defArgs s_day_text) (defBody s_day_text) (defScope s_day_text) .none kV10 dc10 pm10 an10 cd10 ct10), sl10⟩) (c10 : PySem.W.codeIn K cd10 "day_text" = true) (k10 : PySem.W.keepIn K (.ref f10) = true)
    {od11 an11 : Option Addr} {sl11 : Array (Option Value)} {oc11 kV11 dc11 pm11 cd11 ct11 : Value}
    (a11 : PySem.W.nsIn K mainGlobals "day_name" = some (some (.ref f11)))
    (l11 : K.lookup f11 = some ⟨oc11, od11, .func (PySem.W.fnOf "day_name" "day_name" (defArgs s_day_name) (defBody s_day_name) (defScope s_day_name) .none kV11 dc11 pm11 an11 cd11 ct11), sl11⟩) (c11 : PySem.W.codeIn K cd11 "day_name" = true) (k11 : PySem.W.keepIn K (.ref f11) = true)
    {od12 an12 : Option Addr} {sl12 : Array (Option Value)} {oc12 kV12 dc12 pm12 cd12 ct12 : Value}
    (a12 : PySem.W.nsIn K mainGlobals "clock_text" = some (some (.ref f12)))
    (l12 : K.lookup f12 = some ⟨oc12, od12, .func (PySem.W.fnOf "clock_text" "clock_text" (defArgs s_clock_text) (defBody s_clock_text) (defScope s_clock_text) .none kV12 dc12 pm12 an12 cd12 ct12), sl12⟩) (c12 : PySem.W.codeIn K cd12 "clock_text" = true) (k12 : PySem.W.keepIn K (.ref f12) = true)
    {od13 an13 : Option Addr} {sl13 : Array (Option Value)} {oc13 kV13 dc13 pm13 cd13 ct13 : Value}
    (a13 : PySem.W.nsIn K mainGlobals "ahead_text" = some (some (.ref f13)))
    (l13 : K.lookup f13 = some ⟨oc13, od13, .func (PySem.W.fnOf "ahead_text" "ahead_text" (defArgs s_ahead_text) (defBody s_ahead_text) (defScope s_ahead_text) .none kV13 dc13 pm13 an13 cd13 ct13), sl13⟩) (c13 : PySem.W.codeIn K cd13 "ahead_text" = true) (k13 : PySem.W.keepIn K (.ref f13) = true)
    {od14 an14 : Option Addr} {sl14 : Array (Option Value)} {oc14 kV14 dc14 pm14 cd14 ct14 : Value}
    (a14 : PySem.W.nsIn K mainGlobals "time_text" = some (some (.ref f14)))
    (l14 : K.lookup f14 = some ⟨oc14, od14, .func (PySem.W.fnOf "time_text" "time_text" (defArgs s_time_text) (defBody s_time_text) (defScope s_time_text) .none kV14 dc14 pm14 an14 cd14 ct14), sl14⟩) (c14 : PySem.W.codeIn K cd14 "time_text" = true) (k14 : PySem.W.keepIn K (.ref f14) = true)
    {od15 an15 : Option Addr} {sl15 : Array (Option Value)} {oc15 kV15 dc15 pm15 cd15 ct15 : Value}
    (a15 : PySem.W.nsIn K mainGlobals "_law_plain_fact" = some (some (.ref f15)))
    (l15 : K.lookup f15 = some ⟨oc15, od15, .func (PySem.W.fnOf "_law_plain_fact" "_law_plain_fact" (defArgs s__law_plain_fact) (defBody s__law_plain_fact) (defScope s__law_plain_fact) .none kV15 dc15 pm15 an15 cd15 ct15), sl15⟩) (c15 : PySem.W.codeIn K cd15 "_law_plain_fact" = true) (k15 : PySem.W.keepIn K (.ref f15) = true)
    {od16 an16 : Option Addr} {sl16 : Array (Option Value)} {oc16 kV16 dc16 pm16 cd16 ct16 : Value}
    (a16 : PySem.W.nsIn K mainGlobals "_law_facts" = some (some (.ref f16)))
    (l16 : K.lookup f16 = some ⟨oc16, od16, .func (PySem.W.fnOf "_law_facts" "_law_facts" (defArgs s__law_facts) (defBody s__law_facts) (defScope s__law_facts) .none kV16 dc16 pm16 an16 cd16 ct16), sl16⟩) (c16 : PySem.W.codeIn K cd16 "_law_facts" = true) (k16 : PySem.W.keepIn K (.ref f16) = true)
    {od17 an17 : Option Addr} {sl17 : Array (Option Value)} {oc17 kV17 dc17 pm17 cd17 ct17 : Value}
    (a17 : PySem.W.nsIn K mainGlobals "_law_deeds" = some (some (.ref f17)))
    (l17 : K.lookup f17 = some ⟨oc17, od17, .func (PySem.W.fnOf "_law_deeds" "_law_deeds" (defArgs s__law_deeds) (defBody s__law_deeds) (defScope s__law_deeds) .none kV17 dc17 pm17 an17 cd17 ct17), sl17⟩) (c17 : PySem.W.codeIn K cd17 "_law_deeds" = true) (k17 : PySem.W.keepIn K (.ref f17) = true)
    {od18 an18 : Option Addr} {sl18 : Array (Option Value)} {oc18 kV18 dc18 pm18 cd18 ct18 : Value}
    (a18 : PySem.W.nsIn K mainGlobals "_law_rule" = some (some (.ref f18)))
    (l18 : K.lookup f18 = some ⟨oc18, od18, .func (PySem.W.fnOf "_law_rule" "_law_rule" (defArgs s__law_rule) (defBody s__law_rule) (defScope s__law_rule) .none kV18 dc18 pm18 an18 cd18 ct18), sl18⟩) (c18 : PySem.W.codeIn K cd18 "_law_rule" = true) (k18 : PySem.W.keepIn K (.ref f18) = true)
    {od19 an19 : Option Addr} {sl19 : Array (Option Value)} {oc19 kV19 dc19 pm19 cd19 ct19 : Value}
    (a19 : PySem.W.nsIn K mainGlobals "read_fact" = some (some (.ref f19)))
    (l19 : K.lookup f19 = some ⟨oc19, od19, .func (PySem.W.fnOf "read_fact" "read_fact" (defArgs s_read_fact) (defBody s_read_fact) (defScope s_read_fact) .none kV19 dc19 pm19 an19 cd19 ct19), sl19⟩) (c19 : PySem.W.codeIn K cd19 "read_fact" = true) (k19 : PySem.W.keepIn K (.ref f19) = true)
    {od20 an20 : Option Addr} {sl20 : Array (Option Value)} {oc20 kV20 dc20 pm20 cd20 ct20 : Value}
    (a20 : PySem.W.nsIn K mainGlobals "read_plain_fact" = some (some (.ref f20)))
    (l20 : K.lookup f20 = some ⟨oc20, od20, .func (PySem.W.fnOf "read_plain_fact" "read_plain_fact" (defArgs s_read_plain_fact) (defBody s_read_plain_fact) (defScope s_read_plain_fact) .none kV20 dc20 pm20 an20 cd20 ct20), sl20⟩) (c20 : PySem.W.codeIn K cd20 "read_plain_fact" = true) (k20 : PySem.W.keepIn K (.ref f20) = true)
    {od21 an21 : Option Addr} {sl21 : Array (Option Value)} {oc21 kV21 dc21 pm21 cd21 ct21 : Value}
    (a21 : PySem.W.nsIn K mainGlobals "is_small_word" = some (some (.ref f21)))
    (l21 : K.lookup f21 = some ⟨oc21, od21, .func (PySem.W.fnOf "is_small_word" "is_small_word" (defArgs s_is_small_word) (defBody s_is_small_word) (defScope s_is_small_word) .none kV21 dc21 pm21 an21 cd21 ct21), sl21⟩) (c21 : PySem.W.codeIn K cd21 "is_small_word" = true) (k21 : PySem.W.keepIn K (.ref f21) = true)
    {od22 an22 : Option Addr} {sl22 : Array (Option Value)} {oc22 kV22 dc22 pm22 cd22 ct22 : Value}
    (a22 : PySem.W.nsIn K mainGlobals "is_name" = some (some (.ref f22)))
    (l22 : K.lookup f22 = some ⟨oc22, od22, .func (PySem.W.fnOf "is_name" "is_name" (defArgs s_is_name) (defBody s_is_name) (defScope s_is_name) .none kV22 dc22 pm22 an22 cd22 ct22), sl22⟩) (c22 : PySem.W.codeIn K cd22 "is_name" = true) (k22 : PySem.W.keepIn K (.ref f22) = true)
    {od23 an23 : Option Addr} {sl23 : Array (Option Value)} {oc23 kV23 dc23 pm23 cd23 ct23 : Value}
    (a23 : PySem.W.nsIn K mainGlobals "is_run" = some (some (.ref f23)))
    (l23 : K.lookup f23 = some ⟨oc23, od23, .func (PySem.W.fnOf "is_run" "is_run" (defArgs s_is_run) (defBody s_is_run) (defScope s_is_run) .none kV23 dc23 pm23 an23 cd23 ct23), sl23⟩) (c23 : PySem.W.codeIn K cd23 "is_run" = true) (k23 : PySem.W.keepIn K (.ref f23) = true)
    {od24 an24 : Option Addr} {sl24 : Array (Option Value)} {oc24 kV24 dc24 pm24 cd24 ct24 : Value}
    (a24 : PySem.W.nsIn K mainGlobals "is_address" = some (some (.ref f24)))
    (l24 : K.lookup f24 = some ⟨oc24, od24, .func (PySem.W.fnOf "is_address" "is_address" (defArgs s_is_address) (defBody s_is_address) (defScope s_is_address) .none kV24 dc24 pm24 an24 cd24 ct24), sl24⟩) (c24 : PySem.W.codeIn K cd24 "is_address" = true) (k24 : PySem.W.keepIn K (.ref f24) = true)
    {od25 an25 : Option Addr} {sl25 : Array (Option Value)} {oc25 kV25 dc25 pm25 cd25 ct25 : Value}
    (a25 : PySem.W.findIn K (.ref cReader) "__init__" = some (some (.ref f25))) (fn25 : PySem.W.isFn K (.ref f25) = true)
    (l25 : K.lookup f25 = some ⟨oc25, od25, .func (PySem.W.fnOf "__init__" "Reader.__init__" (defArgs s_Reader___init__) (defBody s_Reader___init__) (defScope s_Reader___init__) .none kV25 dc25 pm25 an25 cd25 ct25), sl25⟩) (c25 : PySem.W.codeIn K cd25 "Reader.__init__" = true) (k25 : PySem.W.keepIn K (.ref f25) = true)
    {od26 an26 : Option Addr} {sl26 : Array (Option Value)} {oc26 kV26 dc26 pm26 cd26 ct26 : Value}
    (a26 : PySem.W.findIn K (.ref cReader) "end" = some (some (.ref f26))) (fn26 : PySem.W.isFn K (.ref f26) = true)
    (l26 : K.lookup f26 = some ⟨oc26, od26, .func (PySem.W.fnOf "end" "Reader.end" (defArgs s_Reader_end) (defBody s_Reader_end) (defScope s_Reader_end) .none kV26 dc26 pm26 an26 cd26 ct26), sl26⟩) (c26 : PySem.W.codeIn K cd26 "Reader.end" = true) (k26 : PySem.W.keepIn K (.ref f26) = true)
    {od27 an27 : Option Addr} {sl27 : Array (Option Value)} {oc27 kV27 dc27 pm27 cd27 ct27 : Value}
    (a27 : PySem.W.nsIn K mainGlobals "read_whole" = some (some (.ref f27)))
    (l27 : K.lookup f27 = some ⟨oc27, od27, .func (PySem.W.fnOf "read_whole" "read_whole" (defArgs s_read_whole) (defBody s_read_whole) (defScope s_read_whole) .none kV27 dc27 pm27 an27 cd27 ct27), sl27⟩) (c27 : PySem.W.codeIn K cd27 "read_whole" = true) (k27 : PySem.W.keepIn K (.ref f27) = true)
    {od28 an28 : Option Addr} {sl28 : Array (Option Value)} {oc28 kV28 dc28 pm28 cd28 ct28 : Value}
    (a28 : PySem.W.findIn K (.ref cReader) "refuse_number" = some (some (.ref f28))) (fn28 : PySem.W.isFn K (.ref f28) = true)
    (l28 : K.lookup f28 = some ⟨oc28, od28, .func (PySem.W.fnOf "refuse_number" "Reader.refuse_number" (defArgs s_Reader_refuse_number) (defBody s_Reader_refuse_number) (defScope s_Reader_refuse_number) .none kV28 dc28 pm28 an28 cd28 ct28), sl28⟩) (c28 : PySem.W.codeIn K cd28 "Reader.refuse_number" = true) (k28 : PySem.W.keepIn K (.ref f28) = true)
    {od29 an29 : Option Addr} {sl29 : Array (Option Value)} {oc29 kV29 dc29 pm29 cd29 ct29 : Value}
    (a29 : PySem.W.findIn K (.ref cReader) "number" = some (some (.ref f29))) (fn29 : PySem.W.isFn K (.ref f29) = true)
    (l29 : K.lookup f29 = some ⟨oc29, od29, .func (PySem.W.fnOf "number" "Reader.number" (defArgs s_Reader_number) (defBody s_Reader_number) (defScope s_Reader_number) .none kV29 dc29 pm29 an29 cd29 ct29), sl29⟩) (c29 : PySem.W.codeIn K cd29 "Reader.number" = true) (k29 : PySem.W.keepIn K (.ref f29) = true)
    {od30 an30 : Option Addr} {sl30 : Array (Option Value)} {oc30 kV30 dc30 pm30 cd30 ct30 : Value}
    (a30 : PySem.W.findIn K (.ref cReader) "sees" = some (some (.ref f30))) (fn30 : PySem.W.isFn K (.ref f30) = true)
    (l30 : K.lookup f30 = some ⟨oc30, od30, .func (PySem.W.fnOf "sees" "Reader.sees" (defArgs s_Reader_sees) (defBody s_Reader_sees) (defScope s_Reader_sees) .none kV30 dc30 pm30 an30 cd30 ct30), sl30⟩) (c30 : PySem.W.codeIn K cd30 "Reader.sees" = true) (k30 : PySem.W.keepIn K (.ref f30) = true)
    {od31 an31 : Option Addr} {sl31 : Array (Option Value)} {oc31 kV31 dc31 pm31 cd31 ct31 : Value}
    (a31 : PySem.W.findIn K (.ref cReader) "one_of" = some (some (.ref f31))) (fn31 : PySem.W.isFn K (.ref f31) = true)
    (l31 : K.lookup f31 = some ⟨oc31, od31, .func (PySem.W.fnOf "one_of" "Reader.one_of" (defArgs s_Reader_one_of) (defBody s_Reader_one_of) (defScope s_Reader_one_of) .none kV31 dc31 pm31 an31 cd31 ct31), sl31⟩) (c31 : PySem.W.codeIn K cd31 "Reader.one_of" = true) (k31 : PySem.W.keepIn K (.ref f31) = true)
    {od32 an32 : Option Addr} {sl32 : Array (Option Value)} {oc32 kV32 dc32 pm32 cd32 ct32 : Value}
    (a32 : PySem.W.findIn K (.ref cReader) "sees_word" = some (some (.ref f32))) (fn32 : PySem.W.isFn K (.ref f32) = true)
    (l32 : K.lookup f32 = some ⟨oc32, od32, .func (PySem.W.fnOf "sees_word" "Reader.sees_word" (defArgs s_Reader_sees_word) (defBody s_Reader_sees_word) (defScope s_Reader_sees_word) .none kV32 dc32 pm32 an32 cd32 ct32), sl32⟩) (c32 : PySem.W.codeIn K cd32 "Reader.sees_word" = true) (k32 : PySem.W.keepIn K (.ref f32) = true)
    {od33 an33 : Option Addr} {sl33 : Array (Option Value)} {oc33 kV33 dc33 pm33 cd33 ct33 : Value}
    (a33 : PySem.W.findIn K (.ref cReader) "word" = some (some (.ref f33))) (fn33 : PySem.W.isFn K (.ref f33) = true)
    (l33 : K.lookup f33 = some ⟨oc33, od33, .func (PySem.W.fnOf "word" "Reader.word" (defArgs s_Reader_word) (defBody s_Reader_word) (defScope s_Reader_word) .none kV33 dc33 pm33 an33 cd33 ct33), sl33⟩) (c33 : PySem.W.codeIn K cd33 "Reader.word" = true) (k33 : PySem.W.keepIn K (.ref f33) = true)
    {od34 an34 : Option Addr} {sl34 : Array (Option Value)} {oc34 kV34 dc34 pm34 cd34 ct34 : Value}
    (a34 : PySem.W.nsIn K mainGlobals "days_in" = some (some (.ref f34)))
    (l34 : K.lookup f34 = some ⟨oc34, od34, .func (PySem.W.fnOf "days_in" "days_in" (defArgs s_days_in) (defBody s_days_in) (defScope s_days_in) .none kV34 dc34 pm34 an34 cd34 ct34), sl34⟩) (c34 : PySem.W.codeIn K cd34 "days_in" = true) (k34 : PySem.W.keepIn K (.ref f34) = true)
    {od35 an35 : Option Addr} {sl35 : Array (Option Value)} {oc35 kV35 dc35 pm35 cd35 ct35 : Value}
    (a35 : PySem.W.nsIn K mainGlobals "read_day" = some (some (.ref f35)))
    (l35 : K.lookup f35 = some ⟨oc35, od35, .func (PySem.W.fnOf "read_day" "read_day" (defArgs s_read_day) (defBody s_read_day) (defScope s_read_day) .none kV35 dc35 pm35 an35 cd35 ct35), sl35⟩) (c35 : PySem.W.codeIn K cd35 "read_day" = true) (k35 : PySem.W.keepIn K (.ref f35) = true)
    {od36 an36 : Option Addr} {sl36 : Array (Option Value)} {oc36 kV36 dc36 pm36 cd36 ct36 : Value}
    (a36 : PySem.W.nsIn K mainGlobals "read_clock" = some (some (.ref f36)))
    (l36 : K.lookup f36 = some ⟨oc36, od36, .func (PySem.W.fnOf "read_clock" "read_clock" (defArgs s_read_clock) (defBody s_read_clock) (defScope s_read_clock) .none kV36 dc36 pm36 an36 cd36 ct36), sl36⟩) (c36 : PySem.W.codeIn K cd36 "read_clock" = true) (k36 : PySem.W.keepIn K (.ref f36) = true)
    {od37 an37 : Option Addr} {sl37 : Array (Option Value)} {oc37 kV37 dc37 pm37 cd37 ct37 : Value}
    (a37 : PySem.W.nsIn K mainGlobals "read_ahead" = some (some (.ref f37)))
    (l37 : K.lookup f37 = some ⟨oc37, od37, .func (PySem.W.fnOf "read_ahead" "read_ahead" (defArgs s_read_ahead) (defBody s_read_ahead) (defScope s_read_ahead) .none kV37 dc37 pm37 an37 cd37 ct37), sl37⟩) (c37 : PySem.W.codeIn K cd37 "read_ahead" = true) (k37 : PySem.W.keepIn K (.ref f37) = true)
    {od38 an38 : Option Addr} {sl38 : Array (Option Value)} {oc38 kV38 dc38 pm38 cd38 ct38 : Value}
    (a38 : PySem.W.nsIn K mainGlobals "read_minute" = some (some (.ref f38)))
    (l38 : K.lookup f38 = some ⟨oc38, od38, .func (PySem.W.fnOf "read_minute" "read_minute" (defArgs s_read_minute) (defBody s_read_minute) (defScope s_read_minute) .none kV38 dc38 pm38 an38 cd38 ct38), sl38⟩) (c38 : PySem.W.codeIn K cd38 "read_minute" = true) (k38 : PySem.W.keepIn K (.ref f38) = true)
    {od39 an39 : Option Addr} {sl39 : Array (Option Value)} {oc39 kV39 dc39 pm39 cd39 ct39 : Value}
    (a39 : PySem.W.nsIn K mainGlobals "read_facts" = some (some (.ref f39)))
    (l39 : K.lookup f39 = some ⟨oc39, od39, .func (PySem.W.fnOf "read_facts" "read_facts" (defArgs s_read_facts) (defBody s_read_facts) (defScope s_read_facts) .none kV39 dc39 pm39 an39 cd39 ct39), sl39⟩) (c39 : PySem.W.codeIn K cd39 "read_facts" = true) (k39 : PySem.W.keepIn K (.ref f39) = true)
    {od40 an40 : Option Addr} {sl40 : Array (Option Value)} {oc40 kV40 dc40 pm40 cd40 ct40 : Value}
    (a40 : PySem.W.nsIn K mainGlobals "read_deeds" = some (some (.ref f40)))
    (l40 : K.lookup f40 = some ⟨oc40, od40, .func (PySem.W.fnOf "read_deeds" "read_deeds" (defArgs s_read_deeds) (defBody s_read_deeds) (defScope s_read_deeds) .none kV40 dc40 pm40 an40 cd40 ct40), sl40⟩) (c40 : PySem.W.codeIn K cd40 "read_deeds" = true) (k40 : PySem.W.keepIn K (.ref f40) = true)
    {od41 an41 : Option Addr} {sl41 : Array (Option Value)} {oc41 kV41 dc41 pm41 cd41 ct41 : Value}
    (a41 : PySem.W.nsIn K mainGlobals "read_rule" = some (some (.ref f41)))
    (l41 : K.lookup f41 = some ⟨oc41, od41, .func (PySem.W.fnOf "read_rule" "read_rule" (defArgs s_read_rule) (defBody s_read_rule) (defScope s_read_rule) .none kV41 dc41 pm41 an41 cd41 ct41), sl41⟩) (c41 : PySem.W.codeIn K cd41 "read_rule" = true) (k41 : PySem.W.keepIn K (.ref f41) = true)
    {od42 an42 : Option Addr} {sl42 : Array (Option Value)} {oc42 kV42 dc42 pm42 cd42 ct42 : Value}
    (a42 : PySem.W.nsIn K mainGlobals "rules_of" = some (some (.ref f42)))
    (l42 : K.lookup f42 = some ⟨oc42, od42, .func (PySem.W.fnOf "rules_of" "rules_of" (defArgs s_rules_of) (defBody s_rules_of) (defScope s_rules_of) .none kV42 dc42 pm42 an42 cd42 ct42), sl42⟩) (c42 : PySem.W.codeIn K cd42 "rules_of" = true) (k42 : PySem.W.keepIn K (.ref f42) = true)
    {od43 an43 : Option Addr} {sl43 : Array (Option Value)} {oc43 kV43 dc43 pm43 cd43 ct43 : Value}
    (a43 : PySem.W.nsIn K mainGlobals "rules_text" = some (some (.ref f43)))
    (l43 : K.lookup f43 = some ⟨oc43, od43, .func (PySem.W.fnOf "rules_text" "rules_text" (defArgs s_rules_text) (defBody s_rules_text) (defScope s_rules_text) .none kV43 dc43 pm43 an43 cd43 ct43), sl43⟩) (c43 : PySem.W.codeIn K cd43 "rules_text" = true) (k43 : PySem.W.keepIn K (.ref f43) = true)
    {od44 an44 : Option Addr} {sl44 : Array (Option Value)} {oc44 kV44 dc44 pm44 cd44 ct44 : Value}
    (a44 : PySem.W.nsIn K mainGlobals "law" = some (some (.ref f44)))
    (l44 : K.lookup f44 = some ⟨oc44, od44, .func (PySem.W.fnOf "law" "law" (defArgs s_law) (defBody s_law) (defScope s_law) .none kV44 dc44 pm44 an44 cd44 ct44), sl44⟩) (c44 : PySem.W.codeIn K cd44 "law" = true) (k44 : PySem.W.keepIn K (.ref f44) = true)
    (z0 : PySem.W.nsIn K mainGlobals "abs" = some none)
    (z1 : PySem.W.nsIn K mainGlobals "bool" = some none)
    (z2 : PySem.W.nsIn K mainGlobals "divmod" = some none)
    (z3 : PySem.W.nsIn K mainGlobals "enumerate" = some none)
    (z4 : PySem.W.nsIn K mainGlobals "int" = some none)
    (z5 : PySem.W.nsIn K mainGlobals "isinstance" = some none)
    (z6 : PySem.W.nsIn K mainGlobals "len" = some none)
    (z7 : PySem.W.nsIn K mainGlobals "max" = some none)
    (z8 : PySem.W.nsIn K mainGlobals "range" = some none)
    (z9 : PySem.W.nsIn K mainGlobals "str" = some none)
    (z10 : PySem.W.nsIn K mainGlobals "list" = some none)
    (z11 : PySem.W.nsIn K mainGlobals "tuple" = some none)
    (z12 : PySem.W.nsIn K mainGlobals "min" = some none)
    (z13 : PySem.W.nsIn K mainGlobals "sum" = some none)
    (v0 : PySem.W.nsIn K mainGlobals "FIGURES" = some (some (.str FIGS t1)))
    (v1 : PySem.W.nsIn K mainGlobals "LAST_YEAR" = some (some (.int 9999 t2)))
    (v2 : PySem.W.nsIn K mainGlobals "DAY_MINUTES" = some (some (.int 1440 t3)))
    (v3 : PySem.W.nsIn K mainGlobals "MOST_HOURS" = some (some (.int 14 t4)))
    (v4 : PySem.W.nsIn K mainGlobals "LOCAL_SIGNS" = some (some (.str LOCALT t5)))
    (v5 : PySem.W.nsIn K mainGlobals "LOCAL_MOST" = some (some (.int 20 t6)))
    (v6 : PySem.W.nsIn K mainGlobals "HOUSE_SIGNS" = some (some (.str HOUSET t7)))
    (v7 : PySem.W.nsIn K mainGlobals "HOUSE_MOST" = some (some (.int 10 t8)))
    (v8 : PySem.W.nsIn K mainGlobals "HOUSE_WORDS" = some (some (.int 3 t9)))
    (v9 : PySem.W.nsIn K mainGlobals "SMALL" = some (some (.str SMALLT t10)))
    (v10 : PySem.W.nsIn K mainGlobals "NAME_LETTERS" = some (some (.int 12 t11)))
    (v11 : PySem.W.nsIn K mainGlobals "MOST_NOTS" = some (some (.int 4 t12)))
    (v12 : PySem.W.nsIn K mainGlobals "MOST_BRACKETS" = some (some (.int 4 t13))) :
    ∃ fd : FuncData, (∀ (s : Shared) (v : Value), BindsTo s fd ⟨[v], []⟩ [("_law_script", v)]) ∧ ∀ base : Heap, K.In base → base.Ns mainGlobals mg → FnOk l.prog w K mg base CX0 24 fa fd ["_law_script"] (spLaw K) := by
  have e := hfa.symm.trans (PySem.W.mg_of X G a44)
  cases e
  have F0 := fun_mk (st := s__law_mixed) l0 c0 k0
  have b0 := F0.binds (ps := ["_law_cell", "_law_k"]) fun _ _ _ _ _ _ us hl => match us, hl with | [_, _], _ => rfl
  have F1 := fun_mk (st := s__law_total) l1 c1 k1
  have b1 := F1.binds (ps := ["_law_script", "_law_k"]) fun _ _ _ _ _ _ us hl => match us, hl with | [_, _], _ => rfl
  have F2 := fun_mk (st := s__law_text) l2 c2 k2
  have b2 := F2.binds (ps := ["_law_cell", "_law_k", "_law_signs_here", "_law_size"]) fun _ _ _ _ _ _ us hl => match us, hl with | [_, _, _, _], _ => rfl
  have F3 := fun_mk (st := s__law_small) l3 c3 k3
  have b3 := F3.binds (ps := []) fun _ _ _ _ _ _ us hl => match us, hl with | [], _ => rfl
  have F4 := fun_mk (st := s__law_names) l4 c4 k4
  have b4 := F4.binds (ps := ["_law_cell"]) fun _ _ _ _ _ _ us hl => match us, hl with | [_], _ => rfl
  have F5 := fun_mk (st := s__law_addresses) l5 c5 k5
  have b5 := F5.binds (ps := ["_law_cell"]) fun _ _ _ _ _ _ us hl => match us, hl with | [_], _ => rfl
  have F6 := fun_mk (st := s__law_world) l6 c6 k6
  have b6 := F6.binds (ps := ["_law_script"]) fun _ _ _ _ _ _ us hl => match us, hl with | [_], _ => rfl
  have F7 := fun_mk (st := s_is_number) l7 c7 k7
  have b7 := F7.binds (ps := ["thing"]) fun _ _ _ _ _ _ us hl => match us, hl with | [_], _ => rfl
  have F8 := fun_mk (st := s_has_leap_day) l8 c8 k8
  have b8 := F8.binds (ps := ["year"]) fun _ _ _ _ _ _ us hl => match us, hl with | [_], _ => rfl
  have F9 := fun_mk (st := s_days_ahead) l9 c9 k9
  have b9 := F9.binds (ps := ["year", "month"]) fun _ _ _ _ _ _ us hl => match us, hl with | [_, _], _ => rfl
  have F10 := fun_mk (st := s_day_text) l10 c10 k10
  have b10 := F10.binds (ps := ["day"]) fun _ _ _ _ _ _ us hl => match us, hl with | [_], _ => rfl
  have F11 := fun_mk (st := s_day_name) l11 c11 k11
  have b11 := F11.binds (ps := ["day"]) fun _ _ _ _ _ _ us hl => match us, hl with | [_], _ => rfl
  have F12 := fun_mk (st := s_clock_text) l12 c12 k12
  have b12 := F12.binds (ps := ["clock"]) fun _ _ _ _ _ _ us hl => match us, hl with | [_], _ => rfl
  have F13 := fun_mk (st := s_ahead_text) l13 c13 k13
  have b13 := F13.binds (ps := ["ahead"]) fun _ _ _ _ _ _ us hl => match us, hl with | [_], _ => rfl
  have F14 := fun_mk (st := s_time_text) l14 c14 k14
  have b14 := F14.binds (ps := ["minute", "ahead"]) fun _ _ _ _ _ _ us hl => match us, hl with | [_, _], _ => rfl
  have F15 := fun_mk (st := s__law_plain_fact) l15 c15 k15
  have b15 := F15.binds (ps := ["_law_world_here", "_law_cell"]) fun _ _ _ _ _ _ us hl => match us, hl with | [_, _], _ => rfl
  have F16 := fun_mk (st := s__law_facts) l16 c16 k16
  have b16 := F16.binds (ps := ["_law_world_here", "_law_cell", "_law_deep"]) fun _ _ _ _ _ _ us hl => match us, hl with | [_, _, _], _ => rfl
  have F17 := fun_mk (st := s__law_deeds) l17 c17 k17
  have b17 := F17.binds (ps := ["_law_world_here", "_law_cell"]) fun _ _ _ _ _ _ us hl => match us, hl with | [_, _], _ => rfl
  have F18 := fun_mk (st := s__law_rule) l18 c18 k18
  have b18 := F18.binds (ps := ["_law_world_here", "_law_cell"]) fun _ _ _ _ _ _ us hl => match us, hl with | [_, _], _ => rfl
  have F19 := fun_mk (st := s_read_fact) l19 c19 k19
  have b19 := F19.binds (ps := ["words", "at", "brackets"]) fun _ _ _ _ _ _ us hl => match us, hl with | [_, _, _], _ => rfl
  have F20 := fun_mk (st := s_read_plain_fact) l20 c20 k20
  have b20 := F20.binds (ps := ["words", "at", "brackets"]) fun _ _ _ _ _ _ us hl => match us, hl with | [_, _, _], _ => rfl
  have F21 := fun_mk (st := s_is_small_word) l21 c21 k21
  have b21 := F21.binds (ps := ["text", "most"]) fun _ _ _ _ _ _ us hl => match us, hl with | [_, _], _ => rfl
  have F22 := fun_mk (st := s_is_name) l22 c22 k22
  have b22 := F22.binds (ps := ["thing"]) fun _ _ _ _ _ _ us hl => match us, hl with | [_], _ => rfl
  have F23 := fun_mk (st := s_is_run) l23 c23 k23
  have b23 := F23.binds (ps := ["text", "signs", "most"]) fun _ _ _ _ _ _ us hl => match us, hl with | [_, _, _], _ => rfl
  have F24 := fun_mk (st := s_is_address) l24 c24 k24
  have b24 := F24.binds (ps := ["text"]) fun _ _ _ _ _ _ us hl => match us, hl with | [_], _ => rfl
  have F25 := fun_mk (st := s_Reader___init__) l25 c25 k25
  have b25 := F25.binds (ps := ["self", "signs"]) fun _ _ _ _ _ _ us hl => match us, hl with | [_, _], _ => rfl
  have F26 := fun_mk (st := s_Reader_end) l26 c26 k26
  have b26 := F26.binds (ps := ["self"]) fun _ _ _ _ _ _ us hl => match us, hl with | [_], _ => rfl
  have F27 := fun_mk (st := s_read_whole) l27 c27 k27
  have b27 := F27.binds (ps := ["read", "words", "at"]) fun _ _ _ _ _ _ us hl => match us, hl with | [_, _, _], _ => rfl
  have F28 := fun_mk (st := s_Reader_refuse_number) l28 c28 k28
  have b28 := F28.binds (ps := ["self", "low", "high"]) fun _ _ _ _ _ _ us hl => match us, hl with | [_, _, _], _ => rfl
  have F29 := fun_mk (st := s_Reader_number) l29 c29 k29
  have b29 := F29.binds (ps := ["self", "low", "high"]) fun _ _ _ _ _ _ us hl => match us, hl with | [_, _, _], _ => rfl
  have F30 := fun_mk (st := s_Reader_sees) l30 c30 k30
  have b30 := F30.binds (ps := ["self", "choice"]) fun _ _ _ _ _ _ us hl => match us, hl with | [_, _], _ => rfl
  have F31 := fun_mk (st := s_Reader_one_of) l31 c31 k31
  have b31 := F31.binds (ps := ["self", "choice"]) fun _ _ _ _ _ _ us hl => match us, hl with | [_, _], _ => rfl
  have F32 := fun_mk (st := s_Reader_sees_word) l32 c32 k32
  have b32 := F32.binds (ps := ["self", "wanted"]) fun _ _ _ _ _ _ us hl => match us, hl with | [_, _], _ => rfl
  have F33 := fun_mk (st := s_Reader_word) l33 c33 k33
  have b33 := F33.binds (ps := ["self", "wanted"]) fun _ _ _ _ _ _ us hl => match us, hl with | [_, _], _ => rfl
  have F34 := fun_mk (st := s_days_in) l34 c34 k34
  have b34 := F34.binds (ps := ["year", "month"]) fun _ _ _ _ _ _ us hl => match us, hl with | [_, _], _ => rfl
  have F35 := fun_mk (st := s_read_day) l35 c35 k35
  have b35 := F35.binds (ps := ["reader"]) fun _ _ _ _ _ _ us hl => match us, hl with | [_], _ => rfl
  have F36 := fun_mk (st := s_read_clock) l36 c36 k36
  have b36 := F36.binds (ps := ["reader"]) fun _ _ _ _ _ _ us hl => match us, hl with | [_], _ => rfl
  have F37 := fun_mk (st := s_read_ahead) l37 c37 k37
  have b37 := F37.binds (ps := ["reader"]) fun _ _ _ _ _ _ us hl => match us, hl with | [_], _ => rfl
  have F38 := fun_mk (st := s_read_minute) l38 c38 k38
  have b38 := F38.binds (ps := ["words", "at"]) fun _ _ _ _ _ _ us hl => match us, hl with | [_, _], _ => rfl
  have F39 := fun_mk (st := s_read_facts) l39 c39 k39
  have b39 := F39.binds (ps := ["words", "at", "brackets"]) fun _ _ _ _ _ _ us hl => match us, hl with | [_, _, _], _ => rfl
  have F40 := fun_mk (st := s_read_deeds) l40 c40 k40
  have b40 := F40.binds (ps := ["words", "at"]) fun _ _ _ _ _ _ us hl => match us, hl with | [_, _], _ => rfl
  have F41 := fun_mk (st := s_read_rule) l41 c41 k41
  have b41 := F41.binds (ps := ["row"]) fun _ _ _ _ _ _ us hl => match us, hl with | [_], _ => rfl
  have F42 := fun_mk (st := s_rules_of) l42 c42 k42
  have b42 := F42.binds (ps := ["text"]) fun _ _ _ _ _ _ us hl => match us, hl with | [_], _ => rfl
  have F43 := fun_mk (st := s_rules_text) l43 c43 k43
  have b43 := F43.binds (ps := ["rules"]) fun _ _ _ _ _ _ us hl => match us, hl with | [_], _ => rfl
  have F44 := fun_mk (st := s_law) l44 c44 k44
  have T : Tx K mg (fun i => [t1, t2, t3, t4, t5, t6, t7, t8, t9, t10, t11, t12, t13].getD i t1) dn md := ⟨PySem.W.mg_none_of X G z0, PySem.W.mg_none_of X G z1, PySem.W.mg_none_of X G z2, PySem.W.mg_none_of X G z3, PySem.W.mg_none_of X G z4, PySem.W.mg_none_of X G z5, PySem.W.mg_none_of X G z6, PySem.W.mg_none_of X G z7, PySem.W.mg_none_of X G z8, PySem.W.mg_none_of X G z9, PySem.W.mg_none_of X G z10, PySem.W.mg_none_of X G z11, PySem.W.mg_none_of X G z12, PySem.W.mg_none_of X G z13, PySem.W.mg_of X G v0, PySem.W.mg_of X G v1, PySem.W.mg_of X G v2, PySem.W.mg_of X G v3, PySem.W.mg_of X G v4, PySem.W.mg_of X G v5, PySem.W.mg_of X G v6, PySem.W.mg_of X G v7, PySem.W.mg_of X G v8, PySem.W.mg_of X G v9, PySem.W.mg_of X G v10, PySem.W.mg_of X G v11, PySem.W.mg_of X G v12, PySem.W.mg_of X G vdn, PySem.W.mg_of X G vmd, fun H => .inr ⟨_, _, _, ldn, rfl, rfl, by show 7 ≤ _; rw [sizeLine_eq]; decide, .cons ⟨_, rfl⟩ (.cons ⟨_, rfl⟩ (.cons ⟨_, rfl⟩ (.cons ⟨_, rfl⟩ (.cons ⟨_, rfl⟩ (.cons ⟨_, rfl⟩ (.cons ⟨_, rfl⟩ (.nil)))))))⟩, fun H => .inr ⟨_, _, _, lmd, rfl, rfl, by show 12 ≤ _; rw [sizeLine_eq]; decide, .cons ⟨_, rfl⟩ (.cons ⟨_, rfl⟩ (.cons ⟨_, rfl⟩ (.cons ⟨_, rfl⟩ (.cons ⟨_, rfl⟩ (.cons ⟨_, rfl⟩ (.cons ⟨_, rfl⟩ (.cons ⟨_, rfl⟩ (.cons ⟨_, rfl⟩ (.cons ⟨_, rfl⟩ (.cons ⟨_, rfl⟩ (.cons ⟨_, rfl⟩ (.nil))))))))))))⟩⟩
  have Y : Ty K mg nd1 pd al := ⟨PySem.W.mg_of X G vnd1, PySem.W.mg_of X G vpd, PySem.W.mg_of X G val, fun H => .inr ⟨_, _, _, lnd1, rfl, rfl, by show 4 ≤ _; rw [sizeLine_eq]; decide, .cons ⟨_, rfl⟩ (.cons ⟨_, rfl⟩ (.cons ⟨_, rfl⟩ (.cons ⟨_, rfl⟩ (.nil))))⟩, fun H => .inr ⟨_, _, _, lpd, rfl, rfl, by show 2 ≤ _; rw [sizeLine_eq]; decide, .cons ⟨_, rfl⟩ (.cons ⟨_, rfl⟩ (.nil))⟩⟩
  have KReader : Cls K cReader := ⟨pgReader, hdReader, poReader, saReader⟩
  have RReader : Rc K cReader := ⟨KReader, naReader0, naReader1⟩
  refine ⟨PySem.W.fnOf "law" "law" (defArgs s_law) (defBody s_law) (defScope s_law) .none kV44 dc44 pm44 an44 cd44 ct44, fun s v => .of_eq rfl, fun base _ _ => ?_⟩
  have D0 : Def l.prog w K mg base "_law_mixed" 1 f0 _ ["_law_cell", "_law_k"] sp_mixed := ⟨ok_mixed F0, PySem.W.mg_of X G a0, F0.kp, b0⟩
  have D1 : Def l.prog w K mg base "_law_total" 2 f1 _ ["_law_script", "_law_k"] (sp_total K) := ⟨ok_total F1 T D0, PySem.W.mg_of X G a1, F1.kp, b1⟩
  have D2 : Def l.prog w K mg base "_law_text" 2 f2 _ ["_law_cell", "_law_k", "_law_signs_here", "_law_size"] sp_ltext := ⟨ok_ltext F2 T D0, PySem.W.mg_of X G a2, F2.kp, b2⟩
  have D3 : Def l.prog w K mg base "_law_small" 1 f3 _ [] sp_small := ⟨ok_small F3, PySem.W.mg_of X G a3, F3.kp, b3⟩
  have D4 : Def l.prog w K mg base "_law_names" 3 f4 _ ["_law_cell"] sp_names := ⟨ok_names F4 T D2 D3, PySem.W.mg_of X G a4, F4.kp, b4⟩
  have D5 : Def l.prog w K mg base "_law_addresses" 3 f5 _ ["_law_cell"] sp_addrs := ⟨ok_addrs F5 T D2 D3, PySem.W.mg_of X G a5, F5.kp, b5⟩
  have D6 : Def l.prog w K mg base "_law_world" 4 f6 _ ["_law_script"] (sp_world K) := ⟨ok_world F6 T D1 D4 D5, PySem.W.mg_of X G a6, F6.kp, b6⟩
  have D7 : Def l.prog w K mg base "is_number" 1 f7 _ ["thing"] sp_isnum := ⟨ok_isnum F7 T, PySem.W.mg_of X G a7, F7.kp, b7⟩
  have D8 : Def l.prog w K mg base "has_leap_day" 1 f8 _ ["year"] sp_leap := ⟨ok_leap F8, PySem.W.mg_of X G a8, F8.kp, b8⟩
  have D9 : Def l.prog w K mg base "days_ahead" 3 f9 _ ["year", "month"] sp_daysA := ⟨ok_daysA F9 T D8, PySem.W.mg_of X G a9, F9.kp, b9⟩
  have D10 : Def l.prog w K mg base "day_text" 4 f10 _ ["day"] sp_daytext := ⟨ok_daytext F10 T D9, PySem.W.mg_of X G a10, F10.kp, b10⟩
  have D11 : Def l.prog w K mg base "day_name" 1 f11 _ ["day"] sp_dayname := ⟨ok_dayname F11 T, PySem.W.mg_of X G a11, F11.kp, b11⟩
  have D12 : Def l.prog w K mg base "clock_text" 1 f12 _ ["clock"] sp_clock := ⟨ok_clock F12 T, PySem.W.mg_of X G a12, F12.kp, b12⟩
  have D13 : Def l.prog w K mg base "ahead_text" 1 f13 _ ["ahead"] sp_ahead := ⟨ok_ahead F13 T, PySem.W.mg_of X G a13, F13.kp, b13⟩
  have D14 : Def l.prog w K mg base "time_text" 5 f14 _ ["minute", "ahead"] sp_ttext := ⟨ok_ttext F14 T D7 D9 D10 D11 D12 D13, PySem.W.mg_of X G a14, F14.kp, b14⟩
  have D15 : Def l.prog w K mg base "_law_plain_fact" 6 f15 _ ["_law_world_here", "_law_cell"] sp_lplain := ⟨ok_lplain F15 T D0 D14, PySem.W.mg_of X G a15, F15.kp, b15⟩
  have D16 : Def l.prog w K mg base "_law_facts" 11 f16 _ ["_law_world_here", "_law_cell", "_law_deep"] (fun vs H Q E => ∃ d : Nat, d ≤ 4 ∧ sp_lfacts d vs H Q E) := ⟨ok_lrfacts F16 T D0 D15 ⟨fn_never, PySem.W.mg_of X G a16, F16.kp, b16⟩, PySem.W.mg_of X G a16, F16.kp, b16⟩
  have D17 : Def l.prog w K mg base "_law_deeds" 2 f17 _ ["_law_world_here", "_law_cell"] sp_ldeeds := ⟨ok_ldeeds F17 T D0, PySem.W.mg_of X G a17, F17.kp, b17⟩
  have D18 : Def l.prog w K mg base "_law_rule" 12 f18 _ ["_law_world_here", "_law_cell"] sp_lrule := ⟨ok_lrule F18 T D0 D16 D17, PySem.W.mg_of X G a18, F18.kp, b18⟩
  have D19 : Def l.prog w K mg base "read_fact" 1 f19 _ ["words", "at", "brackets"] sp_never := ⟨ok_nfact F19, PySem.W.mg_of X G a19, F19.kp, b19⟩
  have D20 : Def l.prog w K mg base "read_plain_fact" 1 f20 _ ["words", "at", "brackets"] sp_never := ⟨ok_nplain F20, PySem.W.mg_of X G a20, F20.kp, b20⟩
  have D21 : Def l.prog w K mg base "is_small_word" 1 f21 _ ["text", "most"] sp_smallw := ⟨ok_smallw F21 T, PySem.W.mg_of X G a21, F21.kp, b21⟩
  have D22 : Def l.prog w K mg base "is_name" 2 f22 _ ["thing"] sp_isname := ⟨ok_isname F22 T D21, PySem.W.mg_of X G a22, F22.kp, b22⟩
  have D23 : Def l.prog w K mg base "is_run" 1 f23 _ ["text", "signs", "most"] sp_run := ⟨ok_run F23 T, PySem.W.mg_of X G a23, F23.kp, b23⟩
  have D24 : Def l.prog w K mg base "is_address" 2 f24 _ ["text"] sp_isaddr := ⟨ok_isaddr F24 T D23, PySem.W.mg_of X G a24, F24.kp, b24⟩
  have D25 : DefC l.prog w K mg base "Reader" cReader 1 f25 _ ["self", "signs"] (sp_init cReader) := ⟨⟨mkReader, a25, fn25, kpReader⟩, ok_init F25 RReader, PySem.W.mg_of X G mReader, b25⟩
  have D26 : DefM l.prog w K mg base cReader "end" 1 f26 _ ["self"] (sp_end cReader) := ⟨KReader, ⟨a26, fn26, k26⟩, ok_end F26 T RReader, b26⟩
  have D27 : Def l.prog w K mg base "read_whole" 5 f27 _ ["read", "words", "at"] (sp_whole l.prog w K mg base cReader 4) := ⟨ok_whole F27 RReader D25 D26, PySem.W.mg_of X G a27, F27.kp, b27⟩
  have D28 : DefM l.prog w K mg base cReader "refuse_number" 1 f28 _ ["self", "low", "high"] sp_never := ⟨KReader, ⟨a28, fn28, k28⟩, ok_refuse F28, b28⟩
  have D29 : DefM l.prog w K mg base cReader "number" 3 f29 _ ["self", "low", "high"] (sp_number K cReader) := ⟨KReader, ⟨a29, fn29, k29⟩, ok_number F29 T RReader D28, b29⟩
  have D30 : DefM l.prog w K mg base cReader "sees" 1 f30 _ ["self", "choice"] (sp_sees K cReader) := ⟨KReader, ⟨a30, fn30, k30⟩, ok_sees F30 T RReader, b30⟩
  have D31 : DefM l.prog w K mg base cReader "one_of" 2 f31 _ ["self", "choice"] (sp_one K cReader) := ⟨KReader, ⟨a31, fn31, k31⟩, ok_one F31 T RReader D30, b31⟩
  have D32 : DefM l.prog w K mg base cReader "sees_word" 1 f32 _ ["self", "wanted"] (sp_seesword cReader) := ⟨KReader, ⟨a32, fn32, k32⟩, ok_seesword F32 T RReader, b32⟩
  have D33 : DefM l.prog w K mg base cReader "word" 3 f33 _ ["self", "wanted"] (sp_word K cReader) := ⟨KReader, ⟨a33, fn33, k33⟩, ok_word F33 T RReader D31 D32, b33⟩
  have D34 : Def l.prog w K mg base "days_in" 2 f34 _ ["year", "month"] sp_daysin := ⟨ok_daysin F34 T D8, PySem.W.mg_of X G a34, F34.kp, b34⟩
  have D35 : Def l.prog w K mg base "read_day" 4 f35 _ ["reader"] (sp_readday cReader) := ⟨ok_readday F35 T D29 D33 D34 D9, PySem.W.mg_of X G a35, F35.kp, b35⟩
  have D36 : Def l.prog w K mg base "read_clock" 4 f36 _ ["reader"] (sp_readclock cReader) := ⟨ok_readclock F36 D29 D33, PySem.W.mg_of X G a36, F36.kp, b36⟩
  have D37 : Def l.prog w K mg base "read_ahead" 4 f37 _ ["reader"] (sp_readahead cReader) := ⟨ok_readahead F37 T D29 D31, PySem.W.mg_of X G a37, F37.kp, b37⟩
  have D38 : Def l.prog w K mg base "read_minute" 6 f38 _ ["words", "at"] sp_minute := ⟨ok_minute F38 T D27 D35 D36 D37 D11, PySem.W.mg_of X G a38, F38.kp, b38⟩
  have D39 : Def l.prog w K mg base "read_facts" 21 f39 _ ["words", "at", "brackets"] (sp_factsF (FactsD 5) 0) := ⟨ok_rfacts F39 F19 F20 T Y ⟨fn_never, PySem.W.mg_of X G a39, F39.kp, b39⟩ ⟨fn_never, PySem.W.mg_of X G a19, F19.kp, b19⟩ ⟨fn_never, PySem.W.mg_of X G a20, F20.kp, b20⟩ D22 D24 D38, PySem.W.mg_of X G a39, F39.kp, b39⟩
  have D40 : Def l.prog w K mg base "read_deeds" 3 f40 _ ["words", "at"] sp_deeds := ⟨ok_deeds F40 T Y D22, PySem.W.mg_of X G a40, F40.kp, b40⟩
  have D41 : Def l.prog w K mg base "read_rule" 22 f41 _ ["row"] sp_rule := ⟨ok_rule F41 T D39 D40, PySem.W.mg_of X G a41, F41.kp, b41⟩
  have D42 : Def l.prog w K mg base "rules_of" 23 f42 _ ["text"] sp_rules := ⟨ok_rules F42 T D41, PySem.W.mg_of X G a42, F42.kp, b42⟩
  have D43 : Def l.prog w K mg base "rules_text" 1 f43 _ ["rules"] sp_rtext := ⟨ok_rtext F43, PySem.W.mg_of X G a43, F43.kp, b43⟩
  exact ok_law F44 T D6 D18 D0 D42 D43
end K31
open PySem PySem.W PyProof.Rows
set_option maxHeartbeats 0 in
theorem PySem.Challenge.cw_letterhouse_k31_rules_read_holds : PySem.Challenge.rw_letterhouse_k31_rules_read.Holds := by
  w_on; o_law; k_head; (case hw => w_witness2)
  k_fill
  refine L2.walk_of (l := PySem.Challenge.rw_letterhouse_k31_rules_read) (n := 63) (k := 24) (x := "_law_script") (CX := fun _ => L2.CX0) (sp := fun w => K31.spLaw _) rfl (by decide) rfl ⟨rfl, by decide, by decide⟩ (fun w h Y => PySem.W.kIn_of Y) ?F (fun _ _ a ns hl _ hS => ⟨a, ns, rfl, hS, hl, fun _ => rfl⟩) (fun _ _ _ _ _ h => h)
  case F =>
    intro w mg fa h KX G hmg
    refine' K31.all_mk KX G hmg ?mReader ?pgReader ?hdReader ?poReader ?saReader ?mkReader ?kpReader ?naReader0 ?naReader1 ?vdn ?ldn ?vmd ?lmd ?vnd1 ?lnd1 ?vpd ?lpd ?val ?a0 ?l0 ?c0 ?k0 ?a1 ?l1 ?c1 ?k1 ?a2 ?l2 ?c2 ?k2 ?a3 ?l3 ?c3 ?k3 ?a4 ?l4 ?c4 ?k4 ?a5 ?l5 ?c5 ?k5 ?a6 ?l6 ?c6 ?k6 ?a7 ?l7 ?c7 ?k7 ?a8 ?l8 ?c8 ?k8 ?a9 ?l9 ?c9 ?k9 ?a10 ?l10 ?c10 ?k10 ?a11 ?l11 ?c11 ?k11 ?a12 ?l12 ?c12 ?k12 ?a13 ?l13 ?c13 ?k13 ?a14 ?l14 ?c14 ?k14 ?a15 ?l15 ?c15 ?k15 ?a16 ?l16 ?c16 ?k16 ?a17 ?l17 ?c17 ?k17 ?a18 ?l18 ?c18 ?k18 ?a19 ?l19 ?c19 ?k19 ?a20 ?l20 ?c20 ?k20 ?a21 ?l21 ?c21 ?k21 ?a22 ?l22 ?c22 ?k22 ?a23 ?l23 ?c23 ?k23 ?a24 ?l24 ?c24 ?k24 ?a25 ?fn25 ?l25 ?c25 ?k25 ?a26 ?fn26 ?l26 ?c26 ?k26 ?a27 ?l27 ?c27 ?k27 ?a28 ?fn28 ?l28 ?c28 ?k28 ?a29 ?fn29 ?l29 ?c29 ?k29 ?a30 ?fn30 ?l30 ?c30 ?k30 ?a31 ?fn31 ?l31 ?c31 ?k31 ?a32 ?fn32 ?l32 ?c32 ?k32 ?a33 ?fn33 ?l33 ?c33 ?k33 ?a34 ?l34 ?c34 ?k34 ?a35 ?l35 ?c35 ?k35 ?a36 ?l36 ?c36 ?k36 ?a37 ?l37 ?c37 ?k37 ?a38 ?l38 ?c38 ?k38 ?a39 ?l39 ?c39 ?k39 ?a40 ?l40 ?c40 ?k40 ?a41 ?l41 ?c41 ?k41 ?a42 ?l42 ?c42 ?k42 ?a43 ?l43 ?c43 ?k43 ?a44 ?l44 ?c44 ?k44 ?z0 ?z1 ?z2 ?z3 ?z4 ?z5 ?z6 ?z7 ?z8 ?z9 ?z10 ?z11 ?z12 ?z13 ?v0 ?v1 ?v2 ?v3 ?v4 ?v5 ?v6 ?v7 ?v8 ?v9 ?v10 ?v11 ?v12
    (case mReader => k_is); (case pgReader => k_is); (case hdReader => k_is); (case poReader => k_is); (case saReader => k_is); (case mkReader => k_is); (case kpReader => k_is); (case naReader0 => k_is); (case naReader1 => k_is); (case vdn => k_is); (case ldn => k_is); (case vmd => k_is); (case lmd => k_is); (case vnd1 => k_is); (case lnd1 => k_is); (case vpd => k_is); (case lpd => k_is); (case val => k_is); (case a0 => k_is); (case l0 => k_is); (case c0 => k_is); (case k0 => k_is); (case a1 => k_is); (case l1 => k_is); (case c1 => k_is); (case k1 => k_is); (case a2 => k_is); (case l2 => k_is); (case c2 => k_is); (case k2 => k_is); (case a3 => k_is); (case l3 => k_is); (case c3 => k_is); (case k3 => k_is); (case a4 => k_is); (case l4 => k_is); (case c4 => k_is); (case k4 => k_is); (case a5 => k_is); (case l5 => k_is); (case c5 => k_is); (case k5 => k_is); (case a6 => k_is); (case l6 => k_is); (case c6 => k_is); (case k6 => k_is); (case a7 => k_is); (case l7 => k_is); (case c7 => k_is); (case k7 => k_is); (case a8 => k_is); (case l8 => k_is); (case c8 => k_is); (case k8 => k_is); (case a9 => k_is); (case l9 => k_is); (case c9 => k_is); (case k9 => k_is); (case a10 => k_is); (case l10 => k_is); (case c10 => k_is); (case k10 => k_is); (case a11 => k_is); (case l11 => k_is); (case c11 => k_is); (case k11 => k_is); (case a12 => k_is); (case l12 => k_is); (case c12 => k_is); (case k12 => k_is); (case a13 => k_is); (case l13 => k_is); (case c13 => k_is); (case k13 => k_is); (case a14 => k_is); (case l14 => k_is); (case c14 => k_is); (case k14 => k_is); (case a15 => k_is); (case l15 => k_is); (case c15 => k_is); (case k15 => k_is); (case a16 => k_is); (case l16 => k_is); (case c16 => k_is); (case k16 => k_is); (case a17 => k_is); (case l17 => k_is); (case c17 => k_is); (case k17 => k_is); (case a18 => k_is); (case l18 => k_is); (case c18 => k_is); (case k18 => k_is); (case a19 => k_is); (case l19 => k_is); (case c19 => k_is); (case k19 => k_is); (case a20 => k_is); (case l20 => k_is); (case c20 => k_is); (case k20 => k_is); (case a21 => k_is); (case l21 => k_is); (case c21 => k_is); (case k21 => k_is); (case a22 => k_is); (case l22 => k_is); (case c22 => k_is); (case k22 => k_is); (case a23 => k_is); (case l23 => k_is); (case c23 => k_is); (case k23 => k_is); (case a24 => k_is); (case l24 => k_is); (case c24 => k_is); (case k24 => k_is); (case a25 => k_is); (case fn25 => k_is); (case l25 => k_is); (case c25 => k_is); (case k25 => k_is); (case a26 => k_is); (case fn26 => k_is); (case l26 => k_is); (case c26 => k_is); (case k26 => k_is); (case a27 => k_is); (case l27 => k_is); (case c27 => k_is); (case k27 => k_is); (case a28 => k_is); (case fn28 => k_is); (case l28 => k_is); (case c28 => k_is); (case k28 => k_is); (case a29 => k_is); (case fn29 => k_is); (case l29 => k_is); (case c29 => k_is); (case k29 => k_is); (case a30 => k_is); (case fn30 => k_is); (case l30 => k_is); (case c30 => k_is); (case k30 => k_is); (case a31 => k_is); (case fn31 => k_is); (case l31 => k_is); (case c31 => k_is); (case k31 => k_is); (case a32 => k_is); (case fn32 => k_is); (case l32 => k_is); (case c32 => k_is); (case k32 => k_is); (case a33 => k_is); (case fn33 => k_is); (case l33 => k_is); (case c33 => k_is); (case k33 => k_is); (case a34 => k_is); (case l34 => k_is); (case c34 => k_is); (case k34 => k_is); (case a35 => k_is); (case l35 => k_is); (case c35 => k_is); (case k35 => k_is); (case a36 => k_is); (case l36 => k_is); (case c36 => k_is); (case k36 => k_is); (case a37 => k_is); (case l37 => k_is); (case c37 => k_is); (case k37 => k_is); (case a38 => k_is); (case l38 => k_is); (case c38 => k_is); (case k38 => k_is); (case a39 => k_is); (case l39 => k_is); (case c39 => k_is); (case k39 => k_is); (case a40 => k_is); (case l40 => k_is); (case c40 => k_is); (case k40 => k_is); (case a41 => k_is); (case l41 => k_is); (case c41 => k_is); (case k41 => k_is); (case a42 => k_is); (case l42 => k_is); (case c42 => k_is); (case k42 => k_is); (case a43 => k_is); (case l43 => k_is); (case c43 => k_is); (case k43 => k_is); (case a44 => k_is); (case l44 => k_is); (case c44 => k_is); (case k44 => k_is); (case z0 => k_is); (case z1 => k_is); (case z2 => k_is); (case z3 => k_is); (case z4 => k_is); (case z5 => k_is); (case z6 => k_is); (case z7 => k_is); (case z8 => k_is); (case z9 => k_is); (case z10 => k_is); (case z11 => k_is); (case z12 => k_is); (case z13 => k_is); (case v0 => k_is); (case v1 => k_is); (case v2 => k_is); (case v3 => k_is); (case v4 => k_is); (case v5 => k_is); (case v6 => k_is); (case v7 => k_is); (case v8 => k_is); (case v9 => k_is); (case v10 => k_is); (case v11 => k_is); (case v12 => k_is)

