import PyProof.Rows.All
import Wide.All
import OpenK.AllK
import Wide.FinOn
import HandS.ForMost
import HandS.Walk
import HandS.IsInst
import HandS.MapJoin
import HandS.Style
import HandS.ForExc
import HandS.ExcIs
import KE.KExcLine
import KE.KExcIs
import KE.KTypeName
import HandS.Ends
import HandS.JoinGen
import HandS.Deep
import HandS.Replace
import KE.GoesMore
import HandS.FStr
import PyProof.Rows.StrIntSpec
import PyProof.FString3
import KE.KxField
import HandS.IntHex
import PyProof.CollectIter
import PyProof.Walks
import PyProof.WalksS
import PyProof.EqKinds
import HandS.Codes
import HandS.StrMore
import HandS.TupAny
import KE.KTupSum
import HandS.ReplaceLit
import PyProof.ToksMono
import HandS.ReplaceList
import HandS.ReplaceDef
import HandS.Defaults
import PySem.Challenge.RW_letterhouse_k20_pieces_of_bytes_written
set_option Elab.async false
set_option linter.all false
set_option maxRecDepth 100000
namespace LH
open PySem PySem.Spec PyProof.Rows L2
/-! ### heaps -/
theorem same_upd {H : Hp} {p : Addr} {o : HO} (h : H p = none) : Same H (upd H p o) := fun b x e => by
  rw [upd_ne (ne_of_none e h)]
  exact e
theorem seqT {K : PySem.W.Frag} {H H' : Hp} {a : Addr} {xs : List V} (e : Same H H') (h : SqT K H a xs) : SqT K H' a xs := by
  rcases h with (h | ⟨o, h⟩) | h
  · exact .inl (.inl (e _ _ h))
  · exact .inl (.inr ⟨o, e _ _ h⟩)
  · exact .inr h
/-- a list that is told new, in a heap that keeps all that stood -/
def New (H : Hp) (xs : List V) (Q : VK) : Prop := ∀ H' p, Same H H' → H p = none → H' p = some (.lst xs) → Q (.ref p) H'
/-- a value that is told in a heap that keeps all that stood -/
def Tell (H : Hp) (v : V) (Q : VK) : Prop := ∀ H', Same H H' → Q v H'
/-! ### a comprehension over anything that yields xs 0 .. xs (n - 1), its element f i -/
theorem lc_pure {J : It} {n : Nat} {G : Hp → Prop} {te : TE} {c : Nat} {σ : L2.St} {H1 : Hp} {D : Addr} {Qd : Hp → Prop} (xs f : Nat → V) (w : Walk J n G (YFn xs)) (hG : ∀ H, Same H1 H → G H) (hD : H1 D = none) (hn : n ≤ sizeLine)
    (he : ∀ i H Q, i < n → Same H1 H → Tell H (f i) Q → te ((σ.set c none).set c (some (xs i))) H Q)
    (hd : ∀ H, Same H1 H → H D = some (.lst ((List.range n).map f)) → Qd H) :
    ∃ W : Nat → Nat → Hp → Prop, (∃ m, W 0 m (upd H1 D (.lst []))) ∧ ∀ i m H, W i m H →
      (J.stop i H ∧ Qd H) ∨ (J.go i H ∧ ∃ Nx : Hp → Prop, (∀ H', Nx H' → ∃ m', m' < m ∧ W (i + 1) m' H') ∧ ∀ x H', J.yld i H x H' → gName c x (wipe σ [c]) H' fun σ2 H2 => wipe σ2 [c] = wipe σ [c] ∧ tYes σ2 H2 fun b H3 =>
        if b = true then te σ2 H3 fun y H4 => ∃ acc, H4 D = some (.lst acc) ∧ acc.length < sizeLine ∧ Nx (upd H4 D (.lst (acc ++ [y]))) else Nx H3) := by
  refine lc_it w (fun i H => Same H1 H ∧ H D = some (.lst ((List.range i).map f))) ⟨same_upd hD, upd_same⟩ (fun i H _ h => hG H h.1) (fun i x H H' hi hP hy => ?_) (fun H h => hd H h.1 h.2)
  obtain ⟨sm, eD⟩ := hP
  obtain ⟨rfl, rfl⟩ := hy
  refine ⟨?_, ?_⟩
  rotate_left
  · show (if true = true then te ((σ.set c none).set c (some (xs i))) H' fun y H4 => ∃ acc, H4 D = some (.lst acc) ∧ acc.length < sizeLine ∧ Same H1 (upd H4 D (.lst (acc ++ [y]))) ∧ upd H4 D (.lst (acc ++ [y])) D = some (.lst ((List.range (i + 1)).map f)) else (Same H1 H' ∧ H' D = some (.lst ((List.range (i + 1)).map f))))
    rw [if_pos rfl]
    refine he i H' _ hi sm fun H2 s2 => ⟨_, s2 _ _ eD, ?_, ?_, ?_⟩
    · rw [List.length_map, List.length_range]
      omega
    · intro b o hb
      rw [upd_ne (ne_of_none hb hD)]
      exact s2 _ _ (sm _ _ hb)
    · rw [upd_same, List.range_succ, List.map_append]
      rfl
  · show (((σ.set c none).set c (some (xs i))).set c none) = σ.set c none
    rw [List.set_set, List.set_set]
/-! ### a def as its callers see it -/
structure Def (P : Program) (w : World) (K : PySem.W.Frag) (mg : Str → Option Value) (base : Heap) (x : Str) (k : Nat) (f : Addr) (fd : FuncData) (ps : List Str) (sp : Sp) : Prop where
  ok : FnOk P w K mg base CX0 k f fd ps sp
  mg : mg x = some (.ref f)
  kp : PySem.W.keepIn K (.ref f) = true
  bd : Binds K fd ps []
section
variable {X : Cx} {x : Str} {k j : Nat} {f : Addr} {fd : FuncData} {ps : List Str} {sp : Sp} {e : Expr} {es : List Expr} {t : TA} {p pos : Pos}
theorem pe_def (D : Def X.prog X.w X.K X.mg X.base x k f fd ps sp) (hr : Room k X.A) (ha : PA X (e :: es) t) (hg : Gl X x := by rfl) (hdb : (x == ("__debug__" : Str)) = false := by decide)
    (he : starEach (e :: es) X.env = (false, eval e X.env) :: starEach es X.env := by rfl) (hpl : (backTo pos (starEach es X.env)).any (·.1) = false := by rfl) : PE X (.Call (.Name x p) (e :: es) [] pos) (tCall sp [] E0 t) :=
  pe_call D.ok hr hg D.mg D.kp D.bd .nil pass0 ha hdb he hpl
theorem pe_def0 (D : Def X.prog X.w X.K X.mg X.base x k f fd ps sp) (hr : Room k X.A) (hg : Gl X x := by rfl) (hdb : (x == ("__debug__" : Str)) = false := by decide) : PE X (.Call (.Name x p) [] [] pos) (tCall sp [] E0 tNil) :=
  pe_call0 D.ok hr hg D.mg D.kp D.bd .nil pass0 hdb
end
/-! ### a text times a number -/
section
variable {X : Cx}
def repS (x : Str) (n : Int) : Str := ⟨(List.replicate n.toNat x.cps.toList).flatten.toArray⟩
theorem foldl_app (l : List (Array Nat)) : ∀ a : Array Nat, (l.foldl (· ++ ·) a).toList = a.toList ++ (l.map (·.toList)).flatten := by
  induction l with
  | nil => intro a; simp
  | cons x r ih => intro a; simp [ih]
theorem mul_rep (x : Str) (n : Int) : Txt.mul x n = repS x n := by
  unfold Txt.mul repS
  by_cases h : n < 1
  · rw [if_pos h, show n.toNat = 0 by omega]
    rfl
  · rw [if_neg h]
    by_cases h2 : (n == 1 || x.length == 0) = true
    · rw [if_pos h2]
      refine TL.ext_tl ?_
      show x.cps.toList = (List.replicate n.toNat x.cps.toList).flatten
      rcases (Bool.or_eq_true _ _).mp h2 with e | e
      · have : n = 1 := eq_of_beq e
        subst this
        simp
      · have : x.cps.toList = [] := by
          have e' : x.length = 0 := eq_of_beq e
          have e3 : x.cps.toList.length = 0 := by simpa [Str.length] using e'
          exact List.length_eq_zero_iff.mp e3
        rw [this]
        simp
    · rw [if_neg h2]
      refine TL.ext_tl ?_
      show ((List.replicate n.toNat x.cps).foldl (· ++ ·) #[]).toList = (List.replicate n.toNat x.cps.toList).flatten
      rw [foldl_app]
      simp
theorem op_mul_str : OpR X (binaryOp .Mult) (fun x y H Q => ∃ z n, x = .str z ∧ y = .int n ∧ -(2 ^ 63) ≤ n ∧ n ≤ 4096 ∧ z.length ≤ 4096 ∧ Q (.str (repS z n)) H) := by
  intro pins s σ H x y v u Q I rx ry h
  obtain ⟨z, n, rfl, rfl, h0, h1, h2, q⟩ := h
  obtain ⟨t, rfl⟩ := rx
  obtain ⟨t', rfl⟩ := ry
  refine SB.mul (mulOk_of 4096 4096 h2 (by exact_mod_cast h1) h0 (by decide) (by decide)) fun t2 k => ?_
  rw [mul_rep]
  exact ⟨.str (repS z n), H, I.tok _, ⟨_, rfl⟩, q⟩
end
/-! ### chunks -/
def chunks {α : Type} (k : Nat) (t : List α) : List (List α) := (List.range ((t.length + (k - 1)) / k)).map fun i => (t.drop (i * k)).take k
theorem chunks_nil {α : Type} {k : Nat} (hk : 0 < k) : chunks k ([] : List α) = [] := by
  unfold chunks
  rw [show (([] : List α).length + (k - 1)) / k = 0 from Nat.div_eq_of_lt (by simp; omega)]
  rfl
theorem chunks_cons {α : Type} {k : Nat} (hk : 0 < k) {t : List α} (ht : t ≠ []) : chunks k t = t.take k :: chunks k (t.drop k) := by
  unfold chunks
  have hl : 0 < t.length := List.length_pos_iff.mpr ht
  have e : (t.length + (k - 1)) / k = ((t.drop k).length + (k - 1)) / k + 1 := by
    rw [List.length_drop]
    by_cases h : t.length ≤ k
    · rw [show t.length - k = 0 by omega, show (0 + (k - 1)) / k = 0 from Nat.div_eq_of_lt (by omega)]
      exact Nat.div_eq_of_lt_le (by omega) (by omega)
    · rw [show t.length + (k - 1) = (t.length - k + (k - 1)) + k by omega, Nat.add_div_right _ hk]
  rw [e, List.range_succ_eq_map, List.map_cons, List.map_map]
  congr 1
  · simp
  · refine List.map_congr_left fun i _ => ?_
    show (t.drop ((i + 1) * k)).take k = ((t.drop k).drop (i * k)).take k
    rw [List.drop_drop, Nat.succ_mul, Nat.add_comm]
/-! ### slices and ranges -/
theorem cutS_at (z : Str) (a b : Nat) : cutS z (some (a : Int)) (some (b : Int)) = ⟨((TL.tl z).drop a |>.take (b - a)).toArray⟩ := by
  unfold cutS
  rw [HT.sIx_nat, HT.sIx_nat]
  refine TL.ext_tl ?_
  show ((TL.tl z).drop (min a z.length)).take (min b z.length - min a z.length) = ((TL.tl z).drop a).take (b - a)
  have hz : z.length = (TL.tl z).length := TL.len_tl z
  rw [hz]
  generalize TL.tl z = l
  by_cases h : a ≤ l.length
  · rw [Nat.min_eq_left h]
    by_cases h2 : b ≤ l.length
    · rw [Nat.min_eq_left h2]
    · rw [Nat.min_eq_right (by omega), List.take_of_length_le (by rw [List.length_drop]; omega), List.take_of_length_le (by rw [List.length_drop]; omega)]
  · have h' : l.length ≤ a := by omega
    rw [Nat.min_eq_right h', List.drop_of_length_le (Nat.le_refl _), List.drop_of_length_le h']
    simp
theorem cutV_at (z : List V) (a b : Nat) : cutV z (some (a : Int)) (some (b : Int)) = (z.drop a).take (b - a) := by
  unfold cutV
  rw [HT.sIx_nat, HT.sIx_nat]
  by_cases h : a ≤ z.length
  · rw [Nat.min_eq_left h]
    by_cases h2 : b ≤ z.length
    · rw [Nat.min_eq_left h2]
    · rw [Nat.min_eq_right (by omega), List.take_of_length_le (by rw [List.length_drop]; omega), List.take_of_length_le (by rw [List.length_drop]; omega)]
  · have h' : z.length ≤ a := by omega
    rw [Nat.min_eq_right h', List.drop_of_length_le (Nat.le_refl _), List.drop_of_length_le h']
    simp
theorem cutV_to (z : List V) (b : Nat) : cutV z none (some (b : Int)) = z.take b := by
  unfold cutV
  rw [HT.sIx_nat, HT.sIx_none]
  by_cases h2 : b ≤ z.length
  · rw [Nat.min_eq_left h2]; simp
  · rw [Nat.min_eq_right (by omega), List.take_of_length_le (by simp), List.take_of_length_le (by omega)]; simp
theorem cutS_to (z : Str) (b : Nat) : cutS z none (some (b : Int)) = ⟨((TL.tl z).take b).toArray⟩ := by
  have := cutS_at z 0 b
  have e : cutS z none (some (b : Int)) = cutS z (some ((0 : Nat) : Int)) (some (b : Int)) := by
    unfold cutS
    rw [HT.sIx_none, HT.sIx_nat, HT.sIx_nat, Nat.zero_min]
  rw [e, this]
  simp
theorem cutS_from (z : Str) (a : Nat) : cutS z (some (a : Int)) none = ⟨((TL.tl z).drop a).toArray⟩ := by
  have e : cutS z (some (a : Int)) none = cutS z (some (a : Int)) (some ((z.length : Nat) : Int)) := by
    unfold cutS
    rw [HT.sIx_none, HT.sIx_nat, HT.sIx_nat]
    simp
  rw [e, cutS_at, TL.len_tl, List.take_of_length_le (by simp)]
theorem rgC (n k : Nat) (hk : 0 < k) (hk2 : k < 1000) (hn : n < 2 ^ 40) : RgC 0 (n : Int) (k : Int) ((n + (k - 1)) / k) := by
  refine ⟨by omega, by omega, ?_, ?_⟩
  · have e := rangeSize_pos (len := (n : Int)) (c := (k : Int)) (by omega) (by omega)
    have q : ((n : Int) + (k : Int) - 1) / (k : Int) ≤ (n : Int) + (k : Int) - 1 := Int.ediv_le_self _ (by omega)
    have q0 : 0 ≤ ((n : Int) + (k : Int) - 1) / (k : Int) := Int.ediv_nonneg (by omega) (by omega)
    unfold Builtin.Range.small
    rw [e]
    simp only [Builtin.Range.rangeFitsLong, Bool.and_eq_true, Bool.or_eq_true, decide_eq_true_eq, beq_iff_eq, show ((k : Int) > 0) by omega, if_true]
    have p1 : (0:Int) < 2 ^ 63 := by decide
    omega
  · rw [rangeSize_pos (by omega) (by omega)]
    rw [show (n : Int) + (k : Int) - 1 = ((n + (k - 1) : Nat) : Int) by omega]
    exact (Int.natCast_ediv _ _).symm
end LH
namespace LH
open PySem PySem.Spec PyProof.Rows L2
theorem walk_listF {K : PySem.W.Frag} {a : Addr} {xs : List V} : Walk (Itl K a) xs.length (fun H => SqL K H a xs) (YFn fun i => xs.getD i .non) :=
  walk_list.mono (fun _ h => h) fun i H x H' hi _ y => ⟨y.1, by show x = xs.getD i .non; rw [List.getD_eq_getElem?_getD, y.2]; rfl⟩
theorem walk_tupF {K : PySem.W.Frag} {a : Addr} {xs : List V} : Walk (Itt K a) xs.length (fun H => SqT K H a xs) (YFn fun i => xs.getD i .non) :=
  walk_tup.mono (fun _ h => h) fun i H x H' hi _ y => ⟨y.1, by show x = xs.getD i .non; rw [List.getD_eq_getElem?_getD, y.2]; rfl⟩
theorem getD_map_int (bs : List Int) (i : Nat) (h : i < bs.length) : (bs.map V.int).getD i .non = .int (bs.getD i 0) := by
  rw [List.getD_eq_getElem?_getD, List.getElem?_map, List.getElem?_eq_getElem h, List.getD_eq_getElem?_getD, List.getElem?_eq_getElem h]
  rfl
theorem range_getD {α : Type} (xs : List α) (d : α) : (List.range xs.length).map (fun i => xs.getD i d) = xs := by
  apply List.ext_getElem?
  intro i
  rw [List.getElem?_map]
  by_cases h : i < xs.length
  · rw [List.getElem?_range h]
    show some (xs.getD i d) = _
    rw [List.getD_eq_getElem?_getD, List.getElem?_eq_getElem h]
    rfl
  · rw [List.getElem?_eq_none (by rw [List.length_range]; omega), List.getElem?_eq_none (by omega)]
    rfl
section
variable {X : Cx}
theorem ixL (K : PySem.W.Frag) (h : X.K = K := by rfl) : IxR X (rIxL K) := h ▸ ix_list
theorem ixT (K : PySem.W.Frag) (h : X.K = K := by rfl) : IxR X (rIxT K) := h ▸ ix_tup
theorem slL (K : PySem.W.Frag) (h : X.K = K := by rfl) : SlR X (rSlL K) := h ▸ sl_list
theorem slT (K : PySem.W.Frag) (h : X.K = K := by rfl) : SlR X (rSlT K) := h ▸ sl_tup
theorem cIsi (K : PySem.W.Frag) (h : X.K = K := by rfl) : CallR X (.builtin "isinstance") (rIsi K) := h ▸ call_isi
def rLenS (K : PySem.W.Frag) : List V → Hp → VK → Prop := fun xs H Q => ∃ p ys, xs = [.ref p] ∧ (SqL K H p ys ∨ SqT K H p ys) ∧ Q (.int ys.length) H
theorem cLen (K : PySem.W.Frag) (h : X.K = K := by rfl) : CallR X (.builtin "len") (rLenS K) := h ▸ call_len_seq
theorem cAll (K : PySem.W.Frag) (h : X.K = K := by rfl) (hc : X.calm = true := by rfl) : CallR X (.builtin "all") (rAll K) := h ▸ cr_all hc
theorem cAny (K : PySem.W.Frag) (h : X.K = K := by rfl) (hc : X.calm = true := by rfl) : CallR X (.builtin "any") (rAny K) := h ▸ cr_any hc
theorem oIn (K : PySem.W.Frag) (h : X.K = K := by rfl) : OpR X (compareOp .In) (rIn K false) := h ▸ op_in_seq
theorem oNotIn (K : PySem.W.Frag) (h : X.K = K := by rfl) : OpR X (compareOp .NotIn) (rIn K true) := h ▸ op_notIn_seq
theorem oEqD (K : PySem.W.Frag) (hu : X.A.units + 64 < cLine) (h : X.K = K := by rfl) : OpR X (compareOp .Eq) (rEqD K) := h ▸ op_eqD hu
theorem oNeD (K : PySem.W.Frag) (hu : X.A.units + 64 < cLine) (h : X.K = K := by rfl) : OpR X (compareOp .NotEq) (rNeD K) := h ▸ op_neD hu
end
end LH
namespace LH
open PySem PySem.Spec PyProof.Rows L2
/-! ### data: flat lists compared -/
def OkS (x : Str) : Prop := ∀ c ∈ TL.tl x, c < 1114112
theorem strOk_of (x : Str) (h : OkS x) : PyData.strOk x = true := by
  unfold PyData.strOk
  rw [Array.all_eq_true']
  intro c hc
  exact decide_eq_true (h c (Array.mem_toList_iff.mpr hc))
theorem dpAll_ints {K : PySem.W.Frag} {H : Hp} : ∀ bs : List Int, DpAll K H (bs.map V.int) (bs.map PyData.int)
  | [] => .nil
  | b :: r => .cons (.int b) (dpAll_ints r)
theorem dpAll_strs {K : PySem.W.Frag} {H : Hp} : ∀ bs : List Str, DpAll K H (bs.map V.str) (bs.map PyData.str)
  | [] => .nil
  | b :: r => .cons (.str b) (dpAll_strs r)
theorem dp_ints {K : PySem.W.Frag} {H : Hp} {a : Addr} {bs : List Int} (h : SqL K H a (bs.map V.int)) : Dp K H (.ref a) (.list (bs.map PyData.int)) := .lst h (dpAll_ints bs)
theorem dp_strs {K : PySem.W.Frag} {H : Hp} {a : Addr} {bs : List Str} (h : SqL K H a (bs.map V.str)) : Dp K H (.ref a) (.list (bs.map PyData.str)) := .lst h (dpAll_strs bs)
theorem lay_strs : ∀ bs : List Str, (∀ x ∈ bs, OkS x) → PyData.canLayAll0 (bs.map PyData.str) = true
  | [], _ => by simp [PyData.canLayAll0]
  | b :: r, h => by simp [PyData.canLayAll0, PyData.canLay0, strOk_of b (h b (by simp)), lay_strs r fun x hx => h x (by simp [hx])]
theorem depth_strs : ∀ bs : List Str, PyData.depthAll (bs.map PyData.str) = 0
  | [] => rfl
  | _ :: r => by simp [PyData.depthAll, PyData.depth, depth_strs r]
theorem shaped_strs (bs : List Str) (h : ∀ x ∈ bs, OkS x) : SeqAt.shaped (.list (bs.map PyData.str)) = true := by
  simp [SeqAt.shaped, PyData.canLay0, PyData.depth, lay_strs bs h, depth_strs]
theorem shaped_intsL (bs : List Int) : SeqAt.shaped (.list (bs.map PyData.int)) = true := PySem.W.ke_shaped_ints bs
theorem eqv_ints : ∀ bs cs : List Int, PyData.eqvAll (bs.map PyData.int) (cs.map PyData.int) = decide (bs = cs)
  | [], [] => by simp [PyData.eqvAll]
  | [], _ :: _ => by simp [PyData.eqvAll]
  | _ :: _, [] => by simp [PyData.eqvAll]
  | b :: r, c :: q => by
    rw [List.map_cons, List.map_cons, PyData.eqvAll, PyData.eqv, eqv_ints r q]
    by_cases h : b = c <;> simp [h]
theorem eqv_strs : ∀ bs cs : List Str, PyData.eqvAll (bs.map PyData.str) (cs.map PyData.str) = decide (bs = cs)
  | [], [] => by simp [PyData.eqvAll]
  | [], _ :: _ => by simp [PyData.eqvAll]
  | _ :: _, [] => by simp [PyData.eqvAll]
  | b :: r, c :: q => by
    rw [List.map_cons, List.map_cons, PyData.eqvAll, PyData.eqv, eqv_strs r q]
    by_cases h : b = c <;> simp [h]
theorem eqv_intsL (bs cs : List Int) : PyData.eqv (.list (bs.map PyData.int)) (.list (cs.map PyData.int)) = decide (bs = cs) := by rw [PyData.eqv, eqv_ints]
theorem eqv_strsL (bs cs : List Str) : PyData.eqv (.list (bs.map PyData.str)) (.list (cs.map PyData.str)) = decide (bs = cs) := by rw [PyData.eqv, eqv_strs]
theorem map_true {α : Type} (l : List α) : (l.map fun _ => true).all id = true := by
  induction l with
  | nil => rfl
  | cons x r ih => simpa using ih
end LH

namespace LH
open PySem PySem.Spec PyProof.Rows L2
/-! ### a comprehension with a test -/
theorem lc_filt {J : It} {n : Nat} {G : Hp → Prop} {tt : TT} {te : TE} {c : Nat} {σ : L2.St} {H1 : Hp} {D : Addr} {Qd : Hp → Prop} (xs f : Nat → V) (b : Nat → Bool) (w : Walk J n G (YFn xs)) (hG : ∀ H, Same H1 H → G H) (hD : H1 D = none) (hn : n ≤ sizeLine)
    (ht : ∀ (i : Nat) (H : Hp) (Q : Bool → Hp → Prop), i < n → Same H1 H → (∀ H', Same H H' → Q (b i) H') → tt ((σ.set c none).set c (some (xs i))) H Q)
    (he : ∀ i H Q, i < n → Same H1 H → b i = true → Tell H (f i) Q → te ((σ.set c none).set c (some (xs i))) H Q)
    (hd : ∀ H, Same H1 H → H D = some (.lst (((List.range n).filter b).map f)) → Qd H) :
    ∃ W : Nat → Nat → Hp → Prop, (∃ m, W 0 m (upd H1 D (.lst []))) ∧ ∀ i m H, W i m H →
      (J.stop i H ∧ Qd H) ∨ (J.go i H ∧ ∃ Nx : Hp → Prop, (∀ H', Nx H' → ∃ m', m' < m ∧ W (i + 1) m' H') ∧ ∀ x H', J.yld i H x H' → gName c x (wipe σ [c]) H' fun σ2 H2 => wipe σ2 [c] = wipe σ [c] ∧ tt σ2 H2 fun b H3 =>
        if b = true then te σ2 H3 fun y H4 => ∃ acc, H4 D = some (.lst acc) ∧ acc.length < sizeLine ∧ Nx (upd H4 D (.lst (acc ++ [y]))) else Nx H3) := by
  refine lc_it w (fun i H => Same H1 H ∧ H D = some (.lst (((List.range i).filter b).map f))) ⟨same_upd hD, upd_same⟩ (fun i H _ h => hG H h.1) (fun i x H H' hi hP hy => ?_) (fun H h => hd H h.1 h.2)
  obtain ⟨sm, eD⟩ := hP
  obtain ⟨rfl, rfl⟩ := hy
  refine ⟨?_, ?_⟩
  rotate_left
  · refine ht i H' _ hi sm fun H2 s2 => ?_
    cases hb : b i with
    | true =>
      rw [if_pos rfl]
      refine he i H2 _ hi (sm.trans s2) hb fun H3 s3 => ⟨_, s3 _ _ (s2 _ _ eD), ?_, ?_, ?_⟩
      · rw [List.length_map]
        have := List.length_filter_le b (List.range i)
        rw [List.length_range] at this
        omega
      · intro b' o hb'
        rw [upd_ne (ne_of_none hb' hD)]
        exact s3 _ _ (s2 _ _ (sm _ _ hb'))
      · rw [upd_same, List.range_succ, List.filter_append, List.map_append]
        simp [hb]
    | false =>
      rw [if_neg Bool.false_ne_true]
      refine ⟨sm.trans s2, ?_⟩
      rw [s2 _ _ eD, List.range_succ, List.filter_append, List.map_append]
      simp [hb]
  · show (((σ.set c none).set c (some (xs i))).set c none) = σ.set c none
    rw [List.set_set, List.set_set]
/-! ### the signs of a text -/
theorem walk_strF {z : Str} : Walk (Its z) (TL.tl z).length (fun _ => True) (YFn fun i => .str ⟨#[(TL.tl z).getD i 0]⟩) := by
  have e : (TL.tl z).length = z.cps.size := Array.length_toList
  rw [e]
  refine walk_str.mono (fun _ h => h) fun i H x H' hi _ y => ⟨y.1, ?_⟩
  obtain ⟨_, c, hc, rfl⟩ := y
  show V.str ⟨#[c]⟩ = .str ⟨#[(TL.tl z).getD i 0]⟩
  have : (TL.tl z)[i]? = some c := by rw [← hc]; exact Array.getElem?_toList
  rw [List.getD_eq_getElem?_getD, this]
  rfl
theorem lall_range {α : Type} (l : List α) (d : α) (p : α → Bool) : ((List.range l.length).map fun i => p (l.getD i d)).all id = l.all p := by
  have e : ((List.range l.length).map fun i => p (l.getD i d)) = ((List.range l.length).map fun i => l.getD i d).map p := by rw [List.map_map]; rfl
  rw [e, range_getD, List.all_map]
  rfl
/-! ### one sign's split -/
def splitL (s : Nat) : List Nat → List (List Nat)
  | [] => [[]]
  | c :: r => if c = s then [] :: splitL s r else (c :: (splitL s r).headD []) :: (splitL s r).tail
theorem splitL_ne (s : Nat) (l : List Nat) : splitL s l ≠ [] := by
  cases l with
  | nil => simp [splitL]
  | cons c r => unfold splitL; split <;> simp
theorem splitL_eta (s : Nat) (l : List Nat) : splitL s l = (splitL s l).headD [] :: (splitL s l).tail := by
  cases h : splitL s l with
  | nil => exact absurd h (splitL_ne s l)
  | cons x r => rfl
theorem spl_one (s : Nat) : ∀ (l acc : List Nat), TL.spl [s] 0 acc l = (acc ++ (splitL s l).headD []) :: (splitL s l).tail
  | [], acc => by rw [TL.spl_nil]; simp [splitL]
  | c :: r, acc => by
    by_cases h : c = s
    · subst h
      rw [TL.spl_hit (show TL.pre [c] (c :: r) = true by simp [TL.pre])]
      show acc :: TL.spl [c] 0 [] r = _
      rw [spl_one c r []]
      have e : splitL c (c :: r) = [] :: splitL c r := by
        conv => lhs; unfold splitL
        rw [if_pos rfl]
      rw [e]
      simp only [List.headD_cons, List.tail_cons, List.append_nil, List.nil_append]
      rw [← splitL_eta]
    · rw [TL.spl_miss (show TL.pre [s] (c :: r) = false by simp [TL.pre]; exact h), spl_one s r]
      conv => rhs; unfold splitL
      rw [if_neg h]
      simp
theorem split_tl {x y : Str} {s : Nat} (hy : TL.tl y = [s]) (hs : s < 256) : (Txt.split x y).map TL.tl = splitL s (TL.tl x) := by
  rw [TL.split_spl x y (by rw [hy]; simp) (TL.kind_ok ?_), hy, spl_one, List.nil_append, ← splitL_eta]
  rw [Array.all_eq_true']
  intro c hc
  have : c ∈ TL.tl y := Array.mem_toList_iff.mpr hc
  rw [hy] at this
  exact decide_eq_true (by rw [List.mem_singleton.mp this]; exact hs)
theorem splitL_len (s : Nat) : ∀ l : List Nat, (splitL s l).length ≤ l.length + 1
  | [] => Nat.le_refl _
  | c :: r => by
    have ih := splitL_len s r
    unfold splitL
    split
    · simp only [List.length_cons]; omega
    · have := splitL_eta s r
      have h2 := congrArg List.length this
      simp only [List.length_cons] at h2 ⊢
      omega
theorem splitL_mem (s : Nat) : ∀ (l : List Nat) (w : List Nat), w ∈ splitL s l → ∀ c ∈ w, c ∈ l
  | [], w, h, c, hc => by
    simp [splitL] at h
    rw [h] at hc
    cases hc
  | d :: r, w, h, c, hc => by
    unfold splitL at h
    have e := splitL_eta s r
    split at h
    · rcases List.mem_cons.mp h with rfl | h
      · cases hc
      · exact List.mem_cons_of_mem _ (splitL_mem s r w h c hc)
    · rcases List.mem_cons.mp h with rfl | h
      · rcases List.mem_cons.mp hc with rfl | hc
        · exact List.mem_cons_self
        · exact List.mem_cons_of_mem _ (splitL_mem s r _ (by rw [e]; exact List.mem_cons_self) c hc)
      · exact List.mem_cons_of_mem _ (splitL_mem s r w (by rw [e]; exact List.mem_cons_of_mem _ h) c hc)
theorem splitL_le (s : Nat) : ∀ (l : List Nat) (w : List Nat), w ∈ splitL s l → w.length ≤ l.length
  | [], w, h => by
    simp [splitL] at h
    rw [h]
    exact Nat.le_refl _
  | d :: r, w, h => by
    unfold splitL at h
    have e := splitL_eta s r
    have mem1 : (splitL s r).headD [] ∈ splitL s r := by rw [e]; exact List.mem_cons_self
    have mem2 : ∀ x ∈ (splitL s r).tail, x ∈ splitL s r := fun x hx => by rw [e]; exact List.mem_cons_of_mem _ hx
    split at h
    · rcases List.mem_cons.mp h with rfl | h
      · exact Nat.zero_le _
      · exact Nat.le_succ_of_le (splitL_le s r w h)
    · rcases List.mem_cons.mp h with rfl | h
      · exact Nat.succ_le_succ (splitL_le s r _ mem1)
      · exact Nat.le_succ_of_le (splitL_le s r w (mem2 w h))
theorem mk_len (l : List Nat) : (⟨l.toArray⟩ : Str).length = l.length := by rw [TL.len_tl]
theorem str_eq_iff (x y : Str) : x = y ↔ TL.tl x = TL.tl y := ⟨fun h => by rw [h], TL.ext_tl⟩
end LH
namespace LH
open PySem PySem.Spec PyProof.Rows L2
/-! ### an empty part in a split: a sign at an end, or two side by side -/
def Gap (s : Nat) (l : List Nat) : Prop := ∃ i, l[i]? = some s ∧ (l[i + 1]? = none ∨ l[i + 1]? = some s)
theorem gap_nil (s : Nat) : ¬ Gap s [] := fun ⟨i, h, _⟩ => by simp at h
theorem gap_cons (s c : Nat) (r : List Nat) : Gap s (c :: r) ↔ (c = s ∧ (r = [] ∨ r[0]? = some s)) ∨ Gap s r := by
  constructor
  · rintro ⟨i, h1, h2⟩
    cases i with
    | zero =>
      left
      have : c = s := by simpa using h1
      refine ⟨this, ?_⟩
      rcases h2 with h2 | h2
      · left
        have : r[0]? = none := by simpa using h2
        cases r with
        | nil => rfl
        | cons x r => simp at this
      · right; simpa using h2
    | succ i => exact .inr ⟨i, by simpa using h1, by simpa using h2⟩
  · rintro (⟨rfl, h⟩ | ⟨i, h1, h2⟩)
    · refine ⟨0, by simp, ?_⟩
      rcases h with rfl | h
      · left; rfl
      · right; simpa using h
    · exact ⟨i + 1, by simpa using h1, by simpa using h2⟩
theorem split_head (s : Nat) (l : List Nat) : (splitL s l).headD [] = [] ↔ l = [] ∨ l[0]? = some s := by
  cases l with
  | nil => simp [splitL]
  | cons c r =>
    unfold splitL
    by_cases h : c = s
    · rw [if_pos h]; simp [h]
    · rw [if_neg h]; simp [h]
theorem split_tail (s : Nat) : ∀ l : List Nat, [] ∈ (splitL s l).tail ↔ Gap s l
  | [] => by simp [splitL, gap_nil]
  | c :: r => by
    rw [gap_cons, ← split_tail s r]
    by_cases h : c = s
    · have e : splitL s (c :: r) = [] :: splitL s r := by
        conv => lhs; unfold splitL
        rw [if_pos h]
      rw [e, List.tail_cons, splitL_eta s r, List.mem_cons, eq_comm, split_head]
      simp [h]
    · have e : splitL s (c :: r) = (c :: (splitL s r).headD []) :: (splitL s r).tail := by
        conv => lhs; unfold splitL
        rw [if_neg h]
      rw [e, List.tail_cons]
      simp [h]
theorem split_gap (s : Nat) (l : List Nat) : [] ∈ splitL s l ↔ l = [] ∨ l[0]? = some s ∨ Gap s l := by
  rw [splitL_eta s l, List.mem_cons, eq_comm, split_head, split_tail, or_assoc]
theorem joinL_nil (l : List (List Nat)) : TL.joinL [] l = l.flatten := by
  induction l with
  | nil => rfl
  | cons x r ih =>
    cases r with
    | nil => simp [TL.joinL]
    | cons y r => rw [TL.joinL, ih]; simp
theorem tl_empty : TL.tl (Str.ofString "") = [] := by decide +kernel
theorem tl_join0 (ys : List Str) : TL.tl (Txt.join (Str.ofString "") ys) = (ys.map TL.tl).flatten := by
  rw [TL.join_eq, TL.tl_join, tl_empty, joinL_nil]
theorem flatten_le {α : Type} {k : Nat} : ∀ l : List (List α), (∀ x ∈ l, x.length ≤ k) → l.flatten.length ≤ k * l.length
  | [], _ => Nat.le_refl _
  | x :: r, h => by
    have ih := flatten_le r fun y hy => h y (List.mem_cons_of_mem _ hy)
    have hx := h x (by simp)
    rw [List.flatten_cons, List.length_append, List.length_cons, Nat.mul_succ]
    omega
theorem chunks_len {α : Type} (k : Nat) (t : List α) : (chunks k t).length = (t.length + (k - 1)) / k := by
  unfold chunks
  rw [List.length_map, List.length_range]
theorem sum_len (ys : List Str) : (ys.map (·.length)).sum = ((ys.map TL.tl).flatten).length := by
  rw [List.length_flatten, List.map_map]
  rfl
/-! ### texts and their signs -/
theorem okS_app {x y : Str} (hx : OkS x) (hy : OkS y) : OkS (x ++ y) := fun c hc => by
  rw [TL.tl_append] at hc
  rcases List.mem_append.mp hc with h | h
  · exact hx c h
  · exact hy c h
theorem len_app (x y : Str) : (x ++ y).length = x.length + y.length := by
  rw [TL.len_tl, TL.tl_append, List.length_append, ← TL.len_tl, ← TL.len_tl]
theorem okS_cut {x : Str} (hx : OkS x) (lo hi : Option Int) : OkS (cutS x lo hi) := fun c hc => hx c (List.mem_of_mem_drop (List.mem_of_mem_take hc))
theorem okS_one {c : Nat} (h : c < 1114112) : OkS ⟨#[c]⟩ := fun d hd => by
  have : d = c := by simpa [TL.tl] using hd
  rw [this]; exact h
theorem joinL_mem (S : List Nat) : ∀ (ps : List (List Nat)) (c : Nat), c ∈ TL.joinL S ps → c ∈ S ∨ ∃ p ∈ ps, c ∈ p
  | [], c, h => by cases h
  | [p], c, h => .inr ⟨p, by simp, h⟩
  | p :: q :: r, c, h => by
    rw [TL.joinL] at h
    rcases List.mem_append.mp h with h | h
    · exact .inr ⟨p, by simp, h⟩
    · rcases List.mem_append.mp h with h | h
      · exact .inl h
      · rcases joinL_mem S (q :: r) c h with h | ⟨x, hx, hc⟩
        · exact .inl h
        · exact .inr ⟨x, List.mem_cons_of_mem _ hx, hc⟩
theorem joinL_len (S : List Nat) : ∀ (ps : List (List Nat)), (TL.joinL S ps).length ≤ (ps.map List.length).sum + ps.length * S.length
  | [] => by simp [TL.joinL]
  | [p] => by simp [TL.joinL]
  | p :: q :: r => by
    have ih := joinL_len S (q :: r)
    rw [TL.joinL, List.length_append, List.length_append, List.map_cons, List.sum_cons, List.length_cons, Nat.succ_mul]
    omega
theorem sum_le (k : Nat) : ∀ l : List Nat, (∀ x ∈ l, x ≤ k) → l.sum ≤ l.length * k
  | [], _ => by simp
  | x :: r, h => by
    have ih := sum_le k r fun y hy => h y (List.mem_cons_of_mem _ hy)
    have hx := h x (by simp)
    rw [List.sum_cons, List.length_cons, Nat.succ_mul]
    omega
theorem join_len_le {sep : Str} {ws : List Str} {k n : Nat} (hw : ∀ x ∈ ws, x.length ≤ k) (hn : ws.length ≤ n) : (ws.map (·.length)).sum + ws.length * sep.length ≤ n * (k + sep.length) := by
  have h1 := sum_le k (ws.map (·.length)) fun x hx => by
    obtain ⟨y, hy, rfl⟩ := List.mem_map.mp hx
    exact hw y hy
  rw [List.length_map] at h1
  calc (ws.map (·.length)).sum + ws.length * sep.length ≤ ws.length * k + ws.length * sep.length := Nat.add_le_add_right h1 _
    _ = ws.length * (k + sep.length) := (Nat.mul_add _ _ _).symm
    _ ≤ n * (k + sep.length) := Nat.mul_le_mul_right _ hn
theorem joined_len (sep : Str) (ws : List Str) : (Txt.join sep ws).length ≤ (ws.map (·.length)).sum + ws.length * sep.length := by
  rw [TL.len_tl, TL.join_eq, TL.tl_join]
  refine Nat.le_trans (joinL_len _ _) ?_
  rw [List.map_map, List.length_map, ← TL.len_tl]
  have : (ws.map (List.length ∘ TL.tl)) = ws.map (·.length) := List.map_congr_left fun x _ => (TL.len_tl x).symm
  rw [this]
  exact Nat.le_refl _
theorem okS_join {sep : Str} {ws : List Str} (hs : OkS sep) (hw : ∀ x ∈ ws, OkS x) : OkS (Txt.join sep ws) := fun c hc => by
  rw [TL.join_eq, TL.tl_join] at hc
  rcases joinL_mem _ _ c hc with h | ⟨p, hp, hc⟩
  · exact hs c h
  · obtain ⟨x, hx, rfl⟩ := List.mem_map.mp hp
    exact hw x hx c hc
/-- lists of truth values compared -/
theorem dpAll_bls {K : PySem.W.Frag} {H : Hp} : ∀ bs : List Bool, DpAll K H (bs.map V.bl) (bs.map PyData.bool)
  | [] => .nil
  | b :: r => .cons (.bl b) (dpAll_bls r)
theorem dp_bls {K : PySem.W.Frag} {H : Hp} {a : Addr} {bs : List Bool} (h : SqL K H a (bs.map V.bl)) : Dp K H (.ref a) (.list (bs.map PyData.bool)) := .lst h (dpAll_bls bs)
theorem lay_bls : ∀ bs : List Bool, PyData.canLayAll0 (bs.map PyData.bool) = true
  | [] => by simp [PyData.canLayAll0]
  | b :: r => by simp [PyData.canLayAll0, PyData.canLay0, lay_bls r]
theorem depth_bls : ∀ bs : List Bool, PyData.depthAll (bs.map PyData.bool) = 0
  | [] => rfl
  | _ :: r => by simp [PyData.depthAll, PyData.depth, depth_bls r]
theorem shaped_bls (bs : List Bool) : SeqAt.shaped (.list (bs.map PyData.bool)) = true := by
  simp [SeqAt.shaped, PyData.canLay0, PyData.depth, lay_bls bs, depth_bls]
theorem eqv_bls : ∀ bs cs : List Bool, PyData.eqvAll (bs.map PyData.bool) (cs.map PyData.bool) = decide (bs = cs)
  | [], [] => by simp [PyData.eqvAll]
  | [], _ :: _ => by simp [PyData.eqvAll]
  | _ :: _, [] => by simp [PyData.eqvAll]
  | b :: r, c :: q => by
    rw [List.map_cons, List.map_cons, PyData.eqvAll, PyData.eqv, eqv_bls r q]
    by_cases h : b = c <;> simp [h]
theorem eqv_blsL (bs cs : List Bool) : PyData.eqv (.list (bs.map PyData.bool)) (.list (cs.map PyData.bool)) = decide (bs = cs) := by rw [PyData.eqv, eqv_bls]
theorem lat_of {α : Type} {xs : List α} {z : Int} {j : Nat} {v : α} (e : z = (j : Int)) (h : xs[j]? = some v) : atI xs z = some v := by
  rw [e]
  exact atI_nat h
theorem getD_str (ws : List Str) (i : Nat) (hi : i < ws.length) : (ws.map V.str).getD i .non = .str (ws.getD i Str.empty) := by
  rw [List.getD_eq_getElem?_getD, List.getElem?_map, List.getElem?_eq_getElem hi, List.getD_eq_getElem?_getD, List.getElem?_eq_getElem hi]
  rfl
end LH
namespace LH
open PySem PySem.Spec PyProof.Rows L2
/-! ### and, or of values, each part told by its truth -/
theorem andV {ta tb : TE} {σ : L2.St} {H : Hp} {Q : VK} (c d : Bool) (ha : ∀ Q' : VK, Tell H (.bl c) Q' → ta σ H Q') (hb : c = true → ∀ (H1 : Hp) (Q' : VK), Same H H1 → Tell H1 (.bl d) Q' → tb σ H1 Q') (q : Tell H (.bl (c && d)) Q) : tAndV ta tb σ H Q := by
  refine ha _ fun H1 s1 => ⟨c, rfl, ?_⟩
  cases c with
  | true => exact iteT (hb rfl H1 Q s1 fun H2 s2 => q H2 (s1.trans s2))
  | false => exact iteF (q H1 s1)
theorem orV {ta tb : TE} {σ : L2.St} {H : Hp} {Q : VK} (c d : Bool) (ha : ∀ Q' : VK, Tell H (.bl c) Q' → ta σ H Q') (hb : c = false → ∀ (H1 : Hp) (Q' : VK), Same H H1 → Tell H1 (.bl d) Q' → tb σ H1 Q') (q : Tell H (.bl (c || d)) Q) : tOrV ta tb σ H Q := by
  refine ha _ fun H1 s1 => ⟨c, rfl, ?_⟩
  cases c with
  | true => exact iteT (q H1 s1)
  | false => exact iteF (hb rfl H1 Q s1 fun H2 s2 => q H2 (s1.trans s2))
/-- two blanks side by side -/
def dbl (s : Nat) (l : List Nat) : Bool := (List.range l.length).any fun i => decide (l[i]? = some s) && decide (l[i + 1]? = some s)
theorem dbl_iff (s : Nat) (l : List Nat) : dbl s l = true ↔ ∃ i, l[i]? = some s ∧ l[i + 1]? = some s := by
  unfold dbl
  rw [List.any_eq_true]
  constructor
  · rintro ⟨i, _, h⟩
    rw [Bool.and_eq_true, decide_eq_true_eq, decide_eq_true_eq] at h
    exact ⟨i, h⟩
  · rintro ⟨i, h1, h2⟩
    refine ⟨i, List.mem_range.mpr (List.getElem?_eq_some_iff.mp h1).1, ?_⟩
    rw [Bool.and_eq_true, decide_eq_true_eq, decide_eq_true_eq]
    exact ⟨h1, h2⟩
theorem take2 (s : Nat) : ∀ (l : List Nat) (i : Nat), (l.drop i).take 2 = [s, s] ↔ l[i]? = some s ∧ l[i + 1]? = some s
  | [], i => by simp
  | c :: r, 0 => by cases r <;> simp
  | c :: r, i + 1 => by simpa using take2 s r i
theorem in_two {x y : Str} {s : Nat} (hy : TL.tl y = [s, s]) : (!(Builtin.Str.occurrences x y 0 x.length 1).isEmpty) = dbl s (TL.tl x) := by
  rw [Bool.eq_iff_iff, PySem.StrLaws.found_iff, dbl_iff]
  have hyl : y.length = 2 := by rw [TL.len_tl, hy]; rfl
  constructor
  · rintro ⟨i, h1, h2⟩
    rw [PySem.StrLaws.subAt_eq, hyl] at h2
    exact ⟨i, (take2 s _ i).mp ((eq_of_beq h2).trans hy)⟩
  · rintro ⟨i, h⟩
    have hl := (List.getElem?_eq_some_iff.mp h.2).1
    refine ⟨i, by rw [hyl, TL.len_tl]; omega, ?_⟩
    rw [PySem.StrLaws.subAt_eq, hyl]
    refine beq_iff_eq.mpr ?_
    rw [show x.cps.toList = TL.tl x from rfl, (take2 s _ i).mpr h]
    exact hy.symm
theorem take1 (s : Nat) (l : List Nat) : l.take 1 = [s] ↔ l[0]? = some s := by cases l <;> simp
theorem dropL (s : Nat) (l : List Nat) : l.drop (l.length - 1) = [s] ↔ ∃ i, l[i]? = some s ∧ l[i + 1]? = none := by
  constructor
  · intro h
    refine ⟨l.length - 1, ?_, ?_⟩
    · have := congrArg (fun m : List Nat => m[0]?) h
      simpa using this
    · rw [List.getElem?_eq_none_iff]; omega
  · rintro ⟨i, h1, h2⟩
    obtain ⟨hl, e⟩ := List.getElem?_eq_some_iff.mp h1
    have hl2 := List.getElem?_eq_none_iff.mp h2
    have : i = l.length - 1 := by omega
    subst this
    rw [List.drop_eq_getElem_cons hl, e, List.drop_of_length_le (by omega)]
theorem blanks_iff (s : Nat) (l : List Nat) (h0 : l ≠ []) : (decide (l.take 1 = [s]) || (decide (l.drop (l.length - 1) = [s]) || dbl s l)) = decide ([] ∈ splitL s l) := by
  rw [Bool.eq_iff_iff, Bool.or_eq_true, Bool.or_eq_true, decide_eq_true_eq, decide_eq_true_eq, dbl_iff, decide_eq_true_eq, split_gap, take1, dropL]
  constructor
  · rintro (h | ⟨i, h1, h2⟩ | ⟨i, h1, h2⟩)
    · exact .inr (.inl h)
    · exact .inr (.inr ⟨i, h1, .inl h2⟩)
    · exact .inr (.inr ⟨i, h1, .inr h2⟩)
  · rintro (h | h | ⟨i, h1, h2 | h2⟩)
    · exact absurd h h0
    · exact .inl h
    · exact .inr (.inl ⟨i, h1, h2⟩)
    · exact .inr (.inr ⟨i, h1, h2⟩)
theorem cutS_last (z : Str) : TL.tl (cutS z (some (-1)) none) = (TL.tl z).drop ((TL.tl z).length - 1) := by
  unfold cutS
  rw [HT.sIx_none]
  have e : HT.sIx z.length 0 (some (-1)) = z.length - 1 := by
    show (if (-1 : Int) < 0 then (-1 + ((z.length : Nat) : Int)).toNat else min (-1 : Int).toNat z.length) = _
    rw [if_pos (by decide)]
    omega
  rw [e]
  show ((TL.tl z).drop (z.length - 1)).take (z.length - (z.length - 1)) = _
  rw [TL.len_tl]
  exact List.take_of_length_le (by rw [List.length_drop]; exact Nat.le_refl _)
end LH
namespace LH
open PySem PySem.Spec PyProof.Rows L2
theorem pickL {α : Type} (xs : List α) (m : Int) (h0 : 0 ≤ m) (h1 : m < xs.length) : ∃ x, x ∈ xs ∧ atI xs m = some x := by
  obtain ⟨j, rfl⟩ : ∃ j : Nat, m = (j : Int) := ⟨m.toNat, by omega⟩
  have hj : j < xs.length := by omega
  exact ⟨xs[j], List.getElem_mem hj, atI_nat (List.getElem?_eq_getElem hj)⟩
/-- a thing that is no text -/
def Odd (H : Hp) (x : V) : Prop := x = .non ∨ (∃ i, x = .int i) ∨ (∃ b, x = .bl b) ∨ ∃ a, x = .ref a ∧ ((∃ xs, H a = some (.lst xs)) ∨ (∃ xs, H a = some (.tup xs)) ∨ ∃ kvs, H a = some (.dK kvs))
theorem Odd.same {H H' : Hp} {x : V} (s : Same H H') (h : Odd H x) : Odd H' x := by
  rcases h with h | h | h | ⟨a, e, h⟩
  · exact .inl h
  · exact .inr (.inl h)
  · exact .inr (.inr (.inl h))
  · refine .inr (.inr (.inr ⟨a, e, ?_⟩))
    rcases h with ⟨xs, h⟩ | ⟨xs, h⟩ | ⟨xs, h⟩
    · exact .inl ⟨xs, s _ _ h⟩
    · exact .inr (.inl ⟨xs, s _ _ h⟩)
    · exact .inr (.inr ⟨xs, s _ _ h⟩)
theorem Odd.ty {K : PySem.W.Frag} {H : Hp} {x : V} (h : Odd H x) : ∃ t, TyX K H x t ∧ PySem.W.kitOne K t (.type "str") = some false := by
  rcases h with rfl | ⟨i, rfl⟩ | ⟨b, rfl⟩ | ⟨a, rfl, ⟨xs, h⟩ | ⟨xs, h⟩ | ⟨xs, h⟩⟩
  · exact ⟨_, .base .non, kit_ty (by decide +kernel)⟩
  · exact ⟨_, .base (.int i), kit_ty (by decide +kernel)⟩
  · exact ⟨_, .base (.bl b), kit_ty (by decide +kernel)⟩
  · exact ⟨_, .base (.lst h), kit_ty (by decide +kernel)⟩
  · exact ⟨_, .base (.tup h), kit_ty (by decide +kernel)⟩
  · exact ⟨_, .base (.dK h), kit_ty (by decide +kernel)⟩
end LH

namespace LH
open PySem PySem.Spec PyProof.Rows L2
/-! ### o[i] op= e of a list -/
def rGetL (K : PySem.W.Frag) : V → V → Hp → VK → Prop := fun o i H Q => ∃ p xs k v, o = .ref p ∧ i = .int k ∧ SqL K H p xs ∧ atI xs k = some v ∧ Q v H
theorem get_list {X : Cx} : PGet X (rGetL X.K) := by
  intro pins s σ H x y v u Q I rx ry h
  obtain ⟨p, xs, i, z, rfl, rfl, hq, he, q⟩ := h
  cases rx
  obtain ⟨t, rfl⟩ := ry
  obtain ⟨its, r, pl, hz⟩ := I.list hq
  obtain ⟨j, h1, h2, h3, h4, h5⟩ := atI_get he
  obtain ⟨w, ew, rw'⟩ := r.get h2
  have hl := r.length
  have hn := line63
  have fin : EP X pins σ Q w s := ⟨z, H, I, rw', q⟩
  by_cases h0 : 0 ≤ i
  · have hj : i.toNat = j := by
      rw [seqIndex_of h0 h5] at h1
      exact Option.some.inj h1
    exact wpAny_getItem_list pl.isList h0 (by omega) (by rw [hj]; simpa using ew) fin
  · have hj : (i + (its.toArray.size : Int)).toNat = j := by
      rw [seqIndex_neg (by omega) h4] at h1
      rw [List.size_toArray, ← hl]
      exact Option.some.inj h1
    exact wpAny_getItem_list_neg pl.isList (by omega) (by rw [List.size_toArray] <;> omega) (by omega) (by rw [hj]; simpa using ew) fin
theorem get_listK {X : Cx} (K : PySem.W.Frag) (h : X.K = K := by rfl) : PGet X (rGetL K) := h ▸ get_list
theorem ixN_last {α : Type} (xs : List α) (v : α) : ixN (xs ++ [v]).length (-1) = some xs.length := by
  have hl : (xs ++ [v]).length = xs.length + 1 := by simp
  unfold ixN
  rw [hl, if_neg (by decide), if_pos (by omega)]
  congr 1
  omega
theorem set_last {α : Type} (xs : List α) (v u : α) : (xs ++ [v]).set xs.length u = xs ++ [u] := by
  rw [List.set_append_right _ _ (Nat.le_refl _), Nat.sub_self]
  rfl
/-! ### small letters made great -/
def Sm (l : List Nat) : Prop := ∀ c ∈ l, 97 ≤ c ∧ c ≤ 122
def cap : List Nat → List Nat
  | [] => []
  | c :: r => (c - 32) :: r
theorem title_small {c : Nat} (h : 97 ≤ c ∧ c ≤ 122) : Unicode.titleOf c = [c - 32] := by
  have : ∀ d : Fin 26, Unicode.titleOf (97 + d.val) = [97 + d.val - 32] := by decide +kernel
  have e := this ⟨c - 97, by omega⟩
  rwa [show 97 + (c - 97) = c by omega] at e
theorem upper_small {c : Nat} (h : 97 ≤ c ∧ c ≤ 122) : Unicode.upperOf c = [c - 32] := by
  have : ∀ d : Fin 26, Unicode.upperOf (97 + d.val) = [97 + d.val - 32] := by decide +kernel
  have e := this ⟨c - 97, by omega⟩
  rwa [show 97 + (c - 97) = c by omega] at e
theorem lower_small {c : Nat} (h : 97 ≤ c ∧ c ≤ 122) : Unicode.lowerOf c = [c] := by
  have : ∀ d : Fin 26, Unicode.lowerOf (97 + d.val) = [97 + d.val] := by decide +kernel
  have e := this ⟨c - 97, by omega⟩
  rwa [show 97 + (c - 97) = c by omega] at e
theorem tl_placed (x : Str) (f : Nat → Nat → List Nat) : TL.tl ⟨placed x f⟩ = ((TL.tl x).mapIdx f).flatten := by
  unfold placed TL.tl
  simp only [Array.toList_flatten, Array.toList_mapIdx]
  congr 1
  apply List.ext_getElem?
  intro i
  rw [List.getElem?_map, List.getElem?_mapIdx, List.getElem?_mapIdx]
  cases x.cps.toList[i]? <;> rfl
theorem mapIdx_same {f g : Nat → Nat → List Nat} : ∀ l : List Nat, (∀ i c, l[i]? = some c → f i c = g i c) → l.mapIdx f = l.mapIdx g := fun l h => by
  apply List.ext_getElem?
  intro i
  rw [List.getElem?_mapIdx, List.getElem?_mapIdx]
  cases e : l[i]? with
  | none => rfl
  | some c => exact congrArg some (h i c e)
theorem flat_one : ∀ l : List Nat, (l.mapIdx fun _ c => [c]).flatten = l := by
  intro l
  rw [List.mapIdx_eq_zipIdx_map]
  induction l with
  | nil => rfl
  | cons c r ih =>
    have : ∀ (l : List Nat) (n : Nat), ((l.zipIdx n).map fun (p : Nat × Nat) => [p.1]).flatten = l := by
      intro l
      induction l with
      | nil => intro n; rfl
      | cons c r ih => intro n; rw [List.zipIdx_cons, List.map_cons, List.flatten_cons, ih]; rfl
    exact this _ 0
theorem cap_eq (x : Str) (h : Sm (TL.tl x)) : TL.tl (Txt.capitalize x) = cap (TL.tl x) := by
  unfold Txt.capitalize
  by_cases h0 : (x.length == 0) = true
  · rw [if_pos h0]
    have : TL.tl x = [] := by
      have e := eq_of_beq h0
      rw [TL.len_tl] at e
      exact List.length_eq_zero_iff.mp e
    rw [this]
    rfl
  · rw [if_neg h0]
    unfold Txt.capitalized
    rw [tl_placed, mapIdx_same (g := fun i c => if i = 0 then [c - 32] else [c]) _ fun i c hc => ?_]
    · cases e : TL.tl x with
      | nil => rfl
      | cons c r =>
        rw [List.mapIdx_cons, List.flatten_cons]
        show [c - 32] ++ _ = (c - 32) :: r
        have : (r.mapIdx fun i c => if i + 1 = 0 then [c - 32] else [c]) = r.mapIdx fun _ c => [c] := mapIdx_same r fun i c _ => if_neg (by omega)
        rw [this, flat_one]
        rfl
    · have hm := h c (List.mem_of_getElem? hc)
      by_cases hi : i = 0
      · subst hi
        exact title_small hm
      · have hb : (i == 0) = false := by simpa using hi
        rw [if_neg hi]
        show (if (i == 0) = true then Unicode.titleOf c else Unicode.lowerAt x.cps i) = [c]
        rw [hb, if_neg Bool.false_ne_true]
        unfold Unicode.lowerAt
        have ec : x.cps[i]? = some c := by rw [← hc]; exact Array.getElem?_toList.symm
        rw [ec]
        show (if (c == 0x3A3 && Unicode.endsWord x.cps i) = true then [0x3C2] else Unicode.lowerOf c) = [c]
        have hb2 : (c == 0x3A3) = false := by simp; omega
        rw [hb2, Bool.false_and, if_neg Bool.false_ne_true]
        exact lower_small hm
theorem upper_eq (x : Str) (h : Sm (TL.tl x)) : TL.tl (Txt.upper x) = (TL.tl x).map fun c => c - 32 := by
  unfold Txt.upper
  rw [tl_placed, mapIdx_same (g := fun _ c => [c - 32]) _ fun i c hc => upper_small (h c (List.mem_of_getElem? hc))]
  generalize TL.tl x = l
  have : (l.mapIdx fun _ c => [c - 32]) = (l.map fun c => c - 32).mapIdx fun _ c => [c] := by
    apply List.ext_getElem?
    intro i
    rw [List.getElem?_mapIdx, List.getElem?_mapIdx, List.getElem?_map]
    cases l[i]? <;> rfl
  rw [this, flat_one]
theorem upper_cap (x : Str) (h : Sm (TL.tl x)) : TL.tl (Txt.upper (cutS x none (some 1)) ++ cutS x (some 1) none) = cap (TL.tl x) := by
  have e1 : TL.tl (cutS x none (some 1)) = (TL.tl x).take 1 := by rw [show (1 : Int) = ((1 : Nat) : Int) from rfl, cutS_to]
  have e2 : TL.tl (cutS x (some 1) none) = (TL.tl x).drop 1 := by rw [show (1 : Int) = ((1 : Nat) : Int) from rfl, cutS_from]
  rw [TL.tl_append, upper_eq _ (by rw [e1]; exact fun c hc => h c (List.mem_of_mem_take hc)), e1, e2]
  cases TL.tl x with
  | nil => rfl
  | cons c r => simp [cap]
theorem cap_len (l : List Nat) : (cap l).length = l.length := by cases l <;> rfl
/-! ### words of a text -/
/-- a word's signs: none of them a blank -/
def WordL (l : List Nat) : Prop := l ≠ [] ∧ ∀ c ∈ l, 33 ≤ c ∧ c ≤ 126 ∧ c ≠ 37
theorem space_no {c : Nat} (h : 33 ≤ c ∧ c ≤ 126) : Unicode.isSpace c = false := by
  have : ∀ d : Fin 94, Unicode.isSpace (33 + d.val) = false := by decide +kernel
  have e := this ⟨c - 33, by omega⟩
  rwa [show 33 + (c - 33) = c by omega] at e
theorem words_join (ws : List Str) (h : ∀ x ∈ ws, WordL (TL.tl x)) (sp : Str) (hs : TL.tl sp = [32]) : Txt.words (Txt.join sp ws) = ws := by
  refine TL.map_tl_inj ?_
  rw [TL.words_tl, TL.join_eq, TL.tl_join, hs]
  cases ws with
  | nil => rfl
  | cons x r =>
    rw [TL.wfold_join _ _ (by simp) fun p hp => ?_, List.nil_append]
    obtain ⟨y, hy, rfl⟩ := List.mem_map.mp hp
    exact ⟨(h y hy).1, fun c hc => space_no ⟨((h y hy).2 c hc).1, ((h y hy).2 c hc).2.1⟩⟩
/-! ### joined by a sign and split there again -/
theorem splitL_app (s : Nat) (w r : List Nat) (hw : s ∉ w) : splitL s (w ++ s :: r) = w :: splitL s r := by
  induction w with
  | nil => simp [splitL]
  | cons c w ih =>
    have hc : c ≠ s := fun h => hw (by rw [h]; exact List.mem_cons_self)
    have ih' := ih fun h => hw (List.mem_cons_of_mem _ h)
    show splitL s (c :: (w ++ s :: r)) = _
    rw [splitL, if_neg hc, ih']
    rfl
theorem splitL_self (s : Nat) (w : List Nat) (hw : s ∉ w) : splitL s w = [w] := by
  induction w with
  | nil => rfl
  | cons c w ih =>
    have hc : c ≠ s := fun h => hw (by rw [h]; exact List.mem_cons_self)
    rw [splitL, if_neg hc, ih fun h => hw (List.mem_cons_of_mem _ h)]
    rfl
theorem splitL_join (s : Nat) : ∀ ps : List (List Nat), ps ≠ [] → (∀ p ∈ ps, s ∉ p) → splitL s (TL.joinL [s] ps) = ps
  | [], h, _ => absurd rfl h
  | [p], _, h => splitL_self s p (h p (by simp))
  | p :: q :: r, _, h => by
    rw [TL.joinL]
    show splitL s (p ++ s :: TL.joinL [s] (q :: r)) = _
    rw [splitL_app s p _ (h p (by simp)), splitL_join s (q :: r) (by simp) fun x hx => h x (List.mem_cons_of_mem _ hx)]
/-! ### a header's rows -/
def hstep (st : List (List Nat) × List Nat) (w : List Nat) : List (List Nat) × List Nat :=
  if 60 < st.2.length + 1 + w.length then (st.1 ++ [st.2], 32 :: w) else (st.1, st.2 ++ 32 :: w)
def great (l : List Nat) : List Nat := TL.joinL [45] ((splitL 45 l).map cap)
def hfold (l : List Nat) (ws : List (List Nat)) : List (List Nat) × List Nat := ws.foldl hstep ([], great l ++ [58])
def hrows (l : List Nat) (ws : List (List Nat)) : List (List Nat) := (hfold l ws).1 ++ [(hfold l ws).2]
def strL (ls : List (List Nat)) : List Str := ls.map fun l => ⟨l.toArray⟩
theorem strL_app (a b : List (List Nat)) : strL (a ++ b) = strL a ++ strL b := by unfold strL; rw [List.map_append]
theorem hfold_snoc (l : List Nat) (ws : List (List Nat)) (w : List Nat) : hfold l (ws ++ [w]) = hstep (hfold l ws) w := by
  unfold hfold
  rw [List.foldl_append]
  rfl
theorem foldl_rev_ind {P : List (List Nat) → Prop} (h0 : P []) (hs : ∀ ws w, P ws → P (ws ++ [w])) : ∀ ws, P ws := by
  intro ws
  have key : ∀ r : List (List Nat), P r.reverse := by
    intro r
    induction r with
    | nil => exact h0
    | cons w r ih => rw [List.reverse_cons]; exact hs _ _ ih
  have := key ws.reverse
  rwa [List.reverse_reverse] at this
theorem hfold_len (l : List Nat) (hl : (great l).length ≤ 59) : ∀ ws : List (List Nat), (∀ w ∈ ws, w.length ≤ 59) → (hfold l ws).2.length ≤ 60 ∧ (∀ r ∈ (hfold l ws).1, r.length ≤ 60) ∧ (hfold l ws).1.length ≤ ws.length := by
  refine foldl_rev_ind (P := fun ws => (∀ w ∈ ws, w.length ≤ 59) → (hfold l ws).2.length ≤ 60 ∧ (∀ r ∈ (hfold l ws).1, r.length ≤ 60) ∧ (hfold l ws).1.length ≤ ws.length) ?_ ?_
  · intro _
    refine ⟨?_, (fun r hr => by cases hr), Nat.le_refl _⟩
    show (great l ++ [58]).length ≤ 60
    rw [List.length_append, List.length_singleton]
    omega
  · intro ws w ih h
    obtain ⟨h1, h2, h3⟩ := ih fun x hx => h x (by simp [hx])
    have hw := h w (by simp)
    rw [hfold_snoc]
    unfold hstep
    split
    · refine ⟨by simp only [List.length_cons]; omega, fun r hr => ?_, by simp only [List.length_append, List.length_singleton]; omega⟩
      rcases List.mem_append.mp hr with hr | hr
      · exact h2 r hr
      · rw [List.mem_singleton.mp hr]; exact h1
    · refine ⟨by simp only [List.length_append, List.length_cons]; omega, h2, by simp only [List.length_append, List.length_singleton]; omega⟩
theorem hfold_ok (l : List Nat) (hl : ∀ c ∈ great l, c < 1114112) : ∀ ws : List (List Nat), (∀ w ∈ ws, ∀ c ∈ w, c < 1114112) → (∀ c ∈ (hfold l ws).2, c < 1114112) ∧ ∀ r ∈ (hfold l ws).1, ∀ c ∈ r, c < 1114112 := by
  refine foldl_rev_ind (P := fun ws => (∀ w ∈ ws, ∀ c ∈ w, c < 1114112) → (∀ c ∈ (hfold l ws).2, c < 1114112) ∧ ∀ r ∈ (hfold l ws).1, ∀ c ∈ r, c < 1114112) ?_ ?_
  · intro _
    refine ⟨fun c hc => ?_, fun r hr => by cases hr⟩
    rcases List.mem_append.mp (show c ∈ great l ++ [58] from hc) with h | h
    · exact hl c h
    · rw [List.mem_singleton.mp h]; decide
  · intro ws w ih h
    obtain ⟨h1, h2⟩ := ih fun x hx => h x (by simp [hx])
    have hw := h w (by simp)
    have hw' : ∀ c ∈ 32 :: w, c < 1114112 := fun c hc => by
      rcases List.mem_cons.mp hc with rfl | hc
      · decide
      · exact hw c hc
    rw [hfold_snoc]
    unfold hstep
    split
    · refine ⟨hw', fun r hr => ?_⟩
      rcases List.mem_append.mp hr with hr | hr
      · exact h2 r hr
      · rw [List.mem_singleton.mp hr]; exact h1
    · refine ⟨fun c hc => ?_, h2⟩
      rcases List.mem_append.mp hc with h | h
      · exact h1 c h
      · exact hw' c h
end LH

set_option maxHeartbeats 2000000
namespace LH
open PySem PySem.Spec PyProof.Rows L2
/-! ### an exception that is caught and held as a value -/
/-- the exception object at a: its class, its own dict -/
def ExH (cls : Value) (d : Option Addr) (a : Addr) : HO := .ext fun h => ∃ (oe : Obj) (fv : Array Value), h.get? a = some oe ∧ (oe.cls = cls ∧ oe.dict = d) ∧ oe.data = .fields fv
section
variable {X : Cx} {pins : List (Addr × Obj)} {σ : L2.St} {H : Hp} {s : Shared}
theorem hold_inv {a : Addr} {oe : Obj} {fv : Array Value} {cls : Value} {d : Option Addr} (I : Inv X pins σ H s) (ha : s.heap.get? a = some oe) (hz : Zc cls d oe) (hd : oe.data = .fields fv) (na : H a = none) (nL : a ≠ X.env.locals)
    (n0 : X.s_0.heap.get? a = none) (np : ∀ p ∈ X.pn ++ pins, p.1 ≠ a) : Inv X pins σ (upd H a (ExH cls d a)) s := by
  have far : ∀ {b : Addr} {u : HO}, H b = some u → b ≠ a := fun e => ne_of_none e na
  have old : ∀ {b : Addr} {o : Obj}, X.s_0.heap.get? b = some o → b ≠ a := fun {b o} e z => by
    subst z
    rw [n0] at e
    exact nomatch e
  have noCell : ∀ {y : Str} {c : Addr}, X.env.cells.lookup y = some c → c ≠ a := fun {y c} e z => by
    obtain ⟨v, o, ho, hv⟩ := I.cell y c e
    subst z
    rw [ha] at ho
    cases ho
    rw [hd] at hv
    exact nomatch hv
  have keepU : ∀ {b : Addr} {u : HO}, H b = some u → upd H a (ExH cls d a) b = some u := fun e => (upd_ne (far e)).trans e
  have base' : Un X.fs X.ex X.H_0 (upd H a (ExH cls d a)) X.s_0.heap s.heap :=
    { keep := I.base.keep, slot := I.base.slot, there := I.base.there, free := fun b o e n hx => (upd_ne (old e)).trans (I.base.free b o e n hx), tups := fun b xs e => keepU (I.base.tups b xs e), frzs := fun b o u e => keepU (I.base.frzs b o u e),
      tbls := fun b ps e => (I.base.tbls b ps e).imp fun _ q => keepU q }
  have hok' : HOk X.prog X.w (upd H a (ExH cls d a)) s.heap := fun b ob e => by
    by_cases hb : b = a
    · subst hb
      rw [upd_same] at e
      cases e
      exact ⟨⟨oe, fv, ha, hz, hd⟩, ⟨oe, ha⟩, fun _ _ ⟨o, v, q, r⟩ k => ⟨o, v, k o q, r⟩⟩
    · rw [upd_ne hb] at e
      exact (I.hok b ob e).stay (fun _ _ _ q => q) (fun _ q => keepU q) fun _ _ q => keepU q
  exact { ok := I.ok, os := I.os, bare := I.bare, base := base', loc := I.loc, cell := I.cell, free := (upd_ne (Ne.symm nL)).trans I.free, freeC := fun y c e => (upd_ne (noCell e)).trans (I.freeC y c e),
          pin := fun p hp => ⟨(I.pin p hp).1, (upd_ne (np p hp)).trans (I.pin p hp).2.1, (I.pin p hp).2.2⟩, hok := hok', len := I.len }
/-- what such a clause wishes of the body's exception: it is of the class, and the suite's end stands with the object held -/
def wHold (K : PySem.W.Frag) (c : Value) (i : Nat) (ts : TS) (D : Ends) : WX := fun cls d σ H =>
  PySem.W.exmOne K cls c = some true ∧ ∀ a, H a = none → ts { nx := fun σ' H' => H' a = none → D.nx (σ'.set i none) (upd H' a (ExH cls d a)), rt := fun _ _ => False, bk := fun _ _ => False, ct := fun _ _ => False } (σ.set i (some (.ref a))) H
theorem ps_try_hold {x n : Str} {c : Value} {i : Nat} {body rest : List Stmt} {b0 : Stmt} {np pos pos' : Pos} {tb : WX → TS} {ts : TS} (hs : X.stack = X.env :: X.outer) (hf : X.env.frame = some X.env.locals) (hx : X.ex = []) (hN : X.N.Nodup) (hi : X.N[i]? = some n)
    (hln : X.env.kindOf n = some .local) (hc : Names X x c) (hb : ∀ (W : WX) (pn : List (Addr × Obj)) (xe : Value → Shared → Prop), Takes (X.tr pn xe) W → PassesOwn (model X.prog X.w) X.A X.env xe → PSs (X.tr pn xe) body (tb W))
    (hsu : ∀ (a : Addr) (oe : Obj) (pn : List (Addr × Obj)), PSs (X.suite a ((a, oe) :: pn)) (b0 :: rest) ts) :
    PS X (.Try body [.ExceptHandler (some (.Name x np)) (some n) (b0 :: rest) pos'] [] [] pos) (fun D σ H => tb (wHold X.K c i ts D) D σ H) := by
  constructor
  intro pins s σ H D I h
  have hok := I.ok
  have hframes : X.A.frames = some (X.env :: X.outer) := hok.frames.trans (by rw [hs])
  apply wpAny_Try_except
  refine wpAny_mono (PSs.run (hb (wHold X.K c i ts D) (X.pn ++ pins) _ (fun u s' air => ?_) PassesOwn.looking) [] s σ H D (I.toTry _) h) (fun f s1 done => ?_) (fun _ _ z => z)
  · -- an exception is in the air
    obtain ⟨a, B, sI, pins', σ1, H1, cls, d, rfl, J1, nb, up, sky, na, os, ag, fits, wish⟩ := air
    have J : Inv X pins σ1 H1 sI := Inv.ofTry J1 hok
    refine Sky.land (Z := Zc cls d) Zc.steady hframes hf (by rw [hs] at sky; exact sky) fun g fly upg => ?_
    have Jg : Inv X pins σ1 H1 { s' with heap := g } := Inv.landed J nb fly.1 (Heap.UpToSlots.trans up upg) os ag
    obtain ⟨og, fg, hog, zg, dg⟩ := HandSPX.FlyingZ.there fly
    have offFrames : a ∉ frs (X.env :: X.outer) := fun hm => by
      obtain ⟨_, o', e', hno⟩ := fly.2.2.1.mem hm
      rw [hog] at e'
      cases e'
      exact hno _ dg
    have offLocals : a ≠ X.env.locals := fun z => offFrames (List.mem_filterMap.mpr ⟨X.env, by simp, by rw [hf, z]⟩)
    have offFs : a ∉ X.fs := fun hm => by
      obtain ⟨ev, hev, q⟩ := List.mem_filterMap.mp hm
      exact offFrames (List.mem_filterMap.mpr ⟨ev, List.mem_cons_of_mem _ hev, q⟩)
    have gone : sI.heap.get? a = none := by
      cases e : sI.heap.get? a with
      | none => rfl
      | some o => exact absurd ((nb a o e (by rw [hs]; exact offFrames)).symm.trans fly.2.1) (fun z => nomatch z)
    have new0 : X.s_0.heap.get? a = none := by
      cases e : X.s_0.heap.get? a with
      | none => rfl
      | some o =>
        obtain ⟨o', e'⟩ := J.base.there a o e (by rw [hx]; exact List.not_mem_nil)
        rw [gone] at e'
        exact nomatch e'
    have offPins : ∀ p ∈ X.pn ++ pins, p.1 ≠ a := fun p hp z => by
      have e' := (J.pin p hp).1
      rw [z, gone] at e'
      exact nomatch e'
    have Sg := Inv.suite Jg hog dg na offLocals offFs
    refine wpAny_handleBy_cons (codeAny_handlers_test ?_) (fun q => nomatch q)
    have seen := PySem.W.exm_one (M := model X.prog X.w) Jg.kIn (fun A' Q' E' t k q => wpAny_typeOf_ref (k _ _ hog) (by rw [zg.1]; exact q)) fits
    have named : ∀ {Q : Value → Shared → Prop} {E : Value → Shared → Prop}, Q c { s' with heap := g } → wpAny (model X.prog X.w) (X.A.mark (some (.ref a))) (eval (.Name x np) X.env) Q E { s' with heap := g } := fun {Q E} q => by
      rcases hc with ⟨hg, hdbg, hm | ⟨hm, hv, hnn⟩⟩
      · exact ld_glob (X := X.suite a ((a, og) :: (X.pn ++ pins))) Sg hg hm q hdbg
      · exact ld_blt (X := X.suite a ((a, og) :: (X.pn ++ pins))) Sg hg hm hv q hnn hdbg
    refine named (seen.here (codeAny_handlers_suite_as (HandSPX.lands_againZ fly fun k flk upk => ?_)))
    have Jk : Inv X pins σ1 H1 { s' with heap := k } := Inv.landed J nb flk.1 (Heap.UpToSlots.trans (Heap.UpToSlots.trans up upg) upk) os ag
    obtain ⟨ok', fk, hok4, zk, dk⟩ := HandSPX.FlyingZ.there flk
    have Sk := Inv.suite Jk hok4 dk na offLocals offFs
    refine store_ok (X := X.suite a ((a, ok') :: (X.pn ++ pins))) (v := .ref a) Sk hN hi (.inl hln) rfl (fun t St' => ?_) (.inr hln)
    refine wpAny_mono ((hsu a ok' (X.pn ++ pins)).run [] t _ H1 _ St' (wish a na)) (fun fl t1 end1 => ?_) (fun _ _ z => z.elim)
    cases fl with
    | next =>
      obtain ⟨σ2, H2, S2, q2⟩ := end1
      refine gone_ok (X := X.suite a ((a, ok') :: (X.pn ++ pins))) S2 hN hi hln fun t2 S3 => ?_
      obtain ⟨e3, n3, _⟩ := S3.pin (a, ok') (by simp)
      exact ⟨_, _, hold_inv (Inv.unsuite S3 hok) e3 zk dk n3 offLocals new0 offPins, q2 n3⟩
    | brk => obtain ⟨_, _, _, q2⟩ := end1; exact q2.elim
    | cont => obtain ⟨_, _, _, q2⟩ := end1; exact q2.elim
    | ret u => obtain ⟨_, _, _, _, _, q2⟩ := end1; exact q2.elim
  · -- nothing was raised
    cases f with
    | next => obtain ⟨σ1, H1, J1, q⟩ := done; exact wpAny_execs_nil ⟨σ1, H1, Inv.ofTry J1 hok, q⟩
    | brk => obtain ⟨σ1, H1, J1, q⟩ := done; exact ⟨σ1, H1, Inv.ofTry J1 hok, q⟩
    | cont => obtain ⟨σ1, H1, J1, q⟩ := done; exact ⟨σ1, H1, Inv.ofTry J1 hok, q⟩
    | ret u => obtain ⟨v, σ1, H1, J1, r, q⟩ := done; exact ⟨v, σ1, H1, Inv.ofTry J1 hok, r, q⟩
end
end LH
namespace LH
open PySem PySem.Spec PyProof.Rows L2
/-! ### isinstance of a held exception; a walk over pairs -/
theorem getD_app_l {α : Type} (xs ys : List α) (d : α) {i : Nat} (h : i < xs.length) : (xs ++ ys).getD i d = xs.getD i d := by
  rw [List.getD_eq_getElem?_getD, List.getD_eq_getElem?_getD, List.getElem?_append_left h]
theorem getD_app_r {α : Type} (xs ys : List α) (d : α) {i : Nat} (h : xs.length ≤ i) : (xs ++ ys).getD i d = ys.getD (i - xs.length) d := by
  rw [List.getD_eq_getElem?_getD, List.getD_eq_getElem?_getD, List.getElem?_append_right h]
/-- isinstance(e, c), e a held exception of the class at D without an own dict -/
def rIsH (K : PySem.W.Frag) : List V → Hp → VK → Prop := fun xs H Q => ∃ (a D : Addr) (c : V) (cv : Value) (b : Bool), xs = [.ref a, c] ∧ H a = some (ExH (.ref D) none a) ∧ ExcC K D ∧ (∀ u, RelV c u → u = cv) ∧ PySem.W.kitOne K (.ref D) cv = some b ∧ Q (.bl b) H
theorem call_isH {X : Cx} : CallR X (.builtin "isinstance") (rIsH X.K) := by
  intro pins s σ H xs us Q I r h
  obtain ⟨a, D, c, cv, b, rfl, ha, C, hcv, e, q⟩ := h
  obtain ⟨u1, u2, rfl, r1, r2⟩ := vals2 r
  cases (show u1 = Value.ref a from r1)
  obtain rfl := hcv _ r2
  obtain ⟨⟨oe, fv, hget, ⟨h1, h2⟩, h3⟩, _, _⟩ := (show ObjOk X.prog X.w H s.heap a (ExH (.ref D) none a) from I.hok a _ ha)
  have J : PySem.W.InstAt s.heap a oe D none := by
    obtain ⟨oc, od, oda, osl⟩ := oe
    dsimp only at h1 h2 h3
    subst h1 h2 h3
    exact ⟨hget, rfl, rfl, trivial⟩
  exact PySem.W.kia_one (PySem.W.handS_kitx_exc C.hg C.hk C.hs C.hd C.ha C.hn C.ht C.hm) I.kIn J e (fun z => nomatch z) fun tk => ⟨.bl b, H, I.kept (t' := tk) fun _ _ z => z, rfl, q⟩
theorem cIsH {X : Cx} (K : PySem.W.Frag) (h : X.K = K := by rfl) : CallR X (.builtin "isinstance") (rIsH K) := h ▸ call_isH
/-- a comprehension with a test over a list of pairs (tuples that stand), its element f i -/
theorem lc_pairs {K : PySem.W.Frag} {a : Addr} {ts : List Addr} {ps : Nat → V × V} {tt : TT} {te : TE} {c1 c2 : Nat} {σ : L2.St} {H1 : Hp} {D : Addr} {Qd : Hp → Prop} (f : Nat → V) (b : Nat → Bool) (hne : c1 ≠ c2) (hL : SqL K H1 a (ts.map V.ref)) (hT : ∀ i, i < ts.length → SqT K H1 (ts.getD i 0) [(ps i).1, (ps i).2])
    (hD : H1 D = none) (hn : ts.length ≤ sizeLine)
    (ht : ∀ (i : Nat) (H : Hp) (Q : Bool → Hp → Prop), i < ts.length → Same H1 H → (∀ H', Same H H' → Q (b i) H') → tt ((((σ.set c2 none).set c1 none).set c1 (some (ps i).1)).set c2 (some (ps i).2)) H Q)
    (he : ∀ i H Q, i < ts.length → Same H1 H → b i = true → Tell H (f i) Q → te ((((σ.set c2 none).set c1 none).set c1 (some (ps i).1)).set c2 (some (ps i).2)) H Q)
    (hd : ∀ H, Same H1 H → H D = some (.lst (((List.range ts.length).filter b).map f)) → Qd H) :
    ∃ W : Nat → Nat → Hp → Prop, (∃ m, W 0 m (upd H1 D (.lst []))) ∧ ∀ i m H, W i m H →
      ((Itl K a).stop i H ∧ Qd H) ∨ ((Itl K a).go i H ∧ ∃ Nx : Hp → Prop, (∀ H', Nx H' → ∃ m', m' < m ∧ W (i + 1) m' H') ∧ ∀ x H', (Itl K a).yld i H x H' → gTup K 2 (gCons (gName c1) (gCons (gName c2) gNil)) x (wipe σ [c1, c2]) H' fun σ2 H2 => wipe σ2 [c1, c2] = wipe σ [c1, c2] ∧ tt σ2 H2 fun b H3 =>
        if b = true then te σ2 H3 fun y H4 => ∃ acc, H4 D = some (.lst acc) ∧ acc.length < sizeLine ∧ Nx (upd H4 D (.lst (acc ++ [y]))) else Nx H3) := by
  have hm : (ts.map V.ref).length = ts.length := List.length_map ..
  refine lc_it walk_list (fun i H => Same H1 H ∧ H D = some (.lst (((List.range i).filter b).map f))) ⟨same_upd hD, upd_same⟩ (fun i H _ h => h.1.seq hL) (fun i x H H' hi hP hy => ?_) (fun H h => hd H h.1 (by rw [← hm]; exact h.2))
  obtain ⟨sm, eD⟩ := hP
  obtain ⟨rfl, hx⟩ := hy
  rw [hm] at hi
  rw [List.getElem?_map, List.getElem?_eq_getElem hi] at hx
  obtain rfl := Option.some.inj hx
  have hTi := hT i hi
  rw [List.getD_eq_getElem?_getD, List.getElem?_eq_getElem hi] at hTi
  refine ⟨ts[i], _, rfl, seqT sm hTi, rfl, _, _, rfl, _, _, rfl, rfl, ?_, ?_⟩
  · show (((((σ.set c2 none).set c1 none).set c1 (some (ps i).1)).set c2 (some (ps i).2)).set c2 none).set c1 none = (σ.set c2 none).set c1 none
    rw [List.set_set, List.set_set, List.set_comm _ _ hne, List.set_set, List.set_comm _ _ hne.symm, List.set_comm _ _ hne, List.set_set]
  · refine ht i H' _ hi sm fun H2 s2 => ?_
    cases hb : b i with
    | true =>
      rw [if_pos rfl]
      refine he i H2 _ hi (sm.trans s2) hb fun H3 s3 => ⟨_, s3 _ _ (s2 _ _ eD), ?_, ?_, ?_⟩
      · rw [List.length_map]
        have := List.length_filter_le b (List.range i)
        rw [List.length_range] at this
        omega
      · intro b' o hb'
        rw [upd_ne (ne_of_none hb' hD)]
        exact s3 _ _ (s2 _ _ (sm _ _ hb'))
      · rw [upd_same, List.range_succ, List.filter_append, List.map_append]
        simp [hb]
    | false =>
      rw [if_neg Bool.false_ne_true]
      refine ⟨sm.trans s2, ?_⟩
      rw [s2 _ _ eD, List.range_succ, List.filter_append, List.map_append]
      simp [hb]
end LH
namespace LH
open PySem PySem.Spec PyProof.Rows L2
section
variable {P : Program} {w : World} {K : PySem.W.Frag} {mg : Str → Option Value} {base : Heap} {k : Nat} {f : Addr} {fd : FuncData} {ps : List Str} {sp sp' : Sp} {CX : CXT}
/-- what lets nothing out may stand where something may be let out -/
theorem fn_toX (F : FnOk P w K mg base CX0 k f fd ps sp) : FnOk P w K mg base CX k f fd ps sp :=
  ⟨F.len, fun A outer s H args us vs Q E hr he hb hv hs => codeAny_mono (F.run A outer s H args us vs Q E hr he hb hv hs) fun r s' h => by
    cases r with
    | ok r => cases r <;> exact h
    | error e => exact h.elim⟩
/-- two promises of one def -/
theorem fn_or (F : FnOk P w K mg base CX k f fd ps sp) (G : FnOk P w K mg base CX k f fd ps sp') : FnOk P w K mg base CX k f fd ps (fun vs H Q E => sp vs H Q E ∨ sp' vs H Q E) :=
  ⟨fun vs H Q E h => h.elim (F.len vs H Q E) (G.len vs H Q E), fun A outer s H args us vs Q E hr he hb hv hs => hs.elim (F.run A outer s H args us vs Q E hr he hb hv) (G.run A outer s H args us vs Q E hr he hb hv)⟩
end
end LH

namespace LH
open PySem PySem.Spec PyProof.Rows L2
/-! ### small letters of great ones -/
def lowC (c : Nat) : Nat := if 65 ≤ c ∧ c ≤ 90 then c + 32 else c
theorem lower_C {c : Nat} (h : c < 128) : Unicode.lowerOf c = [lowC c] := by
  have : ∀ d : Fin 128, Unicode.lowerOf d.val = [lowC d.val] := by decide +kernel
  exact this ⟨c, h⟩
theorem lower_eq (x : Str) (h : ∀ c ∈ TL.tl x, c < 128) : TL.tl (Txt.lower x) = (TL.tl x).map lowC := by
  unfold Txt.lower
  rw [tl_placed, mapIdx_same (g := fun _ c => [lowC c]) _ fun i c hc => ?_]
  · generalize TL.tl x = l
    have : (l.mapIdx fun _ c => [lowC c]) = (l.map lowC).mapIdx fun _ c => [c] := by
      apply List.ext_getElem?
      intro i
      rw [List.getElem?_mapIdx, List.getElem?_mapIdx, List.getElem?_map]
      cases l[i]? <;> rfl
    rw [this, flat_one]
  · have hm := h c (List.mem_of_getElem? hc)
    unfold Unicode.lowerAt
    have ec : x.cps[i]? = some c := by rw [← hc]; exact Array.getElem?_toList.symm
    rw [ec]
    show (if (c == 0x3A3 && Unicode.endsWord x.cps i) = true then [0x3C2] else Unicode.lowerOf c) = [lowC c]
    have hb2 : (c == 0x3A3) = false := by simp; omega
    rw [hb2, Bool.false_and, if_neg Bool.false_ne_true]
    exact lower_C hm
theorem low_small {c : Nat} (h : 97 ≤ c ∧ c ≤ 122) : lowC c = c := by
  unfold lowC
  rw [if_neg (by omega)]
theorem low_cap : ∀ l : List Nat, Sm l → (cap l).map lowC = l
  | [], _ => rfl
  | c :: r, h => by
    have hc := h c (by simp)
    show lowC (c - 32) :: r.map lowC = c :: r
    have e : lowC (c - 32) = c := by unfold lowC; rw [if_pos (by omega)]; omega
    have er : r.map lowC = r := by
      have : ∀ l : List Nat, Sm l → l.map lowC = l := by
        intro l
        induction l with
        | nil => intro _; rfl
        | cons d r ih => intro h; rw [List.map_cons, low_small (h d (by simp)), ih fun x hx => h x (by simp [hx])]
      exact this r fun x hx => h x (by simp [hx])
    rw [e, er]
theorem joinL_map (f : Nat → Nat) (S : List Nat) : ∀ ps : List (List Nat), (TL.joinL S ps).map f = TL.joinL (S.map f) (ps.map fun p => p.map f)
  | [] => rfl
  | [p] => rfl
  | p :: q :: r => by
    have ih := joinL_map f S (q :: r)
    rw [TL.joinL, List.map_append, List.map_append, ih]
    rfl
theorem joinL_split (s : Nat) : ∀ l : List Nat, TL.joinL [s] (splitL s l) = l
  | [] => rfl
  | c :: r => by
    have ih := joinL_split s r
    have e := splitL_eta s r
    unfold splitL
    by_cases h : c = s
    · rw [if_pos h]
      generalize splitL s r = w at *
      cases w with
      | nil => exact nomatch e
      | cons x t =>
        rw [TL.joinL, ih, h]
        rfl
    · rw [if_neg h]
      generalize splitL s r = w at *
      cases w with
      | nil => exact nomatch e
      | cons x t =>
        show TL.joinL [s] ((c :: x) :: t) = c :: r
        rw [← ih]
        cases t with
        | nil => rfl
        | cons y t => rw [TL.joinL, TL.joinL]; rfl
theorem low_great {l : List Nat} (h : ∀ x ∈ splitL 45 l, Sm x) : (great l).map lowC = l := by
  unfold great
  rw [joinL_map, List.map_map]
  have e : (splitL 45 l).map ((fun p => p.map lowC) ∘ cap) = splitL 45 l := by
    have : ∀ ws : List (List Nat), (∀ x ∈ ws, Sm x) → ws.map ((fun p => p.map lowC) ∘ cap) = ws := by
      intro ws
      induction ws with
      | nil => intro _; rfl
      | cons x r ih => intro h; rw [List.map_cons, ih fun y hy => h y (by simp [hy])]; exact congrArg (· :: r) (low_cap x (h x (by simp)))
    exact this _ h
  rw [e]
  exact joinL_split 45 l
theorem great_length {l : List Nat} (h : ∀ x ∈ splitL 45 l, Sm x) : (great l).length = l.length := by
  have := congrArg List.length (low_great h)
  rwa [List.length_map] at this
/-! ### the beginning of a row that may be a name -/
def isLet (c : Nat) : Bool := (decide (97 ≤ c) && decide (c ≤ 122)) || (decide (65 ≤ c) && decide (c ≤ 90))
def nsig : Nat → Nat → List Nat → Nat
  | _, _, [] => 0
  | w, k, c :: r => if c = 45 ∧ 0 < k ∧ w < 3 then 1 + nsig (w + 1) 0 r else if isLet c = true ∧ k < 8 then 1 + nsig w (k + 1) r else 0
theorem let_no_dash {c : Nat} (h : isLet c = true) : c ≠ 45 ∧ c ≠ 58 ∧ c < 128 := by
  unfold isLet at h
  simp only [Bool.or_eq_true, Bool.and_eq_true, decide_eq_true_eq] at h
  omega
theorem nsig_word : ∀ (p r : List Nat) (w k : Nat), (∀ c ∈ p, isLet c = true) → k + p.length ≤ 8 → nsig w k (p ++ r) = p.length + nsig w (k + p.length) r
  | [], r, w, k, _, _ => by simp
  | c :: p, r, w, k, h, hl => by
    have hc := h c (by simp)
    have hd := let_no_dash hc
    rw [List.length_cons] at hl
    rw [List.cons_append, nsig, if_neg (fun z => hd.1 z.1), if_pos ⟨hc, by omega⟩, nsig_word p r w (k + 1) (fun x hx => h x (by simp [hx])) (by omega), List.length_cons, show k + 1 + p.length = k + (p.length + 1) by omega]
    omega
theorem nsig_join (r : List Nat) : ∀ (ps : List (List Nat)) (w : Nat), ps ≠ [] → w + ps.length ≤ 4 → (∀ p ∈ ps, (∀ c ∈ p, isLet c = true) ∧ 1 ≤ p.length ∧ p.length ≤ 8) → nsig w 0 (TL.joinL [45] ps ++ 58 :: r) = (TL.joinL [45] ps).length
  | [], _, h, _, _ => absurd rfl h
  | [p], w, _, _, h => by
    have hp := h p (by simp)
    show nsig w 0 (p ++ 58 :: r) = p.length
    rw [nsig_word p _ w 0 hp.1 (by omega), nsig, if_neg (fun z => absurd z.1 (by decide)), if_neg (fun z => absurd z.1 (by decide))]
    rfl
  | p :: q :: t, w, _, hl, h => by
    have hp := h p (by simp)
    rw [List.length_cons, List.length_cons] at hl
    have ih := nsig_join r (q :: t) (w + 1) (by simp) (by rw [List.length_cons]; omega) fun x hx => h x (List.mem_cons_of_mem _ hx)
    rw [TL.joinL, List.append_assoc, nsig_word p _ w 0 hp.1 (by omega)]
    show p.length + nsig w (0 + p.length) (45 :: (TL.joinL [45] (q :: t) ++ 58 :: r)) = (p ++ 45 :: TL.joinL [45] (q :: t)).length
    rw [nsig, if_pos ⟨rfl, by omega, by omega⟩, ih, List.length_append, List.length_cons]
    omega
/-! ### words each behind a blank -/
def spw (us : List (List Nat)) : List Nat := (us.map fun u => 32 :: u).flatten
theorem spw_app (a b : List (List Nat)) : spw (a ++ b) = spw a ++ spw b := by unfold spw; rw [List.map_append, List.flatten_append]
theorem spw_join (u : List Nat) : ∀ us : List (List Nat), spw (u :: us) = 32 :: TL.joinL [32] (u :: us)
  | [] => by simp [spw, TL.joinL]
  | v :: us => by
    have ih := spw_join v us
    have e : spw (u :: v :: us) = (32 :: u) ++ spw (v :: us) := by unfold spw; rw [List.map_cons, List.flatten_cons]
    rw [e, ih, TL.joinL]
    rfl
theorem words_spw (x : Str) (us : List (List Nat)) (hx : TL.tl x = spw us) (h : ∀ u ∈ us, WordL u) : (Txt.words x).map TL.tl = us := by
  rw [TL.words_tl, hx]
  cases us with
  | nil => rfl
  | cons u us =>
    rw [spw_join, List.foldl_cons]
    have e : TL.wstep ([], []) 32 = ([], []) := by
      unfold TL.wstep
      rw [if_pos (by decide +kernel), if_pos rfl]
    rw [e, TL.wfold_join _ _ (by simp) fun p hp => ⟨(h p hp).1, fun c hc => space_no ⟨((h p hp).2 c hc).1, ((h p hp).2 c hc).2.1⟩⟩, List.nil_append]
/-! ### a header's rows by their words -/
/-- the rows of a header: its first words behind the name, then rows of at least one word -/
def rowsBy (l : List Nat) (us0 : List (List Nat)) (uss : List (List (List Nat))) : List (List Nat) := (great l ++ 58 :: spw us0) :: uss.map spw
theorem hrows_by (l : List Nat) : ∀ ws : List (List Nat), ∃ us0 uss, hrows l ws = rowsBy l us0 uss ∧ us0 ++ uss.flatten = ws ∧ ∀ us ∈ uss, us ≠ [] := by
  refine foldl_rev_ind (P := fun ws => ∃ us0 uss, hrows l ws = rowsBy l us0 uss ∧ us0 ++ uss.flatten = ws ∧ ∀ us ∈ uss, us ≠ []) ⟨[], [], rfl, rfl, fun _ h => by cases h⟩ ?_
  rintro ws w ⟨us0, uss, e, ew, hne⟩
  unfold hrows at e ⊢
  rw [hfold_snoc]
  generalize hfold l ws = st at *
  obtain ⟨d, c⟩ := st
  unfold hstep
  by_cases h : 60 < c.length + 1 + w.length
  · rw [if_pos h]
    refine ⟨us0, uss ++ [[w]], ?_, ?_, ?_⟩
    · show (d ++ [c]) ++ [32 :: w] = _
      have e' : d ++ [c] = rowsBy l us0 uss := e
      rw [e']
      unfold rowsBy
      rw [List.map_append]
      simp [spw]
    · rw [List.flatten_append, ← List.append_assoc, ew]; simp
    · intro us hus
      rcases List.mem_append.mp hus with h | h
      · exact hne us h
      · rw [List.mem_singleton.mp h]; simp
  · rw [if_neg h]
    have e' : d ++ [c] = rowsBy l us0 uss := e
    rcases List.eq_nil_or_concat uss with rfl | ⟨t, u, rfl⟩
    · refine ⟨us0 ++ [w], [], ?_, ?_, fun _ h => by cases h⟩
      · show d ++ [c ++ 32 :: w] = _
        unfold rowsBy at e' ⊢
        have hd : d = [] := by
          cases d with
          | nil => rfl
          | cons x r => have := congrArg List.length e'; simp at this
        subst hd
        have hc : c = great l ++ 58 :: spw us0 := by simpa using e'
        rw [hc, spw_app]
        simp [spw]
      · rw [← ew]; simp
    · refine ⟨us0, t ++ [u ++ [w]], ?_, ?_, ?_⟩
      · show d ++ [c ++ 32 :: w] = _
        unfold rowsBy at e' ⊢
        rw [List.concat_eq_append, List.map_append, List.map_singleton, ← List.cons_append] at e'
        have h1 := List.append_inj' e' rfl
        have hc : c = spw u := by simpa using h1.2
        rw [List.map_append, List.map_singleton, ← List.cons_append, ← h1.1, hc, spw_app]
        simp [spw]
      · rw [← ew]; simp
      · intro us hus
        rcases List.mem_append.mp hus with h | h
        · exact hne us (by simp [h])
        · rw [List.mem_singleton.mp h]; simp
/-! ### one sign at a text's head -/
theorem starts_one (x y : Str) (s : Nat) (hy : TL.tl y = [s]) : Txt.startswith x y = decide ((TL.tl x)[0]? = some s) := by
  unfold Txt.startswith
  have hyl : y.length = 1 := by rw [TL.len_tl, hy]; rfl
  rw [PySem.StrLaws.subAt_eq, hyl, Bool.eq_iff_iff, Bool.and_eq_true, decide_eq_true_eq, decide_eq_true_eq]
  rw [show x.cps.toList = TL.tl x from rfl, show y.cps.toList = TL.tl y from rfl, hy, List.drop_zero, TL.len_tl]
  cases TL.tl x with
  | nil => simp
  | cons c r => simp
end LH

namespace LH
open PySem PySem.Spec PyProof.Rows L2
/-! ### a text parted at a sign -/
theorem part_at (x y : Str) (c : Nat) (p r : List Nat) (hy : TL.tl y = [c]) (hx : TL.tl x = p ++ c :: r) (hp : c ∉ p) : TL.tl (Txt.partition x y).1 = p ∧ TL.tl (Txt.partition x y).2.2 = r := by
  obtain rfl : y = ⟨#[c]⟩ := TL.ext_tl hy
  have hm0 : x.cps.toList[p.length]? = some c := by
    show (TL.tl x)[p.length]? = some c
    rw [hx]; simp
  have hn0 : ∀ k, k < p.length → x.cps.toList[k]? ≠ some c := fun k hk e => by
    have e' : (TL.tl x)[k]? = some c := e
    rw [hx, List.getElem?_append_left hk] at e'
    exact hp (List.mem_of_getElem? e')
  have hlen : x.length = p.length + (r.length + 1) := by rw [TL.len_tl, hx, List.length_append, List.length_cons]
  unfold Txt.partition
  rcases StrLaws.occ_head x ⟨#[c]⟩ 1 (Nat.le_refl 1) with ⟨h0, hn⟩ | ⟨i, q, h0, hi, hn⟩
  · exact absurd ((StrLaws.subAt_one x c p.length).mpr hm0) (hn _)
  · rw [h0]
    have hm := (StrLaws.subAt_one x c i).mp hi
    have e : i = p.length := by
      rcases Nat.lt_trichotomy i p.length with h | h | h
      · exact absurd hm (hn0 i h)
      · exact h
      · exact absurd ((StrLaws.subAt_one x c p.length).mpr hm0) (hn _ h)
    subst e
    constructor
    · show (Builtin.Str.strSub x 0 p.length).cps.toList = p
      rw [StrLaws.strSub_toList]
      show ((TL.tl x).drop 0).take (p.length - 0) = p
      rw [hx]; simp
    · show (Builtin.Str.strSub x (p.length + 1) x.length).cps.toList = r
      rw [StrLaws.strSub_toList]
      show ((TL.tl x).drop (p.length + 1)).take (x.length - (p.length + 1)) = r
      rw [hx, hlen, show p.length + 1 = p.length + 1 from rfl, List.drop_append, List.drop_of_length_le (by omega)]
      simp
      rw [List.take_of_length_le (by omega)]
theorem part_lens (x y : Str) : (Txt.partition x y).1.length ≤ x.length ∧ (Txt.partition x y).2.2.length ≤ x.length := ⟨(fact_partition x y).1, (fact_partition x y).2.2⟩
/-- str.join inside a comprehension's block -/
theorem pe_joinK {X : Cx} {o e : Expr} {to te : TE} (K : PySem.W.Frag) {apos pos : Pos} (ho : PE X o to) (he : PE X e te) (h : X.K = K := by rfl) (hs : starEach [e] X.env = [(false, eval e X.env)] := by rfl) (hbase : attributeBase o "join" X.env (eval o X.env) = eval o X.env := by rfl) (hline : (apos.endLine == pos.line) = true := by rfl) :
    PE X (.Call (.Attribute o "join" apos) [e] [] pos) (tM1 (fun x xs H Q => ∃ a p, ∃ ys : List Str, x = .str a ∧ xs = [.ref p] ∧ (SqL K H p (ys.map V.str) ∨ SqT K H p (ys.map V.str)) ∧
      (ys.map (·.length)).sum + ys.length * a.length ≤ 16777216 ∧ Q (.str (Txt.join a ys)) H) to te) := by
  subst h
  exact pe_join ho he hs hbase hline
/-! ### a comprehension over a list of pairs that tells a new tuple of each -/
theorem lc_tups {K : PySem.W.Frag} {a : Addr} {ts : List Addr} {ps : Nat → V × V} {te : TE} {c1 c2 : Nat} {σ : L2.St} {H1 : Hp} {D : Addr} {Qd : Hp → Prop} (g : Nat → List V) (hne : c1 ≠ c2) (hL : SqL K H1 a (ts.map V.ref)) (hT : ∀ i, i < ts.length → SqT K H1 (ts.getD i 0) [(ps i).1, (ps i).2])
    (hD : H1 D = none) (hn : ts.length ≤ sizeLine)
    (he : ∀ i H Q, i < ts.length → Same H1 H → (∀ p H', Same H H' → H p = none → H' p = some (.tup (g i)) → Q (.ref p) H') → te ((((σ.set c2 none).set c1 none).set c1 (some (ps i).1)).set c2 (some (ps i).2)) H Q)
    (hd : ∀ H (us : List Addr), Same H1 H → us.length = ts.length → (∀ i, i < ts.length → H (us.getD i 0) = some (.tup (g i))) → H D = some (.lst (us.map V.ref)) → Qd H) :
    ∃ W : Nat → Nat → Hp → Prop, (∃ m, W 0 m (upd H1 D (.lst []))) ∧ ∀ i m H, W i m H →
      ((Itl K a).stop i H ∧ Qd H) ∨ ((Itl K a).go i H ∧ ∃ Nx : Hp → Prop, (∀ H', Nx H' → ∃ m', m' < m ∧ W (i + 1) m' H') ∧ ∀ x H', (Itl K a).yld i H x H' → gTup K 2 (gCons (gName c1) (gCons (gName c2) gNil)) x (wipe σ [c1, c2]) H' fun σ2 H2 => wipe σ2 [c1, c2] = wipe σ [c1, c2] ∧ tYes σ2 H2 fun b H3 =>
        if b = true then te σ2 H3 fun y H4 => ∃ acc, H4 D = some (.lst acc) ∧ acc.length < sizeLine ∧ Nx (upd H4 D (.lst (acc ++ [y]))) else Nx H3) := by
  have hm : (ts.map V.ref).length = ts.length := List.length_map ..
  refine lc_it walk_list (fun i H => Same H1 H ∧ ∃ us : List Addr, us.length = i ∧ (∀ j, j < i → H (us.getD j 0) = some (.tup (g j))) ∧ H D = some (.lst (us.map V.ref))) ⟨same_upd hD, [], rfl, fun j hj => absurd hj (Nat.not_lt_zero j), upd_same⟩ (fun i H _ h => h.1.seq hL) (fun i x H H' hi hP hy => ?_) (fun H h => by
    obtain ⟨sm, us, hl, hu, e⟩ := h
    rw [hm] at hl hu
    exact hd H us sm hl hu e)
  obtain ⟨sm, us, hl, hu, eD⟩ := hP
  obtain ⟨rfl, hx⟩ := hy
  rw [hm] at hi
  rw [List.getElem?_map, List.getElem?_eq_getElem hi] at hx
  obtain rfl := Option.some.inj hx
  have hTi := hT i hi
  rw [List.getD_eq_getElem?_getD, List.getElem?_eq_getElem hi] at hTi
  refine ⟨ts[i], _, rfl, seqT sm hTi, rfl, _, _, rfl, _, _, rfl, rfl, ?_, ?_⟩
  · show (((((σ.set c2 none).set c1 none).set c1 (some (ps i).1)).set c2 (some (ps i).2)).set c2 none).set c1 none = (σ.set c2 none).set c1 none
    rw [List.set_set, List.set_set, List.set_comm _ _ hne, List.set_set, List.set_comm _ _ hne.symm, List.set_comm _ _ hne, List.set_set]
  · refine he i H' _ hi sm fun p H3 s3 np e3 => ⟨_, s3 _ _ eD, ?_, ?_, us ++ [p], ?_, ?_, ?_⟩
    · rw [List.length_map]; omega
    · intro b' o hb'
      rw [upd_ne (ne_of_none hb' hD)]
      exact s3 _ _ (sm _ _ hb')
    · rw [List.length_append, hl]; rfl
    · intro j hj
      have hDt : ∀ q xs, H3 q = some (.tup xs) → q ≠ D := fun q xs e z => by
        rw [z, s3 _ _ eD] at e
        exact nomatch e
      by_cases hj2 : j < i
      · rw [getD_app_l _ _ _ (by omega)]
        have e4 := s3 _ _ (hu j hj2)
        rw [upd_ne (hDt _ _ e4)]
        exact e4
      · have : j = i := by omega
        subst this
        rw [getD_app_r _ _ _ (by omega), hl, Nat.sub_self]
        show upd H3 D _ p = _
        rw [upd_ne (hDt _ _ e3)]
        exact e3
    · rw [upd_same, List.map_append]
      rfl
end LH

namespace LH
open PySem PySem.Spec PyProof.Rows L2
/-! ### what isinstance and except say of the program's own classes -/
section
variable {K : PySem.W.Frag} {C D : Addr} {b : Bool}
theorem kit_cls' (ic : PySem.W.isClsIn K D = true) (tp : PySem.W.typeIn K (.ref D) = some (.type "type")) (sub : PySem.W.subIn K (.ref C) (.ref D) = some b) : PySem.W.kitCls K (.ref C) (.ref D) = some b := by
  have h : ((PySem.W.clsIn K D).isSome && PySem.W.typeIn K (.ref D) == some (.type "type")) = true := by
    rw [tp]
    exact Bool.and_eq_true_iff.mpr ⟨ic, beq_iff_eq.mpr rfl⟩
  show (if ((PySem.W.clsIn K D).isSome && PySem.W.typeIn K (.ref D) == some (.type "type")) = true then PySem.W.subIn K (.ref C) (.ref D) else none) = some b
  rw [if_pos h]
  exact sub
theorem exm_ref (hb : PySem.W.subIn K (.ref D) (.type "BaseException") = some true) (ic : PySem.W.isClsIn K D = true) (tp : PySem.W.typeIn K (.ref D) = some (.type "type")) (sub : PySem.W.subIn K (.ref C) (.ref D) = some b) : PySem.W.exmOne K (.ref C) (.ref D) = some b := by
  unfold PySem.W.exmOne
  rw [hb, if_pos (beq_iff_eq.mpr rfl)]
  exact kit_cls' ic tp sub
theorem kit_ref (ic : PySem.W.isClsIn K D = true) (tp : PySem.W.typeIn K (.ref D) = some (.type "type")) (sub : PySem.W.subIn K (.ref C) (.ref D) = some b) (h : (C == D) = b ∨ b = true) : PySem.W.kitOne K (.ref C) (.ref D) = some b := by
  unfold PySem.W.kitOne
  by_cases e : (Value.ref C == Value.ref D) = true
  · rw [if_pos e]
    have e' : C = D := Value.ref.inj (beq_iff_eq.mp e)
    rcases h with h | h
    · rw [e', beq_self_eq_true] at h
      rw [← h]
    · rw [h]
  · rw [if_neg e]
    exact kit_cls' ic tp sub
theorem kit_base (sub : PySem.W.subIn K (.ref C) (.type "ValueError") = some true) : PySem.W.kitOne K (.ref C) (.type "ValueError") = some true := by
  unfold PySem.W.kitOne
  by_cases e : (Value.ref C == Value.type "ValueError") = true
  · rw [if_pos e]
  · rw [if_neg e]
    show (if PySem.W.kitMeta "ValueError" = true then PySem.W.subIn K (.ref C) (.type "ValueError") else none) = some true
    rw [if_pos (by decide +kernel)]
    exact sub
end
end LH

set_option maxHeartbeats 2000000
namespace LH
open PySem PySem.Spec PySem.Calls PyProof.Rows L2
open PySem.Builtin PySem.Builtin.ObjectAttr PySem.Builtin.Getset_descriptor
open PySem.W (Frag clsIn findIn subIn typeIn nsIn keepIn codeIn hasDictIn mroIn ksFn ksEnv ks_superIn excInitIn excOver takerIn ks_superObj kxs_mw excObj excTup InstAt dictOf findCls readsIn findObj looks_findIn looks_find looks_typeIn looks_subIn)
abbrev bmV : List Value := [.type "ValueError", .type "Exception", .type "BaseException", .type "object"]
/-! ### an own exception whose base's __init__ is super().__init__(why), self.kind = self.__class__.__name__.lower() -/
section
variable {prog : Program} {w : World} {A : Around} {E : Value → Shared → Prop} {R : Result → Shared → Prop} {K : Frag} {s : Shared} {C x : Addr} {ox : Obj} {odx : Option Obj}
/-- x.__class__ of an error -/
theorem err_class {expr : Bool} {Q : Value → Shared → Prop} (X : K.In s.heap) (I : InstAt s.heap x ox C odx) (T : ExcC K C) (hcl : (clsIn K C).isSome = true) (h : Q (.ref C) { s with toks := s.toks + 1 }) :
    wpAny (model prog w) A (getAttr (.ref x) "__class__" expr) Q E s := by
  obtain ⟨h0, gs, dr, n, o⟩ := s
  let M := model prog w
  have bga : (Value.builtin "BaseException.__getattribute__" == Value.builtin "object.__getattribute__") = false := by decide +kernel
  have hop : (expr && onTheHeap (Value.builtin "BaseException.__getattribute__")) = false := Bool.and_false _
  have ofC : PySem.W.Looks M h0 (typeOf (.ref x)) (.ref C) := I.type
  have isE : PySem.W.Looks M h0 (isInstance (.ref x) (.type "BaseException")) true := ofC.andThen (looks_subIn X T.hs)
  have slot := looks_find (M := M) X I (PySem.W.findObj_dataE (od := odx) hcl T.ha T.hn T.ht)
  -- what BaseException.__getattribute__ comes to at x
  have inner : ∀ (B : Around) (P G : Value → Shared → Prop), P (.ref C) ⟨h0, gs, dr, n + 1, o⟩ → wpAny M B (call (.builtin "BaseException.__getattribute__") [.ref x, .str "__class__" n]) P G ⟨h0, gs, dr, n + 1, o⟩ := fun B P G hP => by
    refine wpAny_call (codeAny_call_builtin PySem.F.excAttr_ValueError.ga.plain PySem.F.entry_bexc_ga (@PySem.W.check_slot M _ _ ⟨h0, gs, dr, n + 1, o⟩ "BaseException.__getattribute__" "BaseException" "__getattribute__" (.ref x) [.str "__class__" n] [] _ (by decide +kernel) (by decide +kernel) isE (PySem.F.args_bexc_ga _ _) ?_))
    show wpAny _ _ (Builtin.«object.__getattribute__» _) _ _ _
    unfold Builtin.«object.__getattribute__»
    refine wpAny_bind (wpAny_of_eq (a := ((Value.ref x : Value), [Value.str "__class__" n])) rfl (wpAny_bind (wpAny_pure (wpAny_bind (ofC.at (wpAny_bind (slot.at ?_)))))))
    exact wpAny_bind (wpAny_holding (wpAny_call (PySem.W.class_get (s := ⟨h0, gs, dr, n + 1, o⟩) (ox := ox) (od := odx) X I T.hm (wpAny_pure hP))))
  unfold getAttr getAttrBy
  refine wpAny_bind (wpAny_mkText (wpAny_holding (wpAny_bind (ofC.at (wpAny_bind ((looks_findIn (M := M) X T.hg).at ?_))))))
  dsimp only
  rw [if_neg (show ¬ (onTheHeap (Value.ref C) && Value.builtin "BaseException.__getattribute__" == Value.builtin "object.__getattribute__") = true from by rw [bga, Bool.and_false]; exact Bool.false_ne_true)]
  unfold getAttrByItsOwn hookBefore callGetattribute boundAndCalled
  rw [if_pos (show onTheHeap (Value.ref C) = true from rfl), hop, PySem.F.excAttr_ValueError.ga.bind (.ref x)]
  refine wpAny_bind ((looks_findIn (M := M) X T.hk).at (wpAny_bind (wpAny_attempt (wpAny_holding ?_))))
  rw [if_neg Bool.false_ne_true]
  refine wpAny_bind (wpAny_pure (inner _ _ _ ?_))
  show wpAny _ _ (handedOut (.ref C)) _ _ _
  rw [PySem.W.handedOut_of (show PySem.W.handedIn (.ref C) = true from rfl)]
  exact wpAny_pure h
theorem dga_ref (d tp : Value) (C : Addr) : descrGetArgs ⟨[d, .ref C, tp], []⟩ = pure (d, some (.ref C), (if tp == .none then none else some tp)) := by kernel_rfl
theorem name_get {tp : Value} {od : Option Addr} {cd : ClassData} {sl : Array (Option Value)} {nm : Str} {tk : Tok} (X : K.In s.heap) (hc : K.lookup C = some ⟨.type "type", od, .cls cd, sl⟩) (hs : sl[2]? = some (some (.str nm tk))) (h : R (.ok (.ret (.str nm tk))) s) :
    codeAny (model prog w) A (.call (.builtin "getset_descriptor.__get__") ⟨[.builtin "type.__name__", .ref C, tp], []⟩) R s := by
  have ho := X _ _ hc
  obtain ⟨hh, g, dr, t, os⟩ := s
  have L0 : PySem.W.Looks (model prog w) hh (typeOf (.ref C)) (.type "type") := looks_typeIn X (by show Option.map (fun x => x.cls) (List.lookup C K) = _; rw [hc]; rfl)
  have L1 : PySem.W.Looks (model prog w) hh (isSubtype (.type "type") (.type "type")) true := PySem.W.Looks.of_pure (by rw [isSubtype_type]; kernel_rfl)
  refine codeAny_call_builtin PySem.W.KF.slot_gs.plain PySem.W.KF.entry_gs (PySem.W.KF.slot_gs.check _ _ _ _ _ _ _ _ PySem.W.ktyn_type (PySem.W.KF.args_gs _ _ _) ?_)
  unfold Builtin.«getset_descriptor.__get__» descrGet
  rw [dga_ref]
  refine wpAny_bind (wpAny_pure ?_)
  unfold descrGetter descrCheckInstance descrNameAndClass isInstance
  simp only [PySem.W.ktyn_owner]
  repeat lk
  refine ⟨Code.quiet_builtin _ (by decide +kernel), codeAny_builtin PySem.W.ktyn_entry ?_⟩
  unfold Builtin.«type.__name__»
  dsimp only
  unfold keptObject slotAt
  dsimp only
  refine wpAny_bind (wpAny_bind (wpAny_loadPart_at ho (wpAny_pure ?_)))
  dsimp only
  rw [hs]
  dsimp only [Option.join, Option.bind, _root_.id]
  first | exact wpAny_bind (wpAny_pure h) | exact wpAny_pure h | (repeat lk; exact h)
theorem cls_name {expr : Bool} {Q : Value → Shared → Prop} {od : Option Addr} {cd : ClassData} {sl : Array (Option Value)} {nm : Str} {tk : Tok} (X : K.In s.heap) (hr : readsIn K C (.type "type") = true)
    (e : findCls K (.ref C) (.type "type") "__name__" = some (.get (.builtin "getset_descriptor.__get__") (.builtin "type.__name__") (.ref C) (.type "type"))) (hc : K.lookup C = some ⟨.type "type", od, .cls cd, sl⟩) (hs : sl[2]? = some (some (.str nm tk)))
    (h : Q (.str nm tk) { s with toks := s.toks + 1 }) : wpAny (model prog w) A (getAttr (.ref C) "__name__" expr) Q E s := by
  refine PySem.W.cls_bind X hr e (wpAny_call (name_get (s := { s with toks := s.toks + 1 }) X hc hs ?_))
  exact PySem.W.handed_on rfl h
end
structure HePos where
  (a1 a2 a3 s0 s1 s2 s3 s4 n0 l0 l1 l2 l3 l4 l5 l6 l7 : Pos)
  (u0 : Nat)
def hA (P : HePos) : Arguments := { posonlyargs := [], args := [{ arg := "self", annotation := none, pos := P.a1 }, { arg := "why", annotation := none, pos := P.a2 }], vararg := none, kwonlyargs := [], kw_defaults := [], kwarg := none, defaults := [.Constant (.str "") P.u0 P.a3] }
def hB (P : HePos) : List Stmt :=
  [.Expr (.Call (.Attribute (.Call (.Name "super" P.s0) [] [] P.s1) "__init__" P.s2) [.Name "why" P.n0] [] P.s3) P.s4,
   .Assign [.Attribute (.Name "self" P.l0) "kind" P.l1] (.Call (.Attribute (.Attribute (.Attribute (.Name "self" P.l2) "__class__" P.l3) "__name__" P.l4) "lower" P.l5) [] [] P.l6) P.l7]
def hS : Scope := { kind := .function, names := [("self", .local), ("why", .local), ("__class__", .free), ("super", .globalImplicit)], isGenerator := false, isCoroutine := false, more := [] }
/-- what the written part says of the class at C, whose base at D is made by the __init__ at fH; kd: the text of its kind -/
structure HeTxt (prog : Program) (K : Frag) (C D fH cc cda : Addr) (kd : Str) : Prop where
  exi : excInitIn K C bmV "ValueError.__new__" = true
  exo : excOver K C bmV = true
  sa : findIn K (.ref C) "__setattr__" = some (some (.builtin "object.__setattr__"))
  tkk : takerIn K C "kind" = some none
  hdC : hasDictIn K C = true
  tyf : typeIn K (.ref fH) = some (.type "function")
  fn : ∃ (oc : Value) (od : Option Addr) (kV doc pm : Value) (an : Option Addr) (ct : Value) (osl : Array (Option Value)) (P : HePos) (T : Addr) (o : Obj) (dv : Value) (m : Nat),
    K.lookup fH = some ⟨oc, od, .func (ksFn "__init__" "HouseError.__init__" (hA P) (hB P) hS (.ref T) kV doc pm an (.ref cda) ct cc), osl⟩ ∧ codeIn K (.ref cda) "HouseError.__init__" = true ∧ (P.s2.endLine == P.s3.line) = true ∧ (P.l5.endLine == P.l6.line) = true ∧
    K.lookup T = some o ∧ o.data = .seq #[dv] m
  code : ∃ (ccl : Value) (cdd : Option Addr) (vs : Array Value) (ccs : Array (Option Value)) (file : Str) (tf : Tok), K.lookup cda = some ⟨ccl, cdd, .fields vs, ccs⟩ ∧ vs[2]? = some (.str file tf) ∧ ((prog.main.file : Str) == file) = true
  cell : ∃ (cl : Value) (cld : Option Addr) (csl : Array (Option Value)), K.lookup cc = some ⟨cl, cld, .cell (some (.ref D)), csl⟩
  icD : PySem.W.isClsIn K D = true
  sub : mroIn K C (.ref D) = some true
  sup : nsIn K mainGlobals "super" = some none
  top : (prog.main.scope.names.lookup ("super" : Str)).isSome = false
  thp : nsIn K cStatics "thirdparty.any" = some none
  supI : ks_superIn K C D "__init__" = some (some (.builtin "ValueError.__init__"))
  subV : subIn K (.ref C) (.type "ValueError") = some true
  ec : ExcC K C
  icC : PySem.W.isClsIn K C = true
  rd : readsIn K C (.type "type") = true
  fnm : findCls K (.ref C) (.type "type") "__name__" = some (.get (.builtin "getset_descriptor.__get__") (.builtin "type.__name__") (.ref C) (.type "type"))
  nam : ∃ (od : Option Addr) (cd : ClassData) (sl : Array (Option Value)) (nm : Str) (tk : Tok), K.lookup C = some ⟨.type "type", od, .cls cd, sl⟩ ∧ sl[2]? = some (some (.str nm tk)) ∧ nm.length ≤ 5592405 ∧ Txt.lower nm = kd
section
variable {prog : Program} {w : World} {A : Around} {E : Value → Shared → Prop} {R : Result → Shared → Prop} {K : Frag} {mg : Str → Option Value} {C D fH cc cda x : Addr} {kd : Str} {hp : Heap}
theorem one_le (v : Value) : [v].length ≤ sizeLine := by rw [sizeLine_eq]; show 1 ≤ 16777216; decide
/-- super(), in the __init__ of such a class -/
theorem he_super (T : HeTxt prog K C D fH cc cda kd) (M : Mod K mg hp) {s : Shared} {L : Addr} {m : Str → Option Value} {news : List (Addr × Obj)} (F : Fr hp L s.heap m) (N : News hp L s.heap news) {ox : Obj} {odx : Option Obj} (I : InstAt s.heap x ox C odx) (hv : m "self" = some (.ref x))
    {P : HePos} {p0 p1 : Pos} {whole : Sem Value} {Q : Value → Shared → Prop}
    (h : ∀ so h', Fr hp L h' m → News hp L h' ((so, ks_superObj D x C) :: news) → (∀ p ∈ news, p.1 < so) → Q (.ref so) { s with heap := h' }) :
    PySem.wpAt (model prog w) A (.func (hB P) (ksEnv "HouseError.__init__" hS L fH (.ref cda) cc)) (attributeBase (.Call (.Name "super" p0) [] [] p1) "__init__" (ksEnv "HouseError.__init__" hS L fH (.ref cda) cc) whole) Q E s := by
  have X : K.In s.heap := M.kin.keeps F.keep
  obtain ⟨oc, od, kV, doc, pm, an, ct, osl, P', T', o', its, mm, hf, hcd, _⟩ := T.fn
  obtain ⟨ccl, cdd, vs, ccs, file, tf, hcode, hvs, hfile⟩ := T.code
  obtain ⟨cl, cld, csl, hcell⟩ := T.cell
  obtain ⟨mb, hb, hbb⟩ := M.blt
  obtain ⟨cdD, hD⟩ : ∃ cdD, clsIn K D = some cdD := Option.isSome_iff_exists.mp T.icD
  obtain ⟨hh, g, d, t, os⟩ := s
  have ⟨oD, hD1, hD2⟩ : ∃ o : Obj, hh.get? D = some o ∧ o.data = .cls cdD := by
    unfold PySem.W.clsIn at hD
    split at hD
    · rename_i ho; cases hD; exact ⟨_, X _ _ ho, rfl⟩
    · cases hD
  have noc : ∀ c, ox.data ≠ .cls c := fun c e => by
    have q := I.no
    unfold PySem.W.notCls at q
    rw [e] at q
    exact Bool.noConfusion q
  have last : wpAny (model prog w) A (call (.type "super") [.ref D, .ref x]) Q E ⟨hh, g, d, t, os⟩ := PySem.ks_wpAny_call_super hD1 hD2 I.at_ I.cls noc (PySem.W.looks_mroIn X T.sub) fun h' e k => by
    obtain ⟨F', N', l'⟩ := PySem.W.ks_newsPush (s := ⟨hh, g, d, t, os⟩) F N rfl e k
    exact h _ _ F' N' l'
  have self' : wpAny (model prog w) A (loadName (ksEnv "HouseError.__init__" hS L fH (.ref cda) cc) "self") (fun self s₃ => wpAny (model prog w) A (isType (.ref D)) (fun b s₄ => b = true ∧ wpAny (model prog w) A (call (.type "super") [.ref D, self]) Q E s₄) E s₃) E ⟨hh, g, d, t, os⟩ :=
    wpAny_loadName_local rfl rfl F.ns hv (PySem.ks_wpAny_isType_cls hD1 hD2 ⟨rfl, last⟩)
  refine PySem.ks_wpAt_super_base (env := ksEnv "HouseError.__init__" hS L fH (.ref cda) cc) rfl rfl (by decide) rfl (X _ _ hf) rfl rfl rfl (X _ _ hcode) rfl hvs hfile T.top ?_
  refine PySem.W.ks_loadName_global rfl rfl (loadGlobal_builtin (env := ksEnv "HouseError.__init__" hS L fH (.ref cda) cc) (M.glob.keeps F.keep) (PySem.W.mg_none_of M.kin M.glob T.sup) (hb.keeps F.keep) ((hbb _ (by decide +kernel)).trans (by decide +kernel)) ⟨rfl, ?_⟩)
  exact wpAny_loadName_free rfl rfl rfl ⟨_, X _ _ hcell, rfl⟩ self'
/-- HouseError.__init__ at a fresh exception x of the class at C -/
theorem he_init (T : HeTxt prog K C D fH cc cda kd) (M : Mod K mg hp) {s : Shared} (hk : ∀ b o, hp.get? b = some o → s.heap.get? b = some o) (hsz : hp.objs.size ≤ s.heap.objs.size) {t0 : Addr} (hx : s.heap.get? x = some (excObj C t0 none .none)) (hx0 : hp.get? x = none)
    {a : Value} (hroom : A.depth < recursionLimit)
    (hq : ∀ h' tk t1 dx q1 tk1, (∀ b o, hp.get? b = some o → h'.get? b = some o) → h'.get? x = some (excObj C t1 (some dx) .none) → x < dx → hp.get? dx = none →
      h'.get? dx = some (dictOf [⟨PyData.keyHash w.params "kind", .str "kind" q1, .str kd tk1⟩] 1) → R (.ok (.ret .none)) { s with heap := h', toks := tk }) :
    codeAny (model prog w) A (.call (.ref fH) ⟨[.ref x, a], []⟩) R s := by
  obtain ⟨oc, od, kV, doc, pm, an, ct, osl, P, T0, o0, its, mm, ho, hcd, hs, hs2, hT0, hT1⟩ := T.fn
  obtain ⟨odn, cdn, sln, nm, tkn, hcn, hsn, hln, hkd⟩ := T.nam
  have X := M.kin.keeps hk
  refine PySem.ks_codeAny_call_defAt (fd := ksFn "__init__" "HouseError.__init__" (hA P) (hB P) hS (.ref T0) kV doc pm an (.ref cda) ct cc) (body := hB P) (binds := [("self", .ref x), ("why", a)]) hroom (X _ _ ho) rfl (M.nolimit.keeps hk) (PySem.W.codeRec_of X hcd) rfl (BindsTo.of_defaults (fd := ksFn "__init__" "HouseError.__init__" (hA P) (hB P) hS (.ref T0) kV doc pm an (.ref cda) ct cc) rfl (X _ _ hT0) hT1 rfl rfl) (show ∀ y ∈ hS.names, y.2 ≠ .cell by decide) (fun y hy => by simp only [List.mem_cons, List.mem_nil_iff, or_false] at hy; rcases hy with rfl | rfl <;> rfl) (fun h₁ hn k₁ => ?_) rfl rfl rfl
  have F : Fr hp s.heap.objs.size h₁ (fun y => ([("self", Value.ref x), ("why", a)] : List (Str × Value)).reverse.lookup y) := ⟨hn, fun b o e => k₁ b o (hk b o e), hsz⟩
  have N : News hp s.heap.objs.size h₁ [(x, excObj C t0 none .none)] := fun p hp' => by
    obtain rfl := List.mem_singleton.mp hp'
    exact ⟨k₁ _ _ hx, Nat.ne_of_lt (Heap.lt_size hx), hx0⟩
  show PySem.wpAt (model prog w) (A.deeper (ksEnv "HouseError.__init__" hS s.heap.objs.size fH (.ref cda) cc)) (.func (hB P) (ksEnv "HouseError.__init__" hS s.heap.objs.size fH (.ref cda) cc)) (execs (hB P) (ksEnv "HouseError.__init__" hS s.heap.objs.size fH (.ref cda) cc)) _ _ _
  have m1 : (x, excObj C t0 none .none) ∈ [(x, excObj C t0 none .none)] := List.mem_singleton.mpr rfl
  refine PySem.ks_wpAt_execs_cons (PySem.ks_wpAt_Expr_any (PySem.ks_wpAt_MethodCall (pl := do return (← importBound (.Call (.Name "super" P.s0) [] [] P.s1) (ksEnv "HouseError.__init__" hS s.heap.objs.size fH (.ref cda) cc)).getD true) (he_super T M F N (PySem.W.InstAt.of_exc0 N m1) rfl fun so h2 F2 N2 l2 => ?_) ?_))
  rotate_left
  · rw [arm_eval_Call]
    unfold methodCall methodCallPos
    simp only [hs, Bool.or_true, if_true, pure_bind]
    rfl
  have m2 : (x, excObj C t0 none .none) ∈ [(so, ks_superObj D x C), (x, excObj C t0 none .none)] := by simp
  refine PySem.W.kxs_method PySem.W.kxs_ValueError F2 M.kin N2 (List.mem_cons_self ..) (PySem.W.InstAt.of_exc0 N2 m2) T.thp T.supI T.subV (by decide) fun q h3 F3 N3 l3 => ?_
  refine PySem.W.kxs_callWith1 N3 (List.mem_cons_self ..) ?_
  refine spliced_more (wpAny_Name (wpAny_loadName_local rfl rfl F3.ns rfl (spliced_none ⟨PySem.W.kxs_at N3 (List.mem_cons_self ..), ?_⟩)) (by decide))
  have nq : q ≠ x := fun e => Nat.lt_irrefl _ (by have := l3 _ m2; rw [e] at this; exact this)
  have ns : so ≠ x := fun e => Nat.lt_irrefl _ (by have := l2 _ m1; rw [e] at this; exact this)
  refine PySem.W.kxs_call F3 M.kin N3 PySem.F.excBase_ValueError T.exi (List.mem_cons_self ..) (.tail nq (.tail ns (.head (fun _ h => nomatch h)))) (LH.one_le _) fun t1 h4 F4 N4 l4 => ?_
  have N5 : News hp s.heap.objs.size h4 [(x, excObj C t1 none .none)] := fun p hp2 => N4 p (by rw [List.mem_singleton.mp hp2]; simp)
  have mx : (x, excObj C t1 none .none) ∈ [(x, excObj C t1 none .none)] := List.mem_singleton.mpr rfl
  refine wpAt_of_wpAny (wpAny_execs_cons (plainObj_wpAny_Assign_Attribute ?_))
  refine J1.ev_lower rfl hs2 ?_
  refine attr_of rfl (attr_of rfl (wpAny_Name (wpAny_loadName_local rfl rfl F4.ns rfl ?_) (by decide)))
  refine err_class (M.kin.keeps F4.keep) (PySem.W.InstAt.of_exc0 N5 mx) T.ec T.icC ?_
  refine cls_name (M.kin.keeps F4.keep) T.rd T.fnm hcn hsn ⟨nm, tkn, rfl, hln, fun tk1 tk2 => ?_⟩
  rw [hkd]
  refine wpAny_Name (wpAny_loadName_local rfl rfl F4.ns rfl ?_) (by decide)
  refine PySem.W.set_exc0 (es' := [⟨PyData.keyHash w.params "kind", .str "kind" _, .str kd tk1⟩]) (n' := 1) PySem.F.store_ValueError F4 M.kin N5 mx T.sa T.exo T.tkk T.hdC rfl (.head (fun _ h => nomatch h)) (show 1 ≤ 1000 by decide) fun dx h6 F6 N6 l6 => ?_
  have xdx : x < dx := l6 _ (List.mem_singleton.mpr rfl)
  refine wpAny_execs_nil ?_
  have q1 := N6 _ (.tail _ (List.mem_singleton.mpr rfl))
  have q2 := N6 _ (List.mem_cons_self ..)
  exact hq h6 _ t1 dx _ tk1 F6.keep q1.1 xdx q2.2.2 q2.1
end
end LH

set_option maxHeartbeats 2000000
namespace LH
open PySem PySem.Spec PySem.Calls PyProof.Rows L2
open PySem.W (Frag clsIn findIn subIn typeIn nsIn keepIn codeIn hasDictIn mroIn ksFn ksEnv ks_superIn excInitIn excOver takerIn ks_superObj kxs_mw excObj excTup InstAt dictOf methodObj)
/-! ### an own exception with the __init__ of a class above it: super().__init__(text), self.line, self.place -/
def iA (p1 p2 p3 : Pos) : Arguments := { posonlyargs := [], args := [{ arg := "self", annotation := none, pos := p1 }, { arg := "line", annotation := none, pos := p2 }, { arg := "place", annotation := none, pos := p3 }], vararg := none, kwonlyargs := [], kw_defaults := [], kwarg := none, defaults := [] }
structure WrPos where
  (a1 a2 a3 s0 s1 s2 s3 s4 f0 k0 v0 n0 k1 v1 n1 l0 l1 l2 l3 m0 m1 m2 m3 : Pos)
  (u0 u1 : Nat)
def iB (P : WrPos) : List Stmt :=
  [.Expr (.Call (.Attribute (.Call (.Name "super" P.s0) [] [] P.s1) "__init__" P.s2) [.JoinedStr [.Constant (.str "row ") P.u0 P.k0, .FormattedValue (.Name "line" P.n0) (-1) none P.v0, .Constant (.str ", place ") P.u1 P.k1, .FormattedValue (.Name "place" P.n1) (-1) none P.v1] P.f0] [] P.s3) P.s4,
   .Assign [.Attribute (.Name "self" P.l0) "line" P.l1] (.Name "line" P.l2) P.l3,
   .Assign [.Attribute (.Name "self" P.m0) "place" P.m1] (.Name "place" P.m2) P.m3]
def iS : Scope := { kind := .function, names := [("self", .local), ("line", .local), ("place", .local), ("__class__", .free), ("super", .globalImplicit)], isGenerator := false, isCoroutine := false, more := [] }
/-- what the written part says of the class at C, made by the __init__ at fI of the class at D -/
structure WrTxt (prog : Program) (K : Frag) (C D fI cc cda : Addr) (B fH ccH cdaH : Addr) (kd : Str) : Prop where
  he : HeTxt prog K C B fH ccH cdaH kd
  ini : findIn K (.ref C) "__init__" = some (some (.ref fI))
  exi : excInitIn K C bmV "ValueError.__new__" = true
  exo : excOver K C bmV = true
  sa : findIn K (.ref C) "__setattr__" = some (some (.builtin "object.__setattr__"))
  tkl : takerIn K C "line" = some none
  tkp : takerIn K C "place" = some none
  hdC : hasDictIn K C = true
  tyf : typeIn K (.ref fI) = some (.type "function")
  fn : ∃ (oc : Value) (od : Option Addr) (doc pm : Value) (an : Option Addr) (ct : Value) (osl : Array (Option Value)) (P : WrPos),
    K.lookup fI = some ⟨oc, od, .func (ksFn "__init__" "Wrong.__init__" (iA P.a1 P.a2 P.a3) (iB P) iS .none .none doc pm an (.ref cda) ct cc), osl⟩ ∧ codeIn K (.ref cda) "Wrong.__init__" = true ∧ (P.s2.endLine == P.s3.line) = true
  code : ∃ (ccl : Value) (cdd : Option Addr) (vs : Array Value) (ccs : Array (Option Value)) (file : Str) (tf : Tok), K.lookup cda = some ⟨ccl, cdd, .fields vs, ccs⟩ ∧ vs[2]? = some (.str file tf) ∧ ((prog.main.file : Str) == file) = true
  cell : ∃ (cl : Value) (cld : Option Addr) (csl : Array (Option Value)), K.lookup cc = some ⟨cl, cld, .cell (some (.ref D)), csl⟩
  icD : PySem.W.isClsIn K D = true
  sub : mroIn K C (.ref D) = some true
  sup : nsIn K mainGlobals "super" = some none
  top : (prog.main.scope.names.lookup ("super" : Str)).isSome = false
  thp : nsIn K cStatics "thirdparty.any" = some none
  supI : ks_superIn K C D "__init__" = some (some (.ref fH))
  fnH : PySem.W.fnIn K fH = true
  subV : subIn K (.ref C) (.type "ValueError") = some true
section
variable {prog : Program} {w : World} {A : Around} {E : Value → Shared → Prop} {R : Result → Shared → Prop} {K : Frag} {mg : Str → Option Value} {C D fI cc cda x B fH ccH cdaH : Addr} {kd : Str} {hp : Heap}
/-- super(), in the __init__ of such a class -/
theorem wr_super (T : WrTxt prog K C D fI cc cda B fH ccH cdaH kd) (M : Mod K mg hp) {s : Shared} {L : Addr} {m : Str → Option Value} {news : List (Addr × Obj)} (F : Fr hp L s.heap m) (N : News hp L s.heap news) {ox : Obj} {odx : Option Obj} (I : InstAt s.heap x ox C odx) (hv : m "self" = some (.ref x))
    {P : WrPos} {p0 p1 : Pos} {whole : Sem Value} {Q : Value → Shared → Prop}
    (h : ∀ so h', Fr hp L h' m → News hp L h' ((so, ks_superObj D x C) :: news) → (∀ p ∈ news, p.1 < so) → Q (.ref so) { s with heap := h' }) :
    PySem.wpAt (model prog w) A (.func (iB P) (ksEnv "Wrong.__init__" iS L fI (.ref cda) cc)) (attributeBase (.Call (.Name "super" p0) [] [] p1) "__init__" (ksEnv "Wrong.__init__" iS L fI (.ref cda) cc) whole) Q E s := by
  have X : K.In s.heap := M.kin.keeps F.keep
  obtain ⟨oc, od, doc, pm, an, ct, osl, P', hf, hcd, _⟩ := T.fn
  obtain ⟨ccl, cdd, vs, ccs, file, tf, hcode, hvs, hfile⟩ := T.code
  obtain ⟨cl, cld, csl, hcell⟩ := T.cell
  obtain ⟨mb, hb, hbb⟩ := M.blt
  obtain ⟨cdD, hD⟩ : ∃ cdD, clsIn K D = some cdD := Option.isSome_iff_exists.mp T.icD
  obtain ⟨hh, g, d, t, os⟩ := s
  have ⟨oD, hD1, hD2⟩ : ∃ o : Obj, hh.get? D = some o ∧ o.data = .cls cdD := by
    unfold PySem.W.clsIn at hD
    split at hD
    · rename_i ho; cases hD; exact ⟨_, X _ _ ho, rfl⟩
    · cases hD
  have noc : ∀ c, ox.data ≠ .cls c := fun c e => by
    have q := I.no
    unfold PySem.W.notCls at q
    rw [e] at q
    exact Bool.noConfusion q
  have last : wpAny (model prog w) A (call (.type "super") [.ref D, .ref x]) Q E ⟨hh, g, d, t, os⟩ := PySem.ks_wpAny_call_super hD1 hD2 I.at_ I.cls noc (PySem.W.looks_mroIn X T.sub) fun h' e k => by
    obtain ⟨F', N', l'⟩ := PySem.W.ks_newsPush (s := ⟨hh, g, d, t, os⟩) F N rfl e k
    exact h _ _ F' N' l'
  have self' : wpAny (model prog w) A (loadName (ksEnv "Wrong.__init__" iS L fI (.ref cda) cc) "self") (fun self s₃ => wpAny (model prog w) A (isType (.ref D)) (fun b s₄ => b = true ∧ wpAny (model prog w) A (call (.type "super") [.ref D, self]) Q E s₄) E s₃) E ⟨hh, g, d, t, os⟩ :=
    wpAny_loadName_local rfl rfl F.ns hv (PySem.ks_wpAny_isType_cls hD1 hD2 ⟨rfl, last⟩)
  refine PySem.ks_wpAt_super_base (env := ksEnv "Wrong.__init__" iS L fI (.ref cda) cc) rfl rfl (by decide) rfl (X _ _ hf) rfl rfl rfl (X _ _ hcode) rfl hvs hfile T.top ?_
  refine PySem.W.ks_loadName_global rfl rfl (loadGlobal_builtin (env := ksEnv "Wrong.__init__" iS L fI (.ref cda) cc) (M.glob.keeps F.keep) (PySem.W.mg_none_of M.kin M.glob T.sup) (hb.keeps F.keep) ((hbb _ (by decide +kernel)).trans (by decide +kernel)) ⟨rfl, ?_⟩)
  exact wpAny_loadName_free rfl rfl rfl ⟨_, X _ _ hcell, rfl⟩ self'
/-- the error's text is told: any number that is small -/
theorem wr_text {env : Env} {P : WrPos} {s : Shared} {a b : Int} {ta tb : Tok} {m : Str → Option Value} (hn : s.heap.Ns env.locals m) (hk : env.scope.kind = .function) (hl : env.kindOf "line" = some .local) (hp' : env.kindOf "place" = some .local)
    (va : m "line" = some (.int a ta)) (vb : m "place" = some (.int b tb)) (ha : a.natAbs.log2 < 1920) (hb : b.natAbs.log2 < 1920) {Q : Value → Shared → Prop} (hq : ∀ z tk t', Q (.str z t') { s with toks := tk }) :
    wpAny (model prog w) A (eval (.JoinedStr [.Constant (.str "row ") P.u0 P.k0, .FormattedValue (.Name "line" P.n0) (-1) none P.v0, .Constant (.str ", place ") P.u1 P.k1, .FormattedValue (.Name "place" P.n1) (-1) none P.v1] P.f0) env) Q E s := by
  have e0 : Str.empty.length = 0 := rfl
  have e1 : (Str.ofString "row ").length = 4 := by decide +kernel
  have e2 : (Str.ofString ", place ").length = 8 := by decide +kernel
  have e3 := int_text_len_1921 ha
  have e4 := int_text_len_1921 hb
  refine wpAny_JoinedStr ?_
  refine wpAny_Constant_str ⟨_, _, rfl, by rw [len_app, e0, e1, sizeLine_eq]; decide, ?_⟩
  refine wpAny_FormattedValue_plain (wpAny_Name (wpAny_loadName_local hk hl hn va (wpAny_formatField_int ha ⟨_, _, rfl, by rw [len_app, len_app, e0, e1, sizeLine_eq]; omega, ?_⟩)) (by decide))
  refine wpAny_Constant_str ⟨_, _, rfl, by rw [len_app, len_app, len_app, e0, e1, e2, sizeLine_eq]; omega, ?_⟩
  refine wpAny_FormattedValue_plain (wpAny_Name (wpAny_loadName_local hk hp' hn vb (wpAny_formatField_int hb ⟨_, _, rfl, by rw [len_app, len_app, len_app, len_app, e0, e1, e2, sizeLine_eq]; omega, ?_⟩)) (by decide))
  exact ⟨by rw [len_app, len_app, len_app, len_app, e0, e1, e2, sizeLine_eq]; omega, hq _ _ _⟩
/-- Wrong.__init__ at a fresh exception x of the class at C -/
theorem wr_init (T : WrTxt prog K C D fI cc cda B fH ccH cdaH kd) (M : Mod K mg hp) {s : Shared} (hk : ∀ b o, hp.get? b = some o → s.heap.get? b = some o) (hsz : hp.objs.size ≤ s.heap.objs.size) {t0 : Addr} (hx : s.heap.get? x = some (excObj C t0 none .none)) (hx0 : hp.get? x = none)
    {a b : Int} {ta tb : Tok} (ha : a.natAbs.log2 < 1920) (hb : b.natAbs.log2 < 1920) (hroom : A.depth + 1 < recursionLimit)
    (hq : ∀ h' tk t1 dx k0 k1 k2 q0 q1 q2 tk1 n, (∀ b o, hp.get? b = some o → h'.get? b = some o) → h'.get? x = some (excObj C t1 (some dx) .none) → x < dx →
      h'.get? dx = some (dictOf [⟨k0, .str "kind" q0, .str kd tk1⟩, ⟨k1, .str "line" q1, .int a ta⟩, ⟨k2, .str "place" q2, .int b tb⟩] n) → R (.ok (.ret .none)) { s with heap := h', toks := tk }) :
    codeAny (model prog w) A (.call (.ref fI) ⟨[.ref x, .int a ta, .int b tb], []⟩) R s := by
  obtain ⟨oc, od, doc, pm, an, ct, osl, P, ho, hcd, hs⟩ := T.fn
  have X := M.kin.keeps hk
  refine PySem.ks_codeAny_call_defAt (fd := ksFn "__init__" "Wrong.__init__" (iA P.a1 P.a2 P.a3) (iB P) iS .none .none doc pm an (.ref cda) ct cc) (body := iB P) (binds := [("self", .ref x), ("line", .int a ta), ("place", .int b tb)]) (Nat.lt_of_succ_lt hroom) (X _ _ ho) rfl (M.nolimit.keeps hk) (PySem.W.codeRec_of X hcd) rfl (.of_eq rfl) (show ∀ y ∈ iS.names, y.2 ≠ .cell by decide) (fun y hy => by simp only [List.mem_cons, List.mem_nil_iff, or_false] at hy; rcases hy with rfl | rfl | rfl <;> rfl) (fun h₁ hn k₁ => ?_) rfl rfl rfl
  have F : Fr hp s.heap.objs.size h₁ (fun y => ([("self", Value.ref x), ("line", .int a ta), ("place", .int b tb)] : List (Str × Value)).reverse.lookup y) := ⟨hn, fun b o e => k₁ b o (hk b o e), hsz⟩
  have N : News hp s.heap.objs.size h₁ [(x, excObj C t0 none .none)] := fun p hp' => by
    obtain rfl := List.mem_singleton.mp hp'
    exact ⟨k₁ _ _ hx, Nat.ne_of_lt (Heap.lt_size hx), hx0⟩
  show PySem.wpAt (model prog w) (A.deeper (ksEnv "Wrong.__init__" iS s.heap.objs.size fI (.ref cda) cc)) (.func (iB P) (ksEnv "Wrong.__init__" iS s.heap.objs.size fI (.ref cda) cc)) (execs (iB P) (ksEnv "Wrong.__init__" iS s.heap.objs.size fI (.ref cda) cc)) _ _ _
  have m1 : (x, excObj C t0 none .none) ∈ [(x, excObj C t0 none .none)] := List.mem_singleton.mpr rfl
  refine PySem.ks_wpAt_execs_cons (PySem.ks_wpAt_Expr_any (PySem.ks_wpAt_MethodCall (pl := do return (← importBound (.Call (.Name "super" P.s0) [] [] P.s1) (ksEnv "Wrong.__init__" iS s.heap.objs.size fI (.ref cda) cc)).getD true) (wr_super T M F N (PySem.W.InstAt.of_exc0 N m1) rfl fun so h2 F2 N2 l2 => ?_) ?_))
  rotate_left
  · rw [arm_eval_Call]
    unfold methodCall methodCallPos
    simp only [hs, Bool.or_true, if_true, pure_bind]
    rfl
  have m2 : (x, excObj C t0 none .none) ∈ [(so, ks_superObj D x C), (x, excObj C t0 none .none)] := by simp
  refine PySem.W.ks_method F2 M.kin N2 (List.mem_cons_self ..) (PySem.W.InstAt.of_exc0 N2 m2) T.thp T.supI T.he.tyf (by decide) fun q h3 F3 N3 l3 => ?_
  refine PySem.W.callWith_M M.kin N3 (List.mem_cons_self ..) T.fnH ?_
  refine spliced_more (wr_text F3.ns rfl rfl rfl rfl rfl ha hb fun z tk t' => spliced_none ⟨PySem.W.methP N3 (List.mem_cons_self ..) (M.kin.keeps F3.keep), ?_⟩)
  have nq : q ≠ x := fun e => Nat.lt_irrefl _ (by have := l3 _ m2; rw [e] at this; exact this)
  have ns : so ≠ x := fun e => Nat.lt_irrefl _ (by have := l2 _ m1; rw [e] at this; exact this)
  have m3 : (x, excObj C t0 none .none) ∈ [(q, methodObj (.ref fH) (.ref x)), (so, ks_superObj D x C), (x, excObj C t0 none .none)] := by simp
  have xh := N3 _ m3
  have kG : ∀ b o, hp.get? b = some o → (h3.hide x).get? b = some o := fun b o e => (Heap.hide_ne h3 (fun z => by rw [z, hx0] at e; cases e)).trans (F3.keep b o e)
  obtain ⟨mb0, hb0, hbb0⟩ := M.blt
  have MG : Mod K mg (h3.hide x) := ⟨M.kin.keeps kG, M.glob.keeps kG, ⟨mb0, hb0.keeps kG, hbb0⟩, M.nolimit.keeps kG⟩
  refine PySem.W.call_meth N3 (List.mem_cons_self ..) ?_
  refine he_init (hp := h3.hide x) (x := x) T.he MG (fun b o e => Heap.of_hide e) (Nat.le_of_eq (Heap.hide_size h3 x)) xh.1 (Heap.hide_self h3 x) (show A.depth + 1 < recursionLimit from hroom) fun h4 tk4 t1 dx z0 tk1 k4 hx4 xdx nd hd4 => ?_
  have kF : ∀ b o, hp.get? b = some o → h4.get? b = some o := fun b o e => k4 b o (kG b o e)
  obtain ⟨oL, es, ep, hL, r⟩ := F3.ns
  have Lx : s.heap.objs.size ≠ x := fun z => xh.2.1 z.symm
  have hL4 : (h3.hide x).get? s.heap.objs.size = some oL := (Heap.hide_ne h3 Lx).trans hL
  have F4 : Fr hp s.heap.objs.size h4 _ := ⟨⟨oL, es, ep, k4 _ _ hL4, r⟩, kF, F3.above⟩
  have dL : dx ≠ s.heap.objs.size := fun z => by rw [z, hL4] at nd; cases nd
  have hd0 : hp.get? dx = none := by
    cases e : hp.get? dx with
    | none => rfl
    | some o => rw [kG _ _ e] at nd; cases nd
  have N5 : News hp s.heap.objs.size h4 [(dx, dictOf [⟨PyData.keyHash w.params "kind", .str "kind" z0, .str kd tk1⟩] 1), (x, excObj C t1 (some dx) .none)] := fun p hp2 => by
    simp only [List.mem_cons, List.mem_nil_iff, or_false] at hp2
    rcases hp2 with rfl | rfl
    · exact ⟨hd4, dL, hd0⟩
    · exact ⟨hx4, xh.2⟩
  have dxx : dx ≠ x := Nat.ne_of_gt xdx
  refine wpAt_of_wpAny (wpAny_execs_cons (plainObj_wpAny_Assign_Attribute ?_))
  refine wpAny_Name (wpAny_loadName_local rfl rfl F4.ns rfl (wpAny_Name (wpAny_loadName_local rfl rfl F4.ns rfl ?_) (by decide))) (by decide)
  refine PySem.W.set_excD (es' := [⟨PyData.keyHash w.params "kind", .str "kind" z0, .str kd tk1⟩, ⟨PyData.keyHash w.params "line", .str "line" _, .int a ta⟩]) (n' := 2) PySem.F.store_ValueError F4 M.kin N5 (.tail _ (List.mem_singleton.mpr rfl)) T.sa T.exo T.tkl T.hdC (List.mem_cons_self ..) (by first | rfl | decide +kernel) rfl (PySem.W.Upd.head (fun p hp2 => by rw [List.mem_singleton.mp hp2]; exact Ne.symm dxx)) (show 2 ≤ 1000 by decide) fun h6 F6 N6 => ?_
  refine wpAny_execs_cons (plainObj_wpAny_Assign_Attribute ?_)
  refine wpAny_Name (wpAny_loadName_local rfl rfl F6.ns rfl (wpAny_Name (wpAny_loadName_local rfl rfl F6.ns rfl ?_) (by decide))) (by decide)
  obtain ⟨z1, N6⟩ : ∃ z1, News hp s.heap.objs.size h6 [(dx, dictOf [⟨PyData.keyHash w.params "kind", .str "kind" z0, .str kd tk1⟩, ⟨PyData.keyHash w.params "line", .str "line" z1, .int a ta⟩] 2), (x, excObj C t1 (some dx) .none)] := ⟨_, N6⟩
  refine PySem.W.set_excD (es' := [⟨PyData.keyHash w.params "kind", .str "kind" z0, .str kd tk1⟩, ⟨PyData.keyHash w.params "line", .str "line" z1, .int a ta⟩, ⟨PyData.keyHash w.params "place", .str "place" _, .int b tb⟩]) (n' := 3) PySem.F.store_ValueError F6 M.kin N6 (.tail _ (List.mem_singleton.mpr rfl)) T.sa T.exo T.tkp T.hdC (List.mem_cons_self ..) (by first | rfl | decide +kernel) rfl (PySem.W.Upd.head (fun p hp2 => by rw [List.mem_singleton.mp hp2]; exact Ne.symm dxx)) (show 3 ≤ 1000 by decide) fun h7 F7 N7 => ?_
  refine wpAny_execs_nil ?_
  have q1 := N7 _ (.tail _ (List.mem_singleton.mpr rfl))
  have q2 := N7 _ (List.mem_cons_self ..)
  exact hq h7 _ t1 dx _ _ _ _ _ _ _ 3 F7.keep q1.1 xdx q2.1
/-- a made error of the class at C -/
theorem wr_made (T : WrTxt prog K C D fI cc cda B fH ccH cdaH kd) {s : Shared} (M : Mod K mg s.heap) {a b : Int} {ta tb : Tok} (ha : a.natAbs.log2 < 1920) (hb : b.natAbs.log2 < 1920) (hroom : A.depth + 2 < recursionLimit)
    (hq : ∀ h' tk e t1 dx k0 k1 k2 q0 q1 q2 tk1 n, (∀ b o, s.heap.get? b = some o → h'.get? b = some o) → s.heap.objs.size ≤ e → h'.get? e = some (excObj C t1 (some dx) .none) → dx ≠ e → s.heap.objs.size ≤ dx →
      h'.get? dx = some (dictOf [⟨k0, .str "kind" q0, .str kd tk1⟩, ⟨k1, .str "line" q1, .int a ta⟩, ⟨k2, .str "place" q2, .int b tb⟩] n) → R (.ok (.ret (.ref e))) { s with heap := h', toks := tk }) :
    codeAny (model prog w) A (.call (.ref C) ⟨[.int a ta, .int b tb], []⟩) R s := by
  obtain ⟨nm, N', qn, bs, bm, hdct, sn, sub, ab, col, dd, k0, k1, k2, k3, k5, hC, hT⟩ := PySem.W.excInit_of M.kin T.exi
  obtain ⟨hp, g, dr, tk, os⟩ := s
  have M : Mod K mg hp := M
  have hC : hp.get? C = _ := hC
  have two : [Value.int a ta, .int b tb].length ≤ sizeLine := by rw [sizeLine_eq]; show 2 ≤ 16777216; decide
  have k : ∀ c o, hp.get? c = some o → ((hp.push (PySem.W.kdv_tup [.int a ta, .int b tb])).push (HandSPX.excO C hp.objs.size)).get? c = some o := fun c o e => Heap.get?_push_of_some _ (Heap.get?_push_of_some _ e)
  have hget : ((hp.push (PySem.W.kdv_tup [.int a ta, .int b tb])).push (HandSPX.excO C hp.objs.size)).get? (hp.objs.size + 1) = some (HandSPX.excO C hp.objs.size) := by heap_get
  have hno : ∀ q, hp.objs.size ≤ q → hp.get? q = none := fun q hq' => by
    cases e : hp.get? q with
    | none => rfl
    | some o => exact absurd (Heap.lt_size e) (Nat.not_lt_of_le hq')
  refine HandSPX.call_own PySem.F.excBase_ValueError hT hC (PySem.W.looks_findIn M.kin T.ini) (fun self => PySem.W.bind_fn M.kin self T.tyf) two ?_
  refine wr_init (hp := hp) (s := ⟨(hp.push (PySem.W.kdv_tup [.int a ta, .int b tb])).push (HandSPX.excO C hp.objs.size), g, dr, tk, os⟩) T M k ?_ hget (hno _ (Nat.le_succ _)) ha hb ?_ fun h' tk' t1 dx k0 k1 k2 q0 q1 q2 tk1 n kp hx hlt hd => ?_
  · rw [Heap.size_push, Heap.size_push]; omega
  · show A.depth + 1 + 1 < recursionLimit
    exact hroom
  · exact ⟨rfl, hq h' tk' (hp.objs.size + 1) t1 dx k0 k1 k2 q0 q1 q2 tk1 n kp (Nat.le_succ _) hx (Nat.ne_of_gt hlt) (Nat.le_of_lt (Nat.lt_of_succ_lt hlt)) hd⟩
end
end LH

set_option maxHeartbeats 2000000
namespace LH
open PySem PySem.Spec PySem.Calls PyProof.Rows L2
open PySem.W (Frag clsIn findIn subIn typeIn nsIn keepIn codeIn hasDictIn mroIn excObj InstAt dictOf)
/-- the own dict of such an error -/
def wrFields (kd : Str) (a b : Int) : List (Str × V) := [("kind", .str kd), ("line", .int a), ("place", .int b)]
theorem wr_ns {h : Heap} {dx : Addr} {k0 k1 k2 : Int} {q0 q1 q2 tk1 : Tok} {kd : Str} {a b : Int} {ta tb : Tok} {n : Nat} (e : h.get? dx = some (dictOf [⟨k0, .str "kind" q0, .str kd tk1⟩, ⟨k1, .str "line" q1, .int a ta⟩, ⟨k2, .str "place" q2, .int b tb⟩] n)) :
    ∃ mA, h.Ns1 dx mA ∧ ∀ f, RelO (List.lookup f (wrFields kd a b)) (mA f) := by
  have lp : (Str.ofString "line" : Str) ≠ Str.ofString "place" := by decide +kernel
  have kl : (Str.ofString "kind" : Str) ≠ Str.ofString "line" := by decide +kernel
  have kp : (Str.ofString "kind" : Str) ≠ Str.ofString "place" := by decide +kernel
  refine ⟨fun f => if f = "kind" then some (.str kd tk1) else if f = "line" then some (.int a ta) else if f = "place" then some (.int b tb) else none, ⟨_, _, _, e, rfl, fun x hx => ?_, ?_, fun f => ?_⟩, fun f => ?_⟩
  · simp only [List.mem_toArray, List.mem_cons, List.mem_nil_iff, or_false] at hx
    rcases hx with rfl | rfl | rfl <;> exact ⟨_, _, rfl⟩
  · show List.Pairwise _ _
    simp only [List.pairwise_cons, List.mem_cons, List.mem_nil_iff, or_false]
    refine ⟨fun y hy m h1 h2 => ?_, ⟨fun y hy m h1 h2 => ?_, ⟨fun _ h => h.elim, List.Pairwise.nil⟩⟩⟩
    · have e1 : (Str.ofString "kind" : Str) = m := by simpa [Value.isStr] using h1
      rcases hy with rfl | rfl
      · have e2 : (Str.ofString "line" : Str) = m := by simpa [Value.isStr] using h2
        exact kl (e1.trans e2.symm)
      · have e2 : (Str.ofString "place" : Str) = m := by simpa [Value.isStr] using h2
        exact kp (e1.trans e2.symm)
    · subst hy
      have e1 : (Str.ofString "line" : Str) = m := by simpa [Value.isStr] using h1
      have e2 : (Str.ofString "place" : Str) = m := by simpa [Value.isStr] using h2
      exact lp (e1.trans e2.symm)
  · unfold nsFind findBy
    rw [List.find?_toArray]
    by_cases h0 : f = "kind"
    · subst h0
      simp [List.find?, Value.isStr]
    · have z0 : ((Str.ofString "kind" : Str) == f) = false := by simpa using fun h => h0 h.symm
      by_cases h1 : f = "line"
      · subst h1
        simp [List.find?, Value.isStr, z0, h0]
      · have z1 : ((Str.ofString "line" : Str) == f) = false := by simpa using fun h => h1 h.symm
        by_cases h2 : f = "place"
        · subst h2
          simp [List.find?, Value.isStr, z0, z1, h0, h1]
        · have z2 : ((Str.ofString "place" : Str) == f) = false := by simpa using fun h => h2 h.symm
          simp [List.find?, Value.isStr, z0, z1, z2, h0, h1, h2]
  · unfold wrFields
    dsimp only
    by_cases h0 : f = "kind"
    · subst h0
      show RelO (some (V.str kd)) _
      rw [if_pos rfl]
      exact ⟨_, rfl⟩
    · have z0 : (f == (Str.ofString "kind" : Str)) = false := by simpa using h0
      rw [if_neg h0]
      by_cases h1 : f = "line"
      · subst h1
        rw [if_pos rfl]
        show RelO (List.lookup _ _) _
        simp only [List.lookup, z0, beq_self_eq_true]
        exact ⟨_, rfl⟩
      · have z1 : (f == (Str.ofString "line" : Str)) = false := by simpa using h1
        by_cases h2 : f = "place"
        · subst h2
          rw [if_neg h1, if_pos rfl]
          show RelO (List.lookup _ _) _
          simp only [List.lookup, z0, z1, beq_self_eq_true]
          exact ⟨_, rfl⟩
        · have z2 : (f == (Str.ofString "place" : Str)) = false := by simpa using h2
          rw [if_neg h1, if_neg h2]
          simp only [List.lookup, z0, z1, z2]
          trivial
/-! ### raise C(row, place) -/
def tMkW (C : Addr) (kd : Str) (ta : TA) : L2.St → Hp → XK → Prop := fun σ H Q => ta σ H fun vs H1 => ∃ a b : Int, vs = [.int a, .int b] ∧ a.natAbs.log2 < 1920 ∧ b.natAbs.log2 < 1920 ∧ ∀ d, H1 d = none → Q (.ref C) (some d) (upd H1 d (.xd (wrFields kd a b)))
/-- the class as its raisers see it -/
structure WrC (prog : Program) (K : Frag) (mg : Str → Option Value) (nm : Str) (C D fI cc cda B fH ccH cdaH : Addr) (kd : Str) : Prop where
  txt : WrTxt prog K C D fI cc cda B fH ccH cdaH kd
  mg : mg nm = some (.ref C)
  kp : keepIn K (.ref C) = true
  ex : subIn K (.ref C) (.type "BaseException") = some true
  ty : typeIn K (.ref C) = some (.type "type")
section
variable {X : Cx} {nm kd : Str} {C D fI cc cda B fH ccH cdaH : Addr}
theorem pmk_wr {e1 e2 : Expr} {ta : TA} {p pos : Pos} {k : Nat} (T : WrC X.prog X.K X.mg nm C D fI cc cda B fH ccH cdaH kd) (hr : Room k X.A) (ha : PA X [e1, e2] ta) (hg : Gl X nm := by rfl) (hdb : (nm == ("__debug__" : Str)) = false := by decide)
    (he : starEach (e1 :: [e2]) X.env = (false, eval e1 X.env) :: starEach [e2] X.env := by rfl) (hpl : (backTo pos (starEach [e2] X.env)).any (·.1) = false := by rfl) :
    PMk X (.Call (.Name nm p) [e1, e2] [] pos) (tMkW C kd ta) := by
  intro pins s σ H Q I h
  refine wpAny_Call_Name_kw (ld_glob I hg T.mg ?_ hdb)
  refine PySem.W.callWith_K (h₀ := X.base) I.ok.mod.kin T.kp (thn (ha.run pos pins s σ H _ I h) fun us s1 hh => ?_) he hpl
  obtain ⟨vs, H1, I1, r1, a, b, ev, hla, hlb, q1⟩ := hh
  subst ev
  refine ⟨I1.kIn, ?_⟩
  obtain ⟨u1, u2, rfl, rv1, rv2⟩ := vals2 r1
  obtain ⟨ta', rfl⟩ := rv1
  obtain ⟨tb', rfl⟩ := rv2
  show wpAny _ _ (call (.ref C) [.int a ta', .int b tb']) _ _ _
  obtain ⟨mb, hmb, hbb⟩ := I.ok.mod.blt
  have M1 : Mod X.K X.mg s1.heap := ⟨I1.kIn, I1.ok.mod.glob.keeps I1.bk, ⟨mb, hmb.keeps I1.bk, hbb⟩, I1.nolimit⟩
  obtain ⟨hp, g, dr, tk, os⟩ := s1
  refine wpAny_call (wr_made T.txt M1 hla hlb (by have := hr.dp; omega) fun h' tk' e t1 d k0 k1 k2 z0 z1 z2 tkk n keep new hoe dne dbig hd => ?_)
  show MkP X pins σ Q (.ref e) ⟨h', g, dr, tk', os⟩
  have old : ∀ c o, hp.get? c = some o → h'.get? c = some o := keep
  have hoe : h'.get? e = some (excObj C t1 (some d) .none) := hoe
  obtain ⟨G', g1, g2⟩ := restrict h' fun c => decide (c ≠ e)
  have gk : ∀ c, c ≠ e → G'.get? c = h'.get? c := fun c hc => g1 c (decide_eq_true hc)
  have ge : G'.get? e = none := g2 e (by simp)
  have oldG : ∀ c o, hp.get? c = some o → G'.get? c = some o := fun c o q => (gk c (Nat.ne_of_lt (Nat.lt_of_lt_of_le (Heap.lt_size q) new))).trans (old c o q)
  obtain ⟨mA, hns, hrel⟩ := wr_ns hd
  have ob : ObjOk X.prog X.w (upd H1 d (.xd (wrFields kd a b))) G' d (.xd (wrFields kd a b)) := ⟨mA, hns.at (fun o q => (gk d dne).trans q), hrel⟩
  have J : Inv X pins σ (upd H1 d (.xd (wrFields kd a b))) ⟨G', g, dr, tk', os⟩ := I1.laid (t' := tk') oldG dbig ob
  refine ⟨e, _, _, ⟨G', g, dr, tk', os⟩, _, .ref C, some d, rfl, J, fun c o q => ?_, ge, hoe, ⟨rfl, rfl⟩, rfl, rfl, ?_, rfl, I1.bare, raises_own T.ex T.ty, q1 d (I1.hok.fresh dbig)⟩
  · by_cases hc : c = e
    · have q' : G'.get? c = some o := q
      rw [hc, ge] at q'
      exact nomatch q'
    · exact (gk c hc).symm.trans q
  · rw [upd_ne (Ne.symm dne)]
    exact I1.hok.fresh new
def tRaiseW (C : Addr) (kd : Str) (W : WX) (ta : TA) : TS := fun _ σ H => tMkW C kd ta σ H fun cls d H' => W cls d σ H'
theorem ps_raiseW {e1 e2 : Expr} {ta : TA} {W : WX} {p pos pos2 : Pos} {k : Nat} (hc : X.calm = true) (T : WrC X.prog X.K X.mg nm C D fI cc cda B fH ccH cdaH kd) (hr : Room k X.A) (tk : Takes X W) (ha : PA X [e1, e2] ta) (hg : Gl X nm := by rfl) (hdb : (nm == ("__debug__" : Str)) = false := by decide)
    (he : starEach (e1 :: [e2]) X.env = (false, eval e1 X.env) :: starEach [e2] X.env := by rfl) (hpl : (backTo pos (starEach [e2] X.env)).any (·.1) = false := by rfl) :
    PS X (.Raise (some (.Call (.Name nm p) [e1, e2] [] pos)) none pos2) (tRaiseW C kd W ta) := ps_raise hc tk (pmk_wr T hr ha hg hdb he hpl)
end
end LH

set_option maxHeartbeats 2000000
namespace LH
open PySem PySem.Spec PySem.Calls PyProof.Rows L2
open PySem.W (Frag clsIn findIn subIn hasDictIn)
/-! ### a held error with an own dict: isinstance of it, its attributes -/
/-- the error at a, of the class at D, its own dict at dd with the fields fs -/
def HeldD (H : Hp) (D dd a : Addr) (fs : List (Str × V)) : Prop := H a = some (ExH (.ref D) (some dd) a) ∧ H dd = some (.xd fs)
theorem HeldD.same {H H' : Hp} {D dd a : Addr} {fs : List (Str × V)} (h : HeldD H D dd a fs) (s : Same H H') : HeldD H' D dd a fs := ⟨s _ _ h.1, s _ _ h.2⟩
theorem held_inst {X : Cx} {pins : List (Addr × Obj)} {σ : L2.St} {H : Hp} {s : Shared} {D dd a : Addr} {fs : List (Str × V)} (I : Inv X pins σ H s) (h : HeldD H D dd a fs) :
    ∃ (oe od : Obj) (mA : Str → Option Value), PySem.W.InstAt s.heap a oe D (some od) ∧ (∀ f, PySem.W.lookIn f od = some (mA f)) ∧ ∀ f, RelO (List.lookup f fs) (mA f) := by
  obtain ⟨⟨oe, fv, hget, ⟨h1, h2⟩, h3⟩, _, _⟩ := (show ObjOk X.prog X.w H s.heap a (ExH (.ref D) (some dd) a) from I.hok a _ h.1)
  obtain ⟨mA, hns, hr⟩ := (show ObjOk X.prog X.w H s.heap dd (.xd fs) from I.hok dd _ h.2)
  obtain ⟨od, ho, hl⟩ := lookIn_ns hns
  exact ⟨oe, od, mA, ⟨hget, h1, by unfold PySem.W.notCls; rw [h3] <;> rfl, by rw [h2]; exact ho⟩, hl, hr⟩
def rIsD (K : Frag) : List V → Hp → VK → Prop := fun xs H Q => ∃ (a D dd : Addr) (fs : List (Str × V)) (c : V) (cv : Value) (b : Bool), xs = [.ref a, c] ∧ HeldD H D dd a fs ∧ ExcC K D ∧ (∀ u, RelV c u → u = cv) ∧ PySem.W.kitOne K (.ref D) cv = some b ∧ Q (.bl b) H
theorem call_isD {X : Cx} : CallR X (.builtin "isinstance") (rIsD X.K) := by
  intro pins s σ H xs us Q I r h
  obtain ⟨a, D, dd, fs, c, cv, b, rfl, hh, C, hcv, e, q⟩ := h
  obtain ⟨u1, u2, rfl, r1, r2⟩ := vals2 r
  cases (show u1 = Value.ref a from r1)
  obtain rfl := hcv _ r2
  obtain ⟨oe, od, mA, J, _, _⟩ := held_inst I hh
  have hcl : (clsIn X.K D).isSome = true := by
    obtain ⟨cd, hc, _⟩ := PySem.W.any_some C.hd
    rw [hc]; rfl
  exact PySem.W.kia_one (PySem.W.kitx_exc hcl C.hg C.hk C.hs C.ha C.hn C.ht C.hm) I.kIn J e (fun z => nomatch z) fun tk => ⟨.bl b, H, I.kept (t' := tk) fun _ _ z => z, rfl, q⟩
theorem cIsD {X : Cx} (K : Frag) (h : X.K = K := by rfl) : CallR X (.builtin "isinstance") (rIsD K) := h ▸ call_isD
/-- isinstance of a held error, with or without an own dict -/
def rIsE' (K : Frag) : List V → Hp → VK → Prop := fun xs H Q => rIsH K xs H Q ∨ rIsD K xs H Q
theorem cIsHD {X : Cx} (K : Frag) (h : X.K = K := by rfl) : CallR X (.builtin "isinstance") (rIsE' K) := fun pins s σ H xs us Q I r q => q.elim (cIsH K h pins s σ H xs us Q I r) (cIsD K h pins s σ H xs us Q I r)
/-- an attribute of it that stands in its own dict -/
def tFld (K : Frag) (f : Str) (te : TE) : TE := fun σ H Q => te σ H fun x H1 => ∃ (a D dd : Addr) (fs : List (Str × V)) (v : V), x = .ref a ∧ HeldD H1 D dd a fs ∧ ExcC K D ∧ findIn K (.ref D) f = some none ∧ fs.lookup f = some v ∧ Q v H1
theorem pe_fldD {X : Cx} {K : Frag} {e : Expr} {te : TE} {pos : Pos} {f : Str} (he : PE X e te) (hK : X.K = K := by rfl) (hb : attributeBase e f X.env (eval e X.env) = eval e X.env := by rfl) : PE X (.Attribute e f pos) (tFld K f te) := by
  subst hK
  refine ⟨fun pins s σ H Q I h => ?_⟩
  refine attr_of hb (thn (he.run pins s σ H _ I h) fun u s1 hh => ?_)
  obtain ⟨x, H1, I1, rx, a, D, dd, fs, v, ex, hd, C, hno, hv, q⟩ := hh
  subst ex
  obtain rfl : u = Value.ref a := rx
  obtain ⟨oe, od, mA, J, hl, hr⟩ := held_inst I1 hd
  obtain ⟨w', hw, rw'⟩ := RelO.some_of (v := v) (o := mA f) (by rw [← hv]; exact hr f)
  exact HandSPX.exc_get I1.kIn J C.hg C.hk C.hs (PySem.W.findObj_own C.hd hno rfl (by rw [hl, hw])) (handed_of rw') ⟨v, H1, I1.tok _, rw', q⟩
end LH

set_option maxHeartbeats 2000000
namespace LH
open PySem PySem.Spec PySem.Calls PyProof.Rows L2
open PySem.W (Frag clsIn findIn subIn typeIn nsIn keepIn codeIn hasDictIn mroIn excObj InstAt dictOf)
/-! ### raise C(text), made by the __init__ of its base: its own dict holds its kind alone -/
def heFields (kd : Str) : List (Str × V) := [("kind", .str kd)]
theorem he_ns {h : Heap} {dx : Addr} {k0 : Int} {q0 tk1 : Tok} {kd : Str} {n : Nat} (e : h.get? dx = some (dictOf [⟨k0, .str "kind" q0, .str kd tk1⟩] n)) :
    ∃ mA, h.Ns1 dx mA ∧ ∀ f, RelO (List.lookup f (heFields kd)) (mA f) := by
  refine ⟨fun f => if f = "kind" then some (.str kd tk1) else none, ⟨_, _, _, e, rfl, fun x hx => ?_, ?_, fun f => ?_⟩, fun f => ?_⟩
  · simp only [List.mem_toArray, List.mem_cons, List.mem_nil_iff, or_false] at hx
    rw [hx]
    exact ⟨_, _, rfl⟩
  · show List.Pairwise _ _
    simp only [List.pairwise_cons, List.mem_nil_iff, or_false]
    exact ⟨fun _ h => h.elim, List.Pairwise.nil⟩
  · unfold nsFind findBy
    rw [List.find?_toArray]
    by_cases h0 : f = "kind"
    · subst h0
      simp [List.find?, Value.isStr]
    · have z0 : ((Str.ofString "kind" : Str) == f) = false := by simpa using fun h => h0 h.symm
      simp [List.find?, Value.isStr, z0, h0]
  · unfold heFields
    dsimp only
    by_cases h0 : f = "kind"
    · subst h0
      show RelO (some (V.str kd)) _
      rw [if_pos rfl]
      exact ⟨_, rfl⟩
    · have z0 : (f == (Str.ofString "kind" : Str)) = false := by simpa using h0
      rw [if_neg h0]
      simp only [List.lookup, z0]
      trivial
/-- the class as its raisers see it -/
structure HeC (prog : Program) (K : Frag) (mg : Str → Option Value) (nm : Str) (C D fH cc cda : Addr) (kd : Str) : Prop where
  txt : HeTxt prog K C D fH cc cda kd
  ini : findIn K (.ref C) "__init__" = some (some (.ref fH))
  mg : mg nm = some (.ref C)
  kp : keepIn K (.ref C) = true
  ex : subIn K (.ref C) (.type "BaseException") = some true
  ty : typeIn K (.ref C) = some (.type "type")
section
variable {prog : Program} {w : World} {A : Around} {R : Result → Shared → Prop} {K : Frag} {mg : Str → Option Value} {C D fH cc cda : Addr} {nm kd : Str}
theorem he_made (T : HeTxt prog K C D fH cc cda kd) (hini : findIn K (.ref C) "__init__" = some (some (.ref fH))) {s : Shared} (M : Mod K mg s.heap) {a : Value} (hroom : A.depth + 1 < recursionLimit)
    (hq : ∀ h' tk e t1 dx k0 q0 tk1 n, (∀ b o, s.heap.get? b = some o → h'.get? b = some o) → s.heap.objs.size ≤ e → h'.get? e = some (excObj C t1 (some dx) .none) → dx ≠ e → s.heap.objs.size ≤ dx →
      h'.get? dx = some (dictOf [⟨k0, .str "kind" q0, .str kd tk1⟩] n) → R (.ok (.ret (.ref e))) { s with heap := h', toks := tk }) :
    codeAny (model prog w) A (.call (.ref C) ⟨[a], []⟩) R s := by
  obtain ⟨nm, N', qn, bs, bm, hdct, sn, sub, ab, col, dd, k0, k1, k2, k3, k5, hC, hT⟩ := PySem.W.excInit_of M.kin T.exi
  obtain ⟨hp, g, dr, tk, os⟩ := s
  have M : Mod K mg hp := M
  have hC : hp.get? C = _ := hC
  have k : ∀ c o, hp.get? c = some o → ((hp.push (PySem.W.kdv_tup [a])).push (HandSPX.excO C hp.objs.size)).get? c = some o := fun c o e => Heap.get?_push_of_some _ (Heap.get?_push_of_some _ e)
  have hget : ((hp.push (PySem.W.kdv_tup [a])).push (HandSPX.excO C hp.objs.size)).get? (hp.objs.size + 1) = some (HandSPX.excO C hp.objs.size) := by heap_get
  have hno : ∀ q, hp.objs.size ≤ q → hp.get? q = none := fun q hq' => by
    cases e : hp.get? q with
    | none => rfl
    | some o => exact absurd (Heap.lt_size e) (Nat.not_lt_of_le hq')
  refine HandSPX.call_own PySem.F.excBase_ValueError hT hC (PySem.W.looks_findIn M.kin hini) (fun self => PySem.W.bind_fn M.kin self T.tyf) (LH.one_le a) ?_
  refine he_init (hp := hp) (s := ⟨(hp.push (PySem.W.kdv_tup [a])).push (HandSPX.excO C hp.objs.size), g, dr, tk, os⟩) T M k ?_ hget (hno _ (Nat.le_succ _)) ?_ fun h' tk' t1 dx q0 tk1 kp hx hlt hn hd => ?_
  · rw [Heap.size_push, Heap.size_push]; omega
  · show A.depth + 1 < recursionLimit
    exact hroom
  · exact ⟨rfl, hq h' tk' (hp.objs.size + 1) t1 dx _ q0 tk1 _ kp (Nat.le_succ _) hx (Nat.ne_of_gt hlt) (Nat.le_of_lt (Nat.lt_of_succ_lt hlt)) hd⟩
end
section
variable {X : Cx} {nm kd : Str} {C D fH cc cda : Addr}
def tMkH (C : Addr) (kd : Str) (ta : TA) : L2.St → Hp → XK → Prop := fun σ H Q => ta σ H fun vs H1 => ∃ v : V, vs = [v] ∧ ∀ d, H1 d = none → Q (.ref C) (some d) (upd H1 d (.xd (heFields kd)))
theorem pmk_he {e1 : Expr} {ta : TA} {p pos : Pos} {k : Nat} (T : HeC X.prog X.K X.mg nm C D fH cc cda kd) (hr : Room k X.A) (ha : PA X [e1] ta) (hg : Gl X nm := by rfl) (hdb : (nm == ("__debug__" : Str)) = false := by decide)
    (he : starEach (e1 :: []) X.env = (false, eval e1 X.env) :: starEach [] X.env := by rfl) (hpl : (backTo pos (starEach [] X.env)).any (·.1) = false := by rfl) :
    PMk X (.Call (.Name nm p) [e1] [] pos) (tMkH C kd ta) := by
  intro pins s σ H Q I h
  refine wpAny_Call_Name_kw (ld_glob I hg T.mg ?_ hdb)
  refine PySem.W.callWith_K (h₀ := X.base) I.ok.mod.kin T.kp (thn (ha.run pos pins s σ H _ I h) fun us s1 hh => ?_) he hpl
  obtain ⟨vs, H1, I1, r1, v, ev, q1⟩ := hh
  subst ev
  refine ⟨I1.kIn, ?_⟩
  obtain ⟨u1, rfl, _⟩ := vals1 r1
  show wpAny _ _ (call (.ref C) [u1]) _ _ _
  obtain ⟨mb, hmb, hbb⟩ := I.ok.mod.blt
  have M1 : Mod X.K X.mg s1.heap := ⟨I1.kIn, I1.ok.mod.glob.keeps I1.bk, ⟨mb, hmb.keeps I1.bk, hbb⟩, I1.nolimit⟩
  obtain ⟨hp, g, dr, tk, os⟩ := s1
  refine wpAny_call (he_made T.txt T.ini M1 (by have := hr.dp; omega) fun h' tk' e t1 d k1 z1 z2 n keep new hoe dne dbig hd => ?_)
  show MkP X pins σ Q (.ref e) ⟨h', g, dr, tk', os⟩
  have old : ∀ c o, hp.get? c = some o → h'.get? c = some o := keep
  have hoe : h'.get? e = some (excObj C t1 (some d) .none) := hoe
  obtain ⟨G', g1, g2⟩ := restrict h' fun c => decide (c ≠ e)
  have gk : ∀ c, c ≠ e → G'.get? c = h'.get? c := fun c hc => g1 c (decide_eq_true hc)
  have ge : G'.get? e = none := g2 e (by simp)
  have oldG : ∀ c o, hp.get? c = some o → G'.get? c = some o := fun c o q => (gk c (Nat.ne_of_lt (Nat.lt_of_lt_of_le (Heap.lt_size q) new))).trans (old c o q)
  obtain ⟨mA, hns, hrel⟩ := he_ns hd
  have ob : ObjOk X.prog X.w (upd H1 d (.xd (heFields kd))) G' d (.xd (heFields kd)) := ⟨mA, hns.at (fun o q => (gk d dne).trans q), hrel⟩
  have J : Inv X pins σ (upd H1 d (.xd (heFields kd))) ⟨G', g, dr, tk', os⟩ := I1.laid (t' := tk') oldG dbig ob
  refine ⟨e, _, _, ⟨G', g, dr, tk', os⟩, _, .ref C, some d, rfl, J, fun c o q => ?_, ge, hoe, ⟨rfl, rfl⟩, rfl, rfl, ?_, rfl, I1.bare, raises_own T.ex T.ty, q1 d (I1.hok.fresh dbig)⟩
  · by_cases hc : c = e
    · have q' : G'.get? c = some o := q
      rw [hc, ge] at q'
      exact nomatch q'
    · exact (gk c hc).symm.trans q
  · rw [upd_ne (Ne.symm dne)]
    exact I1.hok.fresh new
def tRaiseH (C : Addr) (kd : Str) (W : WX) (ta : TA) : TS := fun _ σ H => tMkH C kd ta σ H fun cls d H' => W cls d σ H'
theorem ps_raiseH {e1 : Expr} {ta : TA} {W : WX} {p pos pos2 : Pos} {k : Nat} (hc : X.calm = true) (T : HeC X.prog X.K X.mg nm C D fH cc cda kd) (hr : Room k X.A) (tk : Takes X W) (ha : PA X [e1] ta) (hg : Gl X nm := by rfl) (hdb : (nm == ("__debug__" : Str)) = false := by decide)
    (he : starEach (e1 :: []) X.env = (false, eval e1 X.env) :: starEach [] X.env := by rfl) (hpl : (backTo pos (starEach [] X.env)).any (·.1) = false := by rfl) :
    PS X (.Raise (some (.Call (.Name nm p) [e1] [] pos)) none pos2) (tRaiseH C kd W ta) := ps_raise hc tk (pmk_he T hr ha hg hdb he hpl)
/-- raise C(text): what follows of the classes -/
structure RaiseH (K : Frag) (hs C : Addr) : Prop where
  xc : ExcC K C
  fits : PySem.W.exmOne K (.ref C) (.ref hs) = some true
  base : PySem.W.kitOne K (.ref C) (.type "ValueError") = some true
end
end LH

namespace LH
open PySem PySem.Spec PySem.Calls PyProof.Rows L2
/-! ### a call of what a parameter holds -/
/-- at f stands a def of the promise sp -/
def FnV (P : Program) (w : World) (K : PySem.W.Frag) (mg : Str → Option Value) (base : Heap) (k : Nat) (f : Addr) (sp : Sp) : Prop := ∃ (fd : FuncData) (ps : List Str), FnOk P w K mg base CX0 k f fd ps sp ∧ PySem.W.keepIn K (.ref f) = true ∧ Binds K fd ps []
def tCallV (P : Program) (w : World) (K : PySem.W.Frag) (mg : Str → Option Value) (base : Heap) (k : Nat) (tv : TE) (t : TA) : TE := fun σ H Q => tv σ H fun v H1 => ∃ (f : Addr) (sp : Sp), v = .ref f ∧ FnV P w K mg base k f sp ∧ t σ H1 fun vs H2 => sp vs H2 Q E0
theorem pe_callV {X : Cx} {x : Str} {k : Nat} {e : Expr} {es : List Expr} {tv : TE} {t : TA} {p pos : Pos} (hr : Room k X.A) (hv : PE X (.Name x p) tv) (ha : PA X (e :: es) t) (he : starEach (e :: es) X.env = (false, eval e X.env) :: starEach es X.env := by rfl) (hpl : (backTo pos (starEach es X.env)).any (·.1) = false := by rfl) :
    PE X (.Call (.Name x p) (e :: es) [] pos) (tCallV X.prog X.w X.K X.mg X.base k tv t) := by
  refine ⟨fun pins s σ H Q I h => ?_⟩
  refine wpAny_Call_Name_kw (thn (hv.run pins s σ H _ I h) fun u s1 ⟨v, H1, I1, rv, f, sp, ev, ⟨fd, ps, F, hk, hb⟩, q⟩ => ?_)
  subst ev
  obtain rfl : u = Value.ref f := rv
  refine PySem.W.callWith_K (h₀ := X.base) I.ok.mod.kin hk (thn (ha.run pos pins s1 σ H1 _ I1 q) fun us s2 ⟨vs, H2, I2, r, q2⟩ => ⟨I2.kIn, ?_⟩) he hpl
  exact run_fn F hr hb .nil pass0 I2 r (by rw [List.append_nil]; exact q2)
theorem FnV.of {P : Program} {w : World} {K : PySem.W.Frag} {mg : Str → Option Value} {base : Heap} {x : Str} {k : Nat} {f : Addr} {fd : FuncData} {ps : List Str} {sp : Sp} (D : Def P w K mg base x k f fd ps sp) : FnV P w K mg base k f sp := ⟨fd, ps, D.ok, D.kp, D.bd⟩
end LH

namespace LH
open PySem PySem.Spec PySem.Calls PyProof.Rows L2
/-! ### a thing in a tuple of data -/
def rInT (K : PySem.W.Frag) : R2 := fun x y H Q => ∃ d ds, Dp K H x d ∧ Dp K H y (.tuple ds) ∧ SeqAt.shaped d = true ∧ SeqAt.shaped (.tuple ds) = true ∧ Q (.bl (ds.any fun z => PyData.eqv z d)) H
theorem op_inT {X : Cx} (K : PySem.W.Frag) (hu : X.A.units + 65 < cLine) (hK : X.K = K := by rfl) : OpR X (compareOp .In) (rInT K) := by
  subst hK
  intro pins s σ H x y v u Q I rx ry h
  obtain ⟨d, ds, hd, he, sd, se, q⟩ := h
  obtain ⟨as, r1⟩ := Dp.reads I d x v hd rx
  obtain ⟨bs, r2⟩ := Dp.reads I (.tuple ds) y u he ry
  exact SeqAt.in_tuple_reads r2 r1 (SeqAt.canLay_of_shaped se) (SeqAt.canLay_of_shaped sd) (room_in_shaped sd hu) ⟨.bl _, H, I, rfl, q⟩
theorem unit1 {k : Nat} {A : Around} (hr : Room k A) : A.units + 1 < cLine := by have := hr.un; omega
theorem room65 {k : Nat} {A : Around} (hr : Room (k + 1) A) : A.units + 65 < cLine := by have := hr.un; omega
end LH

namespace LH
open PySem PySem.Spec PySem.Calls PyProof.Rows L2
/-! ### enumerate(text) -/
/-- the signs of x, each in a new pair with its number -/
def ItES (x : Str) : It :=
  ⟨fun i _ => i < x.cps.size, fun i H v H' => ∃ T c, v = .ref T ∧ H T = none ∧ H' = upd H T (.tup [.int (i : Nat), .str ⟨#[c]⟩]) ∧ x.cps[i]? = some c, fun i _ => x.cps.size = i⟩
theorem turn_enumS {P : Program} {w : World} {K : PySem.W.Frag} {elts : List Expr} {kk : Nat} {tpos : Pos} (x : Str) (t : Tok) (e it : Addr) :
    Turn P w K (.Tuple elts kk tpos) (ItES x) [e, it] e (fun i h => (∃ old, IsEnum h e it ((i : Nat) : Int) old) ∧ h.IsStrIter it (strIterType x) x t i ∧ e ≠ it) where
  mem := by simp
  obj := fun i h st b hb => by
    obtain ⟨⟨old, he⟩, ⟨o, ho, hc, hd⟩, _⟩ := st
    have e' : b = e ∨ b = it := by simpa using hb
    rcases e' with z | z
    · rw [z]; exact ⟨_, he, fun v q => nomatch q⟩
    · rw [z]; exact ⟨o, ho, fun v q => by rw [hd] at q; cases q⟩
  keep := fun i h h' st k => let ⟨⟨old, he⟩, ⟨o, ho, r⟩, hne⟩ := st; ⟨⟨old, k e (by simp) _ he⟩, ⟨o, k it (by simp) o ho, r⟩, hne⟩
  item := by
    intro X hP hw hK hc i pins s σ H E I hf st hg
    subst hP hw hK
    obtain ⟨⟨old, he⟩, hit, hne⟩ := st
    have hel : e < s.heap.objs.size := Heap.lt_size he
    have hil : it < s.heap.objs.size := by obtain ⟨_, q, _⟩ := hit; exact Heap.lt_size q
    refine wpAny_pyNext_enum_itemD (Draws.text (A := X.A.in1) (I.ok.hd hc) it x t) he hit hg hne (by simpa using hne) fun v h' tk hv ho hit' hT hsz hk => ?_
    obtain ⟨c, u, hcx, rfl⟩ := hv
    refine ⟨_, rfl, wpAny_letOwnedTupleGo_enum (s := { s with heap := h', toks := tk + 1 }) ho fun h'' he' sb => ?_⟩
    have hT2 : h''.get? s.heap.objs.size = some { cls := .type "tuple", data := .seq #[.int i tk, .str ⟨#[c]⟩ u] } := (sb.2 _ (Nat.ne_of_gt hel)).trans hT
    have new : ObjOk X.prog X.w (upd H s.heap.objs.size (.tup [.int (i : Nat), .str ⟨#[c]⟩])) h'' s.heap.objs.size (.tup [.int (i : Nat), .str ⟨#[c]⟩]) :=
      ⟨by show 2 ≤ sizeLine; decide, [.int i tk, .str ⟨#[c]⟩ u], .cons ⟨_, rfl⟩ (.cons ⟨_, rfl⟩ .nil), ⟨_, hT2, rfl, _, rfl⟩⟩
    have I1 : Inv X pins σ (upd H s.heap.objs.size (.tup [.int (i : Nat), .str ⟨#[c]⟩])) { s with heap := h'', toks := tk + 1 } :=
      I.turnedNew (ch := [e, it]) (fun b ob hb q => (sb.2 b (fun z => hb (by simp [z]))).trans (hk b ob (fun z => hb (by simp [z])) (fun z => hb (by simp [z])) q)) hf (Nat.le_refl _) new
    refine ⟨.ref s.heap.objs.size, _, I1, rfl, ⟨_, c, rfl, I.hok.fresh (Nat.le_refl _), rfl, hcx⟩, ⟨⟨.str ⟨#[c]⟩ u, ?_⟩, ?_, hne⟩, fun b hb => ?_⟩
    · have e1 : ((i + 1 : Nat) : Int) = (i : Int) + 1 := by omega
      rw [e1]; exact he'
    · obtain ⟨o, ho', r⟩ := hit'
      exact ⟨o, (sb.2 it (Ne.symm hne)).trans ho', r⟩
    · have hb' : b < s.heap.objs.size := by
        have e' : b = e ∨ b = it := by simpa using hb
        rcases e' with z | z
        · rw [z]; exact hel
        · rw [z]; exact hil
      rw [upd_ne (Nat.ne_of_lt hb')]
      exact (hf b hb).1
  done := by
    intro X hP hw hK hc i pins s σ H E I hf st hg
    subst hP hw hK
    obtain ⟨⟨old, he⟩, hit, hne⟩ := st
    obtain ⟨f0, f1, f2, f3, f4, f5⟩ := hf it (by simp)
    have heq : x.cps.size = i := hg
    subst heq
    exact wpAny_pyNext_enum_endD (Draws.text (A := X.A.in1) (I.ok.hd hc) it x t) he hit fun h' eb => ⟨rfl, I.turned (t' := s.toks) (fun b o hb q => eb b o hb q) f0 f1 f3 f4 f5⟩
  self := fun A i s Q E st h => let ⟨⟨_, he⟩, _⟩ := st; wpAny_pyIter_enum he h
def iEnumS (ta : TA) : TI := fun σ H R => ta σ H fun vs H1 => ∃ x, vs = [.str x] ∧ R (ItES x) H1
theorem pi_enumS {X : Cx} {e : Expr} {ta : TA} {p pos tpos : Pos} {elts : List Expr} {kk : Nat} (hg : Gl X "enumerate") (hm : X.mg "enumerate" = none) (ha : PA X [e] ta) (hs : starEach [e] X.env = [(false, eval e X.env)] := by rfl) :
    PI X (.Tuple elts kk tpos) (.Call (.Name "enumerate" p) [e] [] pos) (iEnumS ta) := by
  refine ⟨fun pins s σ H R I h => ?_⟩
  refine Call_ (ld_blt I hg hm boot_enumerate (PyProof.Rows.callWith_type1 (thn (ha.run pos pins s σ H _ I h) fun us s1 ⟨vs, H1, I1, r1, q1⟩ => ?_) hs rfl))
  obtain ⟨x, ex, q⟩ := q1
  subst ex
  cases r1 with
  | cons r rr =>
    cases rr
    obtain ⟨t, rfl⟩ := r
    refine call_enumerate_str fun h' he hit hsz hk => wpAny_pyIter_enum he ?_
    have I2 : Inv X pins σ H1 { s1 with heap := h' } := I1.kept (t' := s1.toks) hk
    refine ⟨s1.heap.objs.size + 1, [s1.heap.objs.size + 1, s1.heap.objs.size], _, _, H1, rfl, I2, turn_enumS x t (s1.heap.objs.size + 1) s1.heap.objs.size, ⟨⟨.none, he⟩, hit, Nat.succ_ne_self _⟩, fun b hb => ?_, q⟩
    have e' : b = s1.heap.objs.size + 1 ∨ b = s1.heap.objs.size := by simpa using hb
    have hle : s1.heap.objs.size ≤ b := by
      rcases e' with z | z
      · rw [z]; exact Nat.le_add_right _ _
      · rw [z]; exact Nat.le_refl _
    exact I1.fpOk hle (I1.hok.fresh hle)
theorem walk_enumS {x : Str} : Walk (ItES x) (TL.tl x).length (fun _ => True) (YPair (fun i => some (.int (i : Nat))) (fun i => some (.str ⟨#[(TL.tl x).getD i 0]⟩))) := by
  have e : (TL.tl x).length = x.cps.size := Array.length_toList
  rw [e]
  refine ⟨fun i _ hi q => hi, fun _ q => rfl, fun i H v H' _ q y => ?_⟩
  obtain ⟨T, c, h1, h2, h3, h4⟩ := y
  have : (TL.tl x)[i]? = some c := by rw [← h4]; exact Array.getElem?_toList
  exact ⟨T, .int (i : Nat), .str ⟨#[c]⟩, h1, h2, h3, rfl, by show some (V.str ⟨#[(TL.tl x).getD i 0]⟩) = _; rw [List.getD_eq_getElem?_getD, this]; rfl⟩
end LH

namespace LH
open PySem PySem.Spec PySem.Calls PyProof.Rows L2 Builtin Builtin.Str Builtin.Int Builtin.Float
/-! ### a number by a written form -/
def FmtI (sp : Str) (i : Int) (y : Str) : Prop := ∀ (prog : Program) (w : World) (A : Around) (E : Value → Shared → Prop) (s : Shared) (t : Tok) (Q : Value → Shared → Prop), (∀ t' k, Q (.str y t') { s with toks := k }) → wpAny (model prog w) A (formatField (.int i t) sp) Q E s
def hexF : FormatSpec := { fill := 48, align := 61, width := some 2, type := some 88 }
def hexT (i : Int) : Str := intField' hexF (decide (i < 0)) [] ((Nat.toDigits 16 i.natAbs).map fun c => (if (88 : Nat) == 88 then c.toUpper else c).toNat) [] 4
theorem hex_parse : parseFormatSpec (Str.ofString "02X").cps.toList "int" 62 = .ok hexF := by kernel_rfl
def hexDig (n : Nat) : Nat := if n < 10 then 48 + n else 55 + n
theorem hexT_eq {b : Nat} (h : b < 256) : hexT (b : Nat) = ⟨#[hexDig (b / 16), hexDig (b % 16)]⟩ := by
  have : ∀ d : Fin 256, (hexT (d.val : Nat)).cps.toList = [hexDig (d.val / 16), hexDig (d.val % 16)] := by decide +kernel
  exact TL.ext_tl (this ⟨b, h⟩)
set_option maxHeartbeats 4000000 in
theorem fmt_hex {b : Nat} (h : b < 256) : FmtI (Str.ofString "02X") (b : Nat) ⟨#[hexDig (b / 16), hexDig (b % 16)]⟩ := by
  intro prog w A E s t Q q
  have hlen : (hexT (b : Nat)).length ≤ sizeLine := by rw [hexT_eq h, sizeLine_eq]; show 2 ≤ 16777216; decide
  rw [← hexT_eq h] at q
  refine PySem.W.KXf.field_int (spec' := Str.ofString "02X") (y := hexT (b : Nat)) rfl (by decide +kernel) (by decide +kernel) ?_ q
  intro _
  apply PySem.W.KPc.meets_of
  intro _ _ _ _ _ _ _
  unfold Builtin.«int.__format__»
  refine wpAny_bind (wpAny_of_eq (a := (_, _)) rfl ?_)
  refine wpAny_bind (wpAny_of_eq (a := _) rfl ?_)
  kxf_if
  refine wpAny_bind (wpAny_typeNameOf (T := "str") (typeIs_str _ _ _) (by decide) fun _ => ?_)
  refine wpAny_bind (wpAny_of_eq (a := some _) rfl ?_)
  kxf_if
  kxf_if
  refine wpAny_bind (wpAny_typeNameOfCut_int ?_)
  simp only [hex_parse, hexF]
  (repeat kxf_if)
  refine PySem.W.KXf.ret_text (T := hexT (b : Nat)) rfl hlen ?_
  assumption
/-! ### a number by figures, noughts ahead -/
def decF (k : Nat) : FormatSpec := { fill := 48, align := 61, width := some k, type := some 100 }
def decT (k : Nat) (i : Int) : Str := intField' (decF k) (decide (i < 0)) [] ((Nat.toDigits 10 i.natAbs).map fun c => (if (100 : Nat) == 88 then c.toUpper else c).toNat) [] 3
theorem dec2_parse : parseFormatSpec (Str.ofString "02d").cps.toList "int" 62 = .ok (decF 2) := by kernel_rfl
theorem dec4_parse : parseFormatSpec (Str.ofString "04d").cps.toList "int" 62 = .ok (decF 4) := by kernel_rfl
theorem dec2_eq {b : Nat} (h : b < 100) : decT 2 (b : Nat) = ⟨#[48 + b / 10, 48 + b % 10]⟩ := by
  have : ∀ d : Fin 100, (decT 2 (d.val : Nat)).cps.toList = [48 + d.val / 10, 48 + d.val % 10] := by decide +kernel
  exact TL.ext_tl (this ⟨b, h⟩)
section
variable {X : Cx}
def tFmtS (te : TE) (sp : Str) : TE := fun σ H Q => te σ H fun x H1 => ∃ i y, x = .int i ∧ FmtI sp i y ∧ Q (.str y) H1
theorem pe_fmtS {e spec : Expr} {te : TE} {sp : Str} {pos : Pos} (he : PE X e te) (hs : PE X spec (tC (.str sp))) : PE X (.FormattedValue e (-1) (some spec) pos) (tFmtS te sp) := by
  refine ⟨fun pins s σ H Q I h => ?_⟩
  refine wpAny_FormattedValue_spec (thn (he.run pins s σ H _ I h) fun v s1 hv => ?_)
  obtain ⟨x, H1, I1, r1, i, y, rfl, hf, q⟩ := hv
  obtain ⟨t, rfl⟩ := r1
  refine thn (hs.run pins s1 σ H1 (fun z H2 => z = .str sp ∧ Q (.str y) H2) I1 ⟨rfl, q⟩) fun v2 s2 hv => ?_
  obtain ⟨z, H2, I2, r2, rfl, q2⟩ := hv
  obtain ⟨t2, rfl⟩ := r2
  exact ⟨sp, t2, rfl, hf _ _ _ _ _ _ _ fun t' k => ⟨.str y, H2, I2.tok _, ⟨_, rfl⟩, q2⟩⟩
end
end LH

namespace LH
open PySem PySem.Spec PyProof.Rows L2
/-! ### tests told by their truth; an if by its two branches -/
def TellB (H : Hp) (c : Bool) (k : Bool → Hp → Prop) : Prop := ∀ H1, Same H H1 → k c H1
section
variable {t u : TT} {σ : L2.St} {H : Hp} {k : Bool → Hp → Prop}
theorem orT (c d : Bool) (ha : ∀ k', TellB H c k' → t σ H k') (hb : c = false → ∀ H1 k', Same H H1 → TellB H1 d k' → u σ H1 k') (q : TellB H (c || d) k) : tOr t u σ H k := by
  refine ha _ fun H1 s1 => ?_
  cases c with
  | true => exact iteT (q H1 s1)
  | false => exact iteF (hb rfl H1 k s1 fun H2 s2 => q H2 (s1.trans s2))
theorem andT (c d : Bool) (ha : ∀ k', TellB H c k' → t σ H k') (hb : c = true → ∀ H1 k', Same H H1 → TellB H1 d k' → u σ H1 k') (q : TellB H (c && d) k) : tAnd t u σ H k := by
  refine ha _ fun H1 s1 => ?_
  cases c with
  | true => exact iteT (hb rfl H1 k s1 fun H2 s2 => q H2 (s1.trans s2))
  | false => exact iteF (q H1 s1)
theorem notT (c : Bool) (ha : ∀ k', TellB H c k' → t σ H k') (q : TellB H (!c) k) : tNot t σ H k := ha _ fun H1 s1 => q H1 s1
theorem ifT {tc : TT} {t u : TS} {D : Ends} (c : Bool) (hc : ∀ k', TellB H c k' → tc σ H k') (ht : c = true → ∀ H1, Same H H1 → t D σ H1) (hf : c = false → ∀ H1, Same H H1 → u D σ H1) : tIfS tc t u D σ H := by
  refine hc _ fun H1 s1 => ?_
  cases c with
  | true => exact iteT (ht rfl H1 s1)
  | false => exact iteF (hf rfl H1 s1)
theorem ifK {tc : TT} {t u : TS} {D : Ends} (G : ∀ D' : Ends, D' = D → tIfS tc t u D' σ H) : tIfS tc t u D σ H := G D rfl
theorem TellB.eq {c d : Bool} (h : c = d) (q : TellB H d k) : TellB H c k := h ▸ q
end
/-! ### lengths and signs of slices -/
theorem cutTo_len (z : Str) (p : Nat) : (cutS z none (some (p : Int))).length = min p z.length := by rw [cutS_to, mk_len, List.length_take, ← TL.len_tl]
theorem cutFrom_len (z : Str) (p : Nat) : (cutS z (some (p : Int)) none).length = z.length - p := by rw [cutS_from, mk_len, List.length_drop, ← TL.len_tl]
theorem mem_cut {z : Str} {lo hi : Option Int} {c : Nat} (h : c ∈ TL.tl (cutS z lo hi)) : c ∈ TL.tl z := List.mem_of_mem_drop (List.mem_of_mem_take h)
theorem cutV_from (z : List V) (a : Nat) : cutV z (some (a : Int)) none = z.drop a := by
  have e : cutV z (some (a : Int)) none = cutV z (some (a : Int)) (some ((z.length : Nat) : Int)) := by
    unfold cutV
    rw [HT.sIx_none, HT.sIx_nat, HT.sIx_nat]
    simp
  rw [e, cutV_at, List.take_of_length_le (by simp)]
theorem vint_dec (a b : Int) : decide (V.int a = V.int b) = decide (a = b) := decide_eq_decide.mpr ⟨V.int.inj, congrArg _⟩
theorem vstr_dec (a b : Str) : decide (V.str a = V.str b) = decide (a = b) := decide_eq_decide.mpr ⟨V.str.inj, congrArg _⟩
theorem or_false' {a b : Bool} (h : (a || b) = false) : a = false ∧ b = false := by cases a <;> cases b <;> simp_all
end LH
namespace LH
open PySem PySem.Spec PyProof.Rows L2
/-! ### while, its test told by its truth -/
theorem whileT {c : TT} {tb : TS} {D : Ends} {σ : L2.St} {H : Hp} (Pv : L2.St → Hp → Prop) (μ : L2.St → Hp → Nat) (h0 : Pv σ H)
    (hs : ∀ σ H, Pv σ H → ∃ b : Bool, (∀ k, TellB H b k → c σ H k) ∧ (b = true → ∀ H1, Same H H1 → tb { D with nx := fun σ' H' => Pv σ' H' ∧ μ σ' H' < μ σ H, ct := fun σ' H' => Pv σ' H' ∧ μ σ' H' < μ σ H, bk := D.nx } σ H1) ∧ (b = false → ∀ H1, Same H H1 → D.nx σ H1)) : tWhile c tb D σ H := by
  refine ⟨fun m σ H => m = μ σ H ∧ Pv σ H, ⟨_, rfl, h0⟩, ?_⟩
  rintro m σ H ⟨rfl, p⟩
  obtain ⟨b, ht, h1, h2⟩ := hs σ H p
  refine ht _ fun H1 s1 => ?_
  cases b with
  | true => exact ⟨_, fun σ' H' ⟨p', l⟩ => ⟨_, l, rfl, p'⟩, h1 rfl H1 s1⟩
  | false => exact h2 rfl H1 s1
end LH

namespace LH
open PySem PySem.Spec PyProof.Rows L2
/-! ### a comprehension over two clauses, the second one over a new list that the first one's item leads to -/
theorem lc_two {K : PySem.W.Frag} {J : It} {n : Nat} {G : Hp → Prop} {wi1 : TI} {te : TE} {c c1 : Nat} {σ : L2.St} {H1 : Hp} {D : Addr} {Qd : Hp → Prop} (xs : Nat → V) (ys : Nat → List V) (f : Nat → Nat → V) (hne : c ≠ c1) (w : Walk J n G (YFn xs)) (hG : ∀ H, Same H1 H → G H) (hD : H1 D = none)
    (hn : ∀ i, i ≤ n → (((List.range i).map fun i => (List.range (ys i).length).map (f i)).flatten).length ≤ sizeLine)
    (hi : ∀ i H (R : It → Hp → Prop), i < n → Same H1 H → (∀ H' p, Same H H' → H p = none → H' p = some (.lst (ys i)) → R (Itl K p) H') → wi1 (((σ.set c1 none).set c none).set c (some (xs i))) H R)
    (he : ∀ i j H Q, i < n → j < (ys i).length → Same H1 H → Tell H (f i j) Q → te (((((σ.set c1 none).set c none).set c (some (xs i))).set c1 none).set c1 (some ((ys i).getD j .non))) H Q)
    (hd : ∀ H, Same H1 H → H D = some (.lst (((List.range n).map fun i => (List.range (ys i).length).map (f i)).flatten)) → Qd H) :
    ∃ W : Nat → Nat → Hp → Prop, (∃ m, W 0 m (upd H1 D (.lst []))) ∧ ∀ i m H, W i m H →
      (J.stop i H ∧ Qd H) ∨ (J.go i H ∧ ∃ Nx : Hp → Prop, (∀ H', Nx H' → ∃ m', m' < m ∧ W (i + 1) m' H') ∧ ∀ x H', J.yld i H x H' → gName c x (wipe σ [c, c1]) H' fun σ2 H2 => wipe σ2 [c, c1] = wipe σ [c, c1] ∧ tYes σ2 H2 fun b H3 =>
        if b = true then wi1 σ2 H3 fun J1 H4 => ∃ W1 : Nat → Nat → Hp → Prop, (∃ m, W1 0 m H4) ∧ ∀ j k H, W1 j k H →
          (J1.stop j H ∧ Nx H) ∨ (J1.go j H ∧ ∃ Nx1 : Hp → Prop, (∀ H', Nx1 H' → ∃ k', k' < k ∧ W1 (j + 1) k' H') ∧ ∀ x H', J1.yld j H x H' → gName c1 x (wipe σ2 [c1]) H' fun σ3 H5 => wipe σ3 [c1] = wipe σ2 [c1] ∧ tYes σ3 H5 fun b H6 =>
            if b = true then te σ3 H6 fun y H7 => ∃ acc, H7 D = some (.lst acc) ∧ acc.length < sizeLine ∧ Nx1 (upd H7 D (.lst (acc ++ [y]))) else Nx1 H6)
        else Nx H3) := by
  let A : Nat → List V := fun i => ((List.range i).map fun i => (List.range (ys i).length).map (f i)).flatten
  have hA : ∀ i, A (i + 1) = A i ++ (List.range (ys i).length).map (f i) := fun i => by
    show ((List.range (i + 1)).map _).flatten = _
    rw [List.range_succ, List.map_append, List.flatten_append]
    simp [A]
  refine ⟨fun i m H => m = n - i ∧ i ≤ n ∧ Same H1 H ∧ H D = some (.lst (A i)), ⟨n, by simp, Nat.zero_le _, same_upd hD, upd_same⟩, ?_⟩
  rintro i m H ⟨rfl, hin, sm, eD⟩
  have q := hG H sm
  by_cases hlt : i < n
  · refine .inr ⟨w.goes i H hlt q, fun H' => Same H1 H' ∧ H' D = some (.lst (A (i + 1))), fun H' p' => ⟨n - (i + 1), by omega, rfl, hlt, p'⟩, fun x H' y => ?_⟩
    obtain ⟨rfl, rfl⟩ := w.yields i H x H' hlt q y
    refine ⟨?_, ?_⟩
    · show (((((σ.set c1 none).set c none).set c (some (xs i))).set c1 none).set c none) = (σ.set c1 none).set c none
      rw [List.set_set, List.set_comm _ _ hne]
      simp only [List.set_set]
    · unfold tYes
      dsimp only
      rw [if_pos rfl]
      refine hi i H' _ hlt sm fun H4 p s4 np ep => ?_
      have hpD : p ≠ D := fun e => by rw [e, eD] at np; exact nomatch np
      have hl := hn (i + 1) hlt
      refine ⟨fun j k H => k = (ys i).length - j ∧ j ≤ (ys i).length ∧ Same H1 H ∧ H p = some (.lst (ys i)) ∧ H D = some (.lst (A i ++ ((List.range j).map (f i)))), ⟨(ys i).length, by simp, Nat.zero_le _, sm.trans s4, ep, by simpa using s4 _ _ eD⟩, ?_⟩
      rintro j k H5 ⟨rfl, hj, s5, e5, eD5⟩
      by_cases hjl : j < (ys i).length
      · refine .inr ⟨⟨ys i, (ys i)[j], .inl (.inl e5), by simp [hjl]⟩, fun H' => Same H1 H' ∧ H' p = some (.lst (ys i)) ∧ H' D = some (.lst (A i ++ ((List.range (j + 1)).map (f i)))), fun H' p' => ⟨(ys i).length - (j + 1), by omega, rfl, hjl, p'⟩, fun x H6 y => ?_⟩
        obtain ⟨rfl, hx⟩ := y
        have hx := hx (ys i) (.inl (.inl e5))
        have ex : x = (ys i).getD j .non := by rw [List.getD_eq_getElem?_getD, hx]; rfl
        subst ex
        refine ⟨?_, ?_⟩
        · show (((((((σ.set c1 none).set c none).set c (some (xs i))).set c1 none).set c1 (some ((ys i).getD j .non)))).set c1 none) = (((σ.set c1 none).set c none).set c (some (xs i))).set c1 none
          rw [List.set_set, List.set_set]
        · rw [if_pos rfl]
          refine he i j H6 _ hlt hjl s5 fun H7 s7 => ⟨_, s7 _ _ eD5, ?_, ?_, ?_, ?_⟩
          · have e1 : (A (i + 1)).length ≤ sizeLine := hl
            rw [hA, List.length_append, List.length_map, List.length_range] at e1
            rw [List.length_append, List.length_map, List.length_range]
            omega
          · intro b o hb
            rw [upd_ne (ne_of_none hb hD)]
            exact s7 _ _ (s5 _ _ hb)
          · rw [upd_ne hpD]
            exact s7 _ _ e5
          · rw [upd_same, List.range_succ, List.map_append, List.append_assoc]
            rfl
      · have hj2 : j = (ys i).length := by omega
        subst hj2
        refine .inl ⟨⟨ys i, .inl (.inl e5), Nat.le_refl _⟩, s5, ?_⟩
        rw [hA]
        exact eD5
  · have e : i = n := by omega
    subst e
    exact .inl ⟨w.stops H q, hd H sm eD⟩
end LH
namespace LH
open PySem PySem.Spec PyProof.Rows L2
theorem cutV_last (z : List V) : cutV z (some (-1)) none = z.drop (z.length - 1) := by
  unfold cutV
  rw [HT.sIx_none]
  have e : HT.sIx z.length 0 (some (-1)) = z.length - 1 := by
    show (if (-1 : Int) < 0 then (-1 + (z.length : Int)).toNat else min (-1 : Int).toNat z.length) = _
    rw [if_pos (by decide)]
    omega
  rw [e, List.take_of_length_le]
  rw [List.length_drop]
  exact Nat.le_refl _
theorem drop_last_eq {α : Type} (l : List α) (x : α) : l.drop (l.length - 1) = [x] ↔ l.getLast? = some x := by
  rcases List.eq_nil_or_concat l with h | ⟨L, y, h⟩
  · subst h; simp
  · rw [List.concat_eq_append] at h
    subst h
    rw [List.length_append, List.length_singleton, Nat.add_sub_cancel, List.drop_left, List.getLast?_concat]
    simp
end LH
namespace LH
open PySem PySem.Spec PyProof.Rows L2
theorem pi_listK {X : Cx} {tg e : Expr} {te : TE} (K : PySem.W.Frag) (he : PE X e te) (h : X.K = K := by rfl) : PI X tg e (iList K te) := h ▸ pi_list he
end LH

set_option maxHeartbeats 2000000
namespace LH
open PySem PySem.Spec PySem.Calls PyProof.Rows L2
/-! ### a, *b = a list -/
/-- a walk from its k-th item on -/
theorem walks_from {prog : Program} {w : World} {A : Around} {I : Addr} {fp wr : List Addr} {G : Array GenState → Array GenState → Prop} {n : Nat} {P : Nat → Value → Prop} {St : Nat → Shared → Prop} (W : WalksS prog w A I fp wr G n P St) (k : Nat) (hk : k ≤ n) :
    WalksS prog w A I fp wr G (n - k) (fun i v => P (k + i) v) (fun i s => St (k + i) s) where
  sub := W.sub
  grefl := W.grefl
  gtrans := W.gtrans
  frame := fun i => W.frame (k + i)
  item := fun i s Q E hi st hQ => W.item (k + i) s Q E (by omega) st fun v s' p st' m => hQ v s' p st' m
  done := fun s Q E st hQ => W.done s Q E (by rw [show k + (n - k) = n by omega] at st; exact st) hQ
  self := fun i => W.self (k + i)
section
variable {prog : Program} {w : World} {A : Around} {E : Value → Shared → Prop} {s : Shared}
theorem unpack_star {l : Addr} {x : Value} {r : List Value} {Q : List Value → Shared → Prop} (hh : A.handled = none) (hl : s.heap.IsList l (x :: r).toArray) (hz : r.length ≤ sizeLine)
    (hQ : ∀ (h' : Heap) (tk : Nat) (g : Array GenState), (∀ b o, s.heap.get? b = some o → h'.get? b = some o) → g = s.gens → Q [x, .ref h'.objs.size] { s with heap := h'.push { cls := .type "list", data := .seq r.toArray }, toks := tk, gens := g }) :
    wpAny (model prog w) A (unpackItems (.ref l) 2 (some 1)) Q E s := by
  have hlt : l ≠ s.heap.objs.size := by obtain ⟨o, ho, _⟩ := hl; exact Nat.ne_of_lt (Heap.lt_size ho)
  have hlit : l < s.heap.objs.size := by obtain ⟨o, ho, _⟩ := hl; exact Heap.lt_size ho
  unfold unpackItems
  refine wpAny_bind ?_
  unfold notIterableAtAll
  refine wpAny_bind (wpAny_specialOf hl.typeIs slot_list_iter.lookup ?_)
  refine wpAny_pure ?_
  simp only [Bool.false_eq_true, if_false]
  refine wpAny_bind (wpAny_holding (wpAny_pyIter_list hl ?_))
  generalize hS0 : s.heap.objs.size = it at *
  have hk0 : ∀ b o, s.heap.get? b = some o → (s.heap.push { cls := .type "list_iterator", data := .fields #[.ref l, .int 0 0] }).get? b = some o := fun b o e => Heap.get?_push_of_some _ e
  have hsz0 : (s.heap.push { cls := .type "list_iterator", data := .fields #[.ref l, .int 0 0] }).objs.size = it + 1 := by rw [Heap.size_push, hS0]
  have hit0 : (s.heap.push { cls := .type "list_iterator", data := .fields #[.ref l, .int 0 0] }).IsListIter it l 0 := ⟨_, by rw [← hS0]; exact Heap.get?_push_size _ rfl, rfl, rfl⟩
  have hl0 : (s.heap.push { cls := .type "list_iterator", data := .fields #[.ref l, .int 0 0] }).IsList l (x :: r).toArray := hl.push _
  generalize s.heap.push { cls := .type "list_iterator", data := .fields #[.ref l, .int 0 0] } = h1 at *
  refine wpAny_bind (wpAny_holding ?_)
  show wpAny _ _ (pyNext (.ref it) >>= _) _ _ _
  refine wpAny_bind (wpAny_pyNext_list_item (s := { s with heap := h1 }) hit0 hl0 (x := x) rfl fun h2 hit2 hs2 => ?_)
  refine wpAny_bind (wpAny_holding (wpAny_pure (wpAny_pure ?_)))
  rw [if_neg (by simp)]
  have hl2 : h2.IsList l (x :: r).toArray := hl0.extBut hs2.extBut hlt
  obtain ⟨oi, hoi, _⟩ := id hit2
  obtain ⟨ol, hol, _⟩ := id hl2
  refine wpAny_bind (wpAny_holding (wpAny_collect_iter (s := { s with heap := h2 }) (T := "list_iterator") (by simp) (walks_from (Walks.list (prog := prog) (w := w) (A := A.in1) hh it l hlt (x :: r).toArray).toS 1 (by simp))
    (fun i s' st => ?_) ⟨hit2, hl2⟩ (fun b hb => by simp only [List.mem_cons, List.not_mem_nil, or_false] at hb; rcases hb with rfl | rfl <;> first | exact Heap.lt_size hoi | exact Heap.lt_size hol) (by simp) (fun s' acc mv it' => ?_) (by simpa using hz)))
  · obtain ⟨o, ho, hc, _⟩ := st.1
    exact ⟨o, ho, hc⟩
  have eacc : acc.toList = r := by
    refine List.ext_getElem ?_ fun j h1 h2 => ?_
    · rw [Array.length_toList, it'.1]
      simp
    · have hj : acc[j]? = some acc[j] := Array.getElem?_eq_getElem (by simpa using h1)
      have this : (x :: r).toArray[1 + j]? = some acc[j] := it'.2 j _ hj
      rw [show 1 + j = j + 1 by omega] at this
      simp only [List.getElem?_toArray, List.getElem?_cons_succ] at this
      rw [List.getElem?_eq_getElem h2] at this
      rw [Array.getElem_toList]
      exact (Option.some.inj this).symm
  rw [eacc]
  simp only [show (2 : Nat) - 1 - 1 = 0 from rfl, Nat.not_lt_zero, if_false, Nat.sub_zero, List.take_length, List.drop_length, List.append_nil]
  obtain ⟨hp', gs', dr', tk', os'⟩ := s'
  obtain ⟨hp, gs, dr, tk, os⟩ := s
  obtain ⟨m1, m2, m3, m4⟩ := mv
  refine wpAny_bind (wpAny_newObj_type ?_ (show r.toArray.size ≤ sizeLine by simpa using hz))
  refine wpAny_pure ?_
  have e3 : dr' = dr := m3
  have e4 : os' = os := m4
  subst e3
  subst e4
  refine hQ hp' tk' gs' (fun b o e => m1 b o (fun hm => ?_) ?_) m2
  · have hb : b < it := by rw [← hS0]; exact Heap.lt_size e
    rw [List.mem_singleton.mp hm] at hb
    exact Nat.lt_irrefl _ hb
  · have hb : b ≠ it := Nat.ne_of_lt (by rw [← hS0]; exact Heap.lt_size e)
    exact hs2.extBut b o hb (hk0 b o e)
end
def gStar1 (K : PySem.W.Frag) (ti tj : TG) : TG := fun v σ H Q => ∃ (l : Addr) (x : V) (xs : List V), v = .ref l ∧ SqL K H l (x :: xs) ∧ ∀ D, H D = none → ti x σ (upd H D (.lst xs)) fun σ' H' => tj (.ref D) σ' H' Q
theorem pg_star1 {X : Cx} {e1 e2 : Expr} {ti tj : TG} {k : Nat} {p pos : Pos} (K : PySem.W.Frag) (hc : X.calm = true) (h1 : PG X e1 ti) (h2 : PG X e2 tj) (hK : X.K = K := by rfl)
    (hs : assignEach [e1, .Starred e2 p] X.env = [(false, assign e1 X.env), (true, assign e2 X.env)] := by rfl) : PG X (.Tuple [e1, .Starred e2 p] k pos) (gStar1 K ti tj) := by
  subst hK
  refine ⟨fun pins s σ H v u Q I r hw => ?_⟩
  obtain ⟨l, x, xs, rfl, hq, hw⟩ := hw
  cases r
  obtain ⟨its, rv, ⟨o, n, ho, hcl, hdd, hd⟩, hz⟩ := I.list hq
  cases rv with
  | @cons _ x' _ xs' rx rr =>
    rw [assign_Tuple]
    refine wpAny_bind (wpAny_standAt ?_)
    unfold unpack
    rw [hs]
    refine wpAny_bind (wpAny_holding (unpack_star (I.ok.hd hc) ⟨o, ho, hcl, n, hd⟩ (by have := rr.length; simp only [List.length_cons] at hz; omega) fun h' tk g kp eg => ?_))
    subst eg
    have I1 : Inv X pins σ H { s with heap := h', toks := tk } := I.kept (t' := tk) kp
    have I2 := I1.lnew (t' := tk) rr (by simp only [List.length_cons] at hz; omega)
    refine assignInOrder_cons (thn (h1.run pins _ σ _ _ _ _ I2 rx (hw _ I1.fresh)) fun _ s1 ⟨σ1, H1, J1, q1⟩ => ?_)
    exact assignInOrder_cons (thn (h2.run pins s1 σ1 H1 (.ref h'.objs.size) _ _ J1 (show RelV (.ref h'.objs.size) (.ref h'.objs.size) from rfl) q1) fun _ s2 ⟨σ2, H2, J2, q2⟩ => assignInOrder_nil ⟨σ2, H2, J2, q2⟩)
/-! ### xs == []: a list of another length, a dict -/
theorem list_eq_dict (l : Addr) (items : Array Value) (n : Nat) (b : Addr) (dd : Option Addr) (es : Array DictEntry) (ep : Nat) (sl : Array (Option Value)) :
    Meets (Builtin.«list.__eq__» ⟨[.ref l, .ref b], []⟩) (fun _ R s => s.heap.get? l = some { cls := .type "list", dict := none, data := .seq items n, slots := #[] } ∧ s.heap.get? b = some { cls := .type "dict", dict := dd, data := .dict es ep, slots := sl } ∧ R (.ok (.ret Value.notImplemented)) s) :=
  .of_wp fun prog w A R s h => by
    obtain ⟨hp, g, d, tk, os⟩ := s
    obtain ⟨hl, hb, h⟩ := h
    have f1 := F.sub_dict_list
    wp_walk using wpAny_loadPart' hl, wpAny_loadPart' hb
    exact ⟨_, rfl, h⟩
theorem dict_eq_list (l : Addr) (items : Array Value) (n : Nat) (b : Addr) (dd : Option Addr) (es : Array DictEntry) (ep : Nat) (sl : Array (Option Value)) :
    Meets (Builtin.«dict.__eq__» ⟨[.ref b, .ref l], []⟩) (fun _ R s => s.heap.get? l = some { cls := .type "list", dict := none, data := .seq items n, slots := #[] } ∧ s.heap.get? b = some { cls := .type "dict", dict := dd, data := .dict es ep, slots := sl } ∧ R (.ok (.ret Value.notImplemented)) s) :=
  .of_wp fun prog w A R s h => by
    obtain ⟨hp, g, d, tk, os⟩ := s
    obtain ⟨hl, hb, h⟩ := h
    have f1 := F.sub_list_dict
    wp_walk using wpAny_loadPart' hb, wpAny_loadPart' hl
    exact ⟨_, rfl, h⟩
/-- x == []: data, a list, or a dict -/
def rEqE (K : PySem.W.Frag) : R2 := fun x y H Q => rEqD K x y H Q ∨ (∃ (a b : Addr) (xs ys : List V), x = .ref a ∧ y = .ref b ∧ H a = some (.lst xs) ∧ H b = some (.lst ys) ∧ xs.length ≠ ys.length ∧ Q (.bl false) H) ∨
  ∃ (a b : Addr) (kvs : List (Key × V)) (ys : List V), x = .ref a ∧ y = .ref b ∧ H a = some (.dK kvs) ∧ H b = some (.lst ys) ∧ Q (.bl false) H
theorem op_eqE {X : Cx} (K : PySem.W.Frag) (hu : X.A.units + 64 < cLine) (hK : X.K = K := by rfl) : OpR X (compareOp .Eq) (rEqE K) := by
  intro pins s σ H x y v u Q I rx ry h
  rcases h with h | ⟨a, b, xs, ys, rfl, rfl, ea, eb, hne, q⟩ | ⟨a, b, kvs, ys, rfl, rfl, ea, eb, q⟩
  · exact oEqD K hu hK pins s σ H x y v u Q I rx ry h
  · obtain rfl : v = Value.ref a := rx
    obtain rfl : u = Value.ref b := ry
    obtain ⟨z1, ia, na, ra, la, ga⟩ := I.lstM ea
    obtain ⟨z2, ib, nb, rb, lb, gb⟩ := I.lstM eb
    exact P.eq_list_lengths ga gb (by simp only [List.size_toArray, bne_iff_ne]; omega) (by omega) ⟨.bl false, H, I, rfl, q⟩
  · obtain rfl : v = Value.ref a := rx
    obtain rfl : u = Value.ref b := ry
    obtain ⟨z2, ib, nb, rb, lb, gb⟩ := I.lstM eb
    obtain ⟨_, _, vs, _, o, es, ep, ga, hx, hd, _⟩ := (show ObjOk X.prog X.w H s.heap a (.dK kvs) from I.hok a _ ea)
    obtain ⟨oc, odc, odt, osl⟩ := o
    obtain ⟨h1, h2, h3⟩ := hx
    dsimp only at h1 h2 h3 hd
    subst h1
    subst h2
    subst h3
    subst hd
    have hab : a ≠ b := fun e => by
      have z := congrArg Obj.cls (Option.some.inj (gb.symm.trans (e ▸ ga)))
      exact absurd (show Value.type "list" = Value.type "dict" from z) (by decide)
    show wpAny _ _ (richCompare .Eq (.ref a) (.ref b)) _ _ _
    refine SeqAt.rc_eq_decline_or (Ta := "dict") (Tb := "list") (k := false) ⟨_, ga, rfl⟩ ⟨_, gb, rfl⟩ (by decide) F.sub_list_dict F.slot_dict_eq F.slot_list_eq_refl (fun Q' hq => ?_) (fun Q' hq => ?_) (fun Q' hq => SeqAt.wpAny_isSame_ref_other' hab ga gb (show Value.type "list" ≠ Value.type "tuple" by decide) hq) (.inr (by omega)) ⟨.bl false, H, I, rfl, q⟩
    · exact call_meets F.slot_dict_eq ⟨_, ga, rfl⟩ F.entry_dict_eq (F.args_dict_eq_2 _ _) (dict_eq_list b ib.toArray nb a none es ep #[]) ⟨gb, ga, hq⟩
    · exact call_meets F.slot_list_eq_refl ⟨_, gb, rfl⟩ F.entry_list_eq (F.args_list_eq_2 _ _) (list_eq_dict b ib.toArray nb a none es ep #[]) ⟨gb, ga, hq⟩
/-- a thing that is no empty list, as == tells it -/
def NotNil (K : PySem.W.Frag) (H : Hp) (x : V) : Prop := (∃ d, (∀ H', Same H H' → Dp K H' x d) ∧ SeqAt.shaped d = true ∧ PyData.eqv d (.list []) = false) ∨ (∃ (a : Addr) (xs : List V), x = .ref a ∧ H a = some (.lst xs) ∧ xs ≠ []) ∨ ∃ (a : Addr) (kvs : List (Key × V)), x = .ref a ∧ H a = some (.dK kvs)
theorem NotNil.eq {K : PySem.W.Frag} {H : Hp} {x : V} {p : Addr} {Q : VK} (h : NotNil K H x) (np : H p = none) (q : Q (.bl false) (upd H p (.lst []))) : rEqE K x (.ref p) (upd H p (.lst [])) Q := by
  have s := same_upd (o := .lst []) np
  rcases h with ⟨d, hd, hs, he⟩ | ⟨a, xs, rfl, ea, hne⟩ | ⟨a, kvs, rfl, ea⟩
  · exact .inl ⟨d, .list [], hd _ s, .lst (.inl (.inl upd_same)) .nil, hs, rfl, by rw [he]; exact q⟩
  · exact .inr (.inl ⟨a, p, xs, [], rfl, rfl, s _ _ ea, upd_same, fun e => hne (List.length_eq_zero_iff.mp e), q⟩)
  · exact .inr (.inr ⟨a, p, kvs, [], rfl, rfl, s _ _ ea, upd_same, q⟩)
end LH

set_option maxHeartbeats 2000000
namespace LH
open PySem PySem.Spec PySem.Calls PyProof.Rows L2 Builtin Builtin.Str Builtin.Int Builtin.Float
/-! ### a number by two or four figures -/
theorem dig_char : ∀ d : Fin 10, (Nat.digitChar d.val).toNat = 48 + d.val := by decide
def digs (n : Nat) : List Nat := (Nat.toDigits 10 n).map fun c => (if (100 : Nat) == 88 then c.toUpper else c).toNat
theorem digs_lt {n : Nat} (h : n < 10) : digs n = [48 + n] := by
  unfold digs
  rw [Nat.toDigits_of_lt_base h]
  exact congrArg (fun x => [x]) (dig_char ⟨n, h⟩)
theorem digs_ge {n : Nat} (h : 10 ≤ n) : digs n = digs (n / 10) ++ [48 + n % 10] := by
  unfold digs
  rw [Nat.toDigits_of_base_le (by decide) h, List.map_append]
  exact congrArg (fun x => _ ++ [x]) (dig_char ⟨n % 10, Nat.mod_lt _ (by decide)⟩)
theorem dec4_eq {n : Nat} (h : n < 10000) : decT 4 ((n : Nat) : Int) = ⟨#[48 + n / 1000, 48 + n / 100 % 10, 48 + n / 10 % 10, 48 + n % 10]⟩ := by
  have key : ∀ a b c d : Nat, digs n = [d] ∧ a = 48 ∧ b = 48 ∧ c = 48 ∨ digs n = [c, d] ∧ a = 48 ∧ b = 48 ∨ digs n = [b, c, d] ∧ a = 48 ∨ digs n = [a, b, c, d] → decT 4 ((n : Nat) : Int) = ⟨#[a, b, c, d]⟩ := by
    intro a b c d hk
    unfold decT
    rw [show decide (((n : Nat) : Int) < 0) = false from decide_eq_false (by omega), show ((n : Nat) : Int).natAbs = n from rfl]
    show intField' (decF 4) false [] (digs n) [] 3 = _
    rcases hk with ⟨h, rfl, rfl, rfl⟩ | ⟨h, rfl, rfl⟩ | ⟨h, rfl⟩ | h <;> rw [h] <;> rfl
  refine key _ _ _ _ ?_
  by_cases h1 : n < 10
  · exact .inl ⟨by rw [digs_lt h1, show n % 10 = n by omega], by omega, by omega, by omega⟩
  · by_cases h2 : n < 100
    · exact .inr (.inl ⟨by rw [digs_ge (by omega), digs_lt (by omega)]; simp; omega, by omega, by omega⟩)
    · by_cases h3 : n < 1000
      · refine .inr (.inr (.inl ⟨?_, by omega⟩))
        rw [digs_ge (by omega), digs_ge (by omega), digs_lt (by omega)]
        simp
        omega
      · refine .inr (.inr (.inr ?_))
        rw [digs_ge (by omega), digs_ge (by omega), digs_ge (by omega), digs_lt (by omega)]
        simp
        omega
set_option maxHeartbeats 4000000 in
theorem fmt_dec2 {n : Nat} (h : n < 100) : FmtI (Str.ofString "02d") ((n : Nat) : Int) ⟨#[48 + n / 10, 48 + n % 10]⟩ := by
  intro prog w A E s t Q q
  have hlen : (decT 2 ((n : Nat) : Int)).length ≤ sizeLine := by rw [dec2_eq h, sizeLine_eq]; show 2 ≤ 16777216; decide
  rw [← dec2_eq h] at q
  refine PySem.W.KXf.field_int (spec' := Str.ofString "02d") (y := decT 2 ((n : Nat) : Int)) rfl (by decide +kernel) (by decide +kernel) ?_ q
  intro _
  apply PySem.W.KPc.meets_of
  intro _ _ _ _ _ _ _
  unfold Builtin.«int.__format__»
  refine wpAny_bind (wpAny_of_eq (a := (_, _)) rfl ?_)
  refine wpAny_bind (wpAny_of_eq (a := _) rfl ?_)
  kxf_if
  refine wpAny_bind (wpAny_typeNameOf (T := "str") (typeIs_str _ _ _) (by decide) fun _ => ?_)
  refine wpAny_bind (wpAny_of_eq (a := some _) rfl ?_)
  kxf_if
  kxf_if
  refine wpAny_bind (wpAny_typeNameOfCut_int ?_)
  simp only [dec2_parse, decF]
  (repeat kxf_if)
  have hlog : ((n : Nat) : Int).natAbs.log2 < 1920 := by
    rw [Int.natAbs_natCast]
    by_cases h0 : n = 0
    · rw [h0]; decide
    · have : n.log2 < 20 := (Nat.log2_lt h0).mpr (by omega)
      omega
  refine wpAny_bind (m := Builtin.overDigitLimit? ((n : Nat) : Int)) (wpAny_of_eq (PySem.overDigitLimit_small hlog) ?_)
  refine PySem.W.KXf.ret_text (T := decT 2 ((n : Nat) : Int)) rfl hlen ?_
  assumption
set_option maxHeartbeats 4000000 in
theorem fmt_dec4 {n : Nat} (h : n < 10000) : FmtI (Str.ofString "04d") ((n : Nat) : Int) ⟨#[48 + n / 1000, 48 + n / 100 % 10, 48 + n / 10 % 10, 48 + n % 10]⟩ := by
  intro prog w A E s t Q q
  have hlen : (decT 4 ((n : Nat) : Int)).length ≤ sizeLine := by rw [dec4_eq h, sizeLine_eq]; show 4 ≤ 16777216; decide
  rw [← dec4_eq h] at q
  refine PySem.W.KXf.field_int (spec' := Str.ofString "04d") (y := decT 4 ((n : Nat) : Int)) rfl (by decide +kernel) (by decide +kernel) ?_ q
  intro _
  apply PySem.W.KPc.meets_of
  intro _ _ _ _ _ _ _
  unfold Builtin.«int.__format__»
  refine wpAny_bind (wpAny_of_eq (a := (_, _)) rfl ?_)
  refine wpAny_bind (wpAny_of_eq (a := _) rfl ?_)
  kxf_if
  refine wpAny_bind (wpAny_typeNameOf (T := "str") (typeIs_str _ _ _) (by decide) fun _ => ?_)
  refine wpAny_bind (wpAny_of_eq (a := some _) rfl ?_)
  kxf_if
  kxf_if
  refine wpAny_bind (wpAny_typeNameOfCut_int ?_)
  simp only [dec4_parse, decF]
  (repeat kxf_if)
  have hlog : ((n : Nat) : Int).natAbs.log2 < 1920 := by
    rw [Int.natAbs_natCast]
    by_cases h0 : n = 0
    · rw [h0]; decide
    · have : n.log2 < 20 := (Nat.log2_lt h0).mpr (by omega)
      omega
  refine wpAny_bind (m := Builtin.overDigitLimit? ((n : Nat) : Int)) (wpAny_of_eq (PySem.overDigitLimit_small hlog) ?_)
  refine PySem.W.KXf.ret_text (T := decT 4 ((n : Nat) : Int)) rfl hlen ?_
  assumption
/-! ### x in a text or a list -/
def rInBoth (K : PySem.W.Frag) : R2 := fun x y H Q => (∃ (c : Nat) (z : Str), x = .str ⟨#[c]⟩ ∧ y = .str z ∧ Q (.bl (decide (c ∈ z.cps.toList))) H) ∨ rIn K false x y H Q
theorem op_inBoth {X : Cx} (K : PySem.W.Frag) (hK : X.K = K := by rfl) : OpR X (compareOp .In) (rInBoth K) := fun pins s σ H x y v u Q I rx ry h => h.elim (fun h => op_in_sign pins s σ H x y v u Q I rx ry h) (fun h => oIn K hK pins s σ H x y v u Q I rx ry h)
/-- a method as its callers see it -/
structure DefM (P : Program) (w : World) (K : PySem.W.Frag) (mg : Str → Option Value) (base : Heap) (C : Addr) (m : Str) (k : Nat) (f : Addr) (fd : FuncData) (ps : List Str) (sp : Sp) : Prop where
  c : Cls K C
  hm : Meth K C m f
  ok : FnOk P w K mg base CX0 k f fd ps sp
  bd : Binds K fd ps []
/-- a class that is called -/
structure DefC (P : Program) (w : World) (K : PySem.W.Frag) (mg : Str → Option Value) (base : Heap) (x : Str) (C : Addr) (k : Nat) (f : Addr) (fd : FuncData) (ps : List Str) (sp : Sp) : Prop where
  make : Mk K C f
  ok : FnOk P w K mg base CX0 k f fd ps sp
  mg : mg x = some (.ref C)
  bd : Binds K fd ps []
/-- all but the object at a stays -/
def SameBut (a : Addr) (H H' : Hp) : Prop := ∀ b o, b ≠ a → H b = some o → H' b = some o
theorem SameBut.refl (a : Addr) (H : Hp) : SameBut a H H := fun _ _ _ e => e
theorem SameBut.trans {a : Addr} {H H' H2 : Hp} (h : SameBut a H H') (g : SameBut a H' H2) : SameBut a H H2 := fun b o hb e => g b o hb (h b o hb e)
theorem SameBut.of {a : Addr} {H H' : Hp} (h : Same H H') : SameBut a H H' := fun b o _ e => h b o e
theorem SameBut.upd (a : Addr) (H : Hp) (o : HO) : SameBut a H (upd H a o) := fun b u hb e => by rw [upd_ne hb]; exact e
end LH

namespace LH
open PySem PySem.Spec PyProof.Rows L2 Builtin Builtin.Str PySem.StrLaws
/-! ### a text of which nothing is left when some signs are taken from its ends -/
theorem has_mem (y : Str) (c : Nat) : y.cps.contains c = decide (c ∈ TL.tl y) := by
  show y.cps.contains c = decide (c ∈ y.cps.toList)
  simp
theorem strip_none (x y : Str) : (Txt.stripChars x y = ⟨#[]⟩) ↔ (TL.tl x).all (fun c => decide (c ∈ TL.tl y)) = true := by
  have hl : x.cps.toList.length = x.length := by simp [Str.length]
  unfold Txt.stripChars
  rw [stripBy_eq]
  obtain ⟨l1, l2, l3⟩ := lo_facts y.cps.contains x
  obtain ⟨h1, h2, h3, h4⟩ := hi_facts y.cps.contains x (stripLo y.cps.contains true x) l1
  generalize stripLo y.cps.contains true x = lo at *
  generalize stripHi y.cps.contains true x lo = hi at *
  have hs : (strSub x lo hi).cps.toList = (x.cps.toList.drop lo).take (hi - lo) := strSub_toList ..
  have hg : ∀ k, k < x.length → (x.cps.getD k 0) ∈ x.cps.toList := fun k hk => by
    rw [← getD_list, List.getD_eq_getElem?_getD, List.getElem?_eq_getElem (by rw [hl]; exact hk)]
    exact List.getElem_mem _
  rw [List.all_eq_true]
  constructor
  · intro e c hc
    have e0 : (x.cps.toList.drop lo).take (hi - lo) = [] := by rw [← hs, e]
    have e1 : hi = lo := by
      have := congrArg List.length e0
      rw [List.length_take, List.length_drop, hl, List.length_nil] at this
      omega
    have hc' : c ∈ x.cps.toList := hc
    obtain ⟨k, hk, e2⟩ := List.getElem_of_mem hc'
    have ek : c = x.cps.getD k 0 := by
      rw [← getD_list, List.getD_eq_getElem?_getD, List.getElem?_eq_getElem hk, ← e2]; rfl
    rw [hl] at hk
    rw [← has_mem, ek]
    by_cases hkl : k < lo
    · exact l2 k hkl
    · exact h3 k (by omega) hk
  · intro ha
    have hb : ∀ k, k < x.length → y.cps.contains (x.cps.getD k 0) = true := fun k hk => by rw [has_mem]; exact ha _ (hg k hk)
    have : lo = x.length := by
      rcases l3 with h | h
      · exact h
      · by_cases hlt : lo < x.length
        · rw [hb lo hlt] at h; cases h
        · omega
    have e : (x.cps.toList.drop lo).take (hi - lo) = [] := by
      apply List.eq_nil_of_length_eq_zero
      rw [List.length_take, List.length_drop, hl]; omega
    apply TL.ext_tl
    show (strSub x lo hi).cps.toList = []
    rw [hs, e]
theorem strip_eq (x y : Str) : decide (V.str (Txt.stripChars x y) = V.str (Str.ofString "")) = (TL.tl x).all (fun c => decide (c ∈ TL.tl y)) := by
  have e0 : (Str.ofString "") = ⟨#[]⟩ := by decide +kernel
  rw [e0]
  by_cases h : (TL.tl x).all (fun c => decide (c ∈ TL.tl y)) = true
  · rw [h, decide_eq_true (congrArg V.str ((strip_none x y).mpr h))]
  · rw [Bool.not_eq_true] at h
    rw [h, decide_eq_false (fun e => by rw [(strip_none x y).mp (V.str.inj e)] at h; cases h)]
end LH

namespace LH
open PySem PySem.Spec PyProof.Rows L2
/-! ### the sum of a tuple of whole numbers; a slice of a tuple, the whole of it too -/
def rSumT (K : PySem.W.Frag) : List V → Hp → VK → Prop := fun vs H Q => ∃ (a : Addr) (ns : List Int), vs = [V.ref a] ∧ SqT K H a (ns.map V.int) ∧ Q (.int ns.sum) H
theorem cr_sumT {X : Cx} (hc : X.calm = true) : CallR X (.builtin "sum") (rSumT X.K) := by
  intro pins s σ H vs us Q I r h
  obtain ⟨a, ns, rfl, hs, q⟩ := h
  obtain ⟨its, rv, hl, _⟩ := I.tuple hs
  rw [Vals.ref1 r]
  obtain ⟨xs, e⟩ := rv.ints.allInts.items
  have hn : numsOf (intItems xs).toList = ns := by rw [← e]; exact rv.ints.numsOf
  rw [nums_intItems] at hn
  rw [e] at hl
  refine PySem.W.ktm_sumG (I.ok.hd hc) hl fun h' tk t' hk => ?_
  have : preSum (numAt xs) xs.size = ns.sum := by rw [preSum_eq, List.take_of_length_le (by simp), hn]
  rw [this]
  exact ⟨.int _, H, I.kept hk, ⟨_, rfl⟩, q⟩
theorem sumT (K : PySem.W.Frag) {X : Cx} (hc : X.calm = true) (h : X.K = K := by rfl) : CallR X (.builtin "sum") (rSumT K) := h ▸ cr_sumT hc
theorem slA (K : PySem.W.Frag) {X : Cx} (h : X.K = K := by rfl) : SlR X (rSlA K) := h ▸ sl_tupA
end LH

namespace LH
open PySem PySem.Spec PyProof.Rows L2
/-! ### x not in a tuple of lists; a comprehension over enumerate(list) -/
def rNotInTD (K : PySem.W.Frag) : R2 := fun x y H Q => ∃ d ds, Dp K H x d ∧ Dp K H y (.tuple ds) ∧ SeqAt.shaped d = true ∧ PyData.canLayAll0 ds = true ∧ Q (.bl (!ds.any fun z => PyData.eqv z d)) H
theorem notInTD (K : PySem.W.Frag) {X : Cx} (hu : X.A.units + 65 < cLine) (h : X.K = K := by rfl) : OpR X (compareOp .NotIn) (rNotInTD K) := by
  subst h
  intro pins s σ H x y v u Q I rx ry h
  obtain ⟨d, ds, hd, he, sd, se, q⟩ := h
  obtain ⟨as, r1⟩ := Dp.reads I d x v hd rx
  obtain ⟨bs, r2⟩ := Dp.reads I (.tuple ds) y u he ry
  exact SeqAt.notIn_tuple_reads r2 r1 se (SeqAt.canLay_of_shaped sd) (room_in_shaped sd hu) ⟨.bl _, H, I, rfl, q⟩
theorem lc_enumF {K : PySem.W.Frag} {a : Addr} {tt : TT} {te : TE} {c1 c2 : Nat} {σ : L2.St} {H1 : Hp} {D : Addr} {Qd : Hp → Prop} (xs : List V) (f : Nat → V) (b : Nat → Bool) (hne : c1 ≠ c2) (hL : SqL K H1 a xs) (hD : H1 D = none) (hn : xs.length ≤ sizeLine)
    (ht : ∀ (i : Nat) (H : Hp) (Q : Bool → Hp → Prop), i < xs.length → Same H1 H → (∀ H', Same H H' → Q (b i) H') → tt ((((σ.set c2 none).set c1 none).set c1 (some (.int (i : Nat)))).set c2 (some (xs.getD i .non))) H Q)
    (he : ∀ i H Q, i < xs.length → Same H1 H → b i = true → Tell H (f i) Q → te ((((σ.set c2 none).set c1 none).set c1 (some (.int (i : Nat)))).set c2 (some (xs.getD i .non))) H Q)
    (hd : ∀ H, Same H1 H → H D = some (.lst (((List.range xs.length).filter b).map f)) → Qd H) :
    ∃ W : Nat → Nat → Hp → Prop, (∃ m, W 0 m (upd H1 D (.lst []))) ∧ ∀ i m H, W i m H →
      ((Ite K a).stop i H ∧ Qd H) ∨ ((Ite K a).go i H ∧ ∃ Nx : Hp → Prop, (∀ H', Nx H' → ∃ m', m' < m ∧ W (i + 1) m' H') ∧ ∀ x H', (Ite K a).yld i H x H' → gTup K 2 (gCons (gName c1) (gCons (gName c2) gNil)) x (wipe σ [c1, c2]) H' fun σ2 H2 => wipe σ2 [c1, c2] = wipe σ [c1, c2] ∧ tt σ2 H2 fun b H3 =>
        if b = true then te σ2 H3 fun y H4 => ∃ acc, H4 D = some (.lst acc) ∧ acc.length < sizeLine ∧ Nx (upd H4 D (.lst (acc ++ [y]))) else Nx H3) := by
  refine lc_it walk_enum (fun i H => Same H1 H ∧ H D = some (.lst (((List.range i).filter b).map f))) ⟨same_upd hD, upd_same⟩ (fun i H _ h => h.1.seq hL) (fun i x H H' hi hP hy => ?_) (fun H h => hd H h.1 h.2)
  obtain ⟨sm, eD⟩ := hP
  obtain ⟨T, x1, x2, rfl, nT, rfl, f1, f2⟩ := hy
  obtain rfl := Option.some.inj f1
  have f2 : xs[i]? = some x2 := f2
  have ex : x2 = xs.getD i .non := by rw [List.getD_eq_getElem?_getD, f2]; rfl
  subst ex
  have sT := same_upd (o := .tup [.int (i : Nat), xs.getD i .non]) nT
  refine ⟨T, _, rfl, .inl (.inl upd_same), rfl, _, _, rfl, _, _, rfl, rfl, ?_, ?_⟩
  · show (((((σ.set c2 none).set c1 none).set c1 (some (.int (i : Nat)))).set c2 (some (xs.getD i .non))).set c2 none).set c1 none = (σ.set c2 none).set c1 none
    rw [List.set_set, List.set_set, List.set_comm _ _ hne, List.set_set, List.set_comm _ _ hne.symm, List.set_comm _ _ hne, List.set_set]
  · refine ht i _ _ hi (sm.trans sT) fun H2 s2 => ?_
    have s2 := sT.trans s2
    cases hb : b i with
    | true =>
      rw [if_pos rfl]
      refine he i H2 _ hi (sm.trans s2) hb fun H3 s3 => ⟨_, s3 _ _ (s2 _ _ eD), ?_, ?_, ?_⟩
      · rw [List.length_map]
        have := List.length_filter_le b (List.range i)
        rw [List.length_range] at this
        omega
      · intro b' o hb'
        rw [upd_ne (ne_of_none hb' hD)]
        exact s3 _ _ (s2 _ _ (sm _ _ hb'))
      · rw [upd_same, List.range_succ, List.filter_append, List.map_append]
        simp [hb]
    | false =>
      rw [if_neg Bool.false_ne_true]
      refine ⟨sm.trans s2, ?_⟩
      rw [s2 _ _ eD, List.range_succ, List.filter_append, List.map_append]
      simp [hb]
/-- 'abc'[k].replace(' ', ''): the written text's own token is out by then -/
theorem pe_replIx {X : Cx} {r : R2} {c y z : Str} {b : Expr} {tb : TE} {j j0 k : Nat} {c0 c1 p0 p1 apos pos : Pos} (hr : IxR X r) (hb : PE X b tb) (hs : PlainIx b) (hyz : (y == z) = false := by decide)
    (hst : starEach [.Constant (.str y) j c0, .Constant (.str z) k c1] X.env = [(false, eval (.Constant (.str y) j c0) X.env), (false, eval (.Constant (.str z) k c1) X.env)] := by rfl)
    (hbase : attributeBase (.Subscript (.Constant (.str c) j0 p0) b p1) "replace" X.env (eval (.Subscript (.Constant (.str c) j0 p0) b p1) X.env) = eval (.Subscript (.Constant (.str c) j0 p0) b p1) X.env := by rfl) (hline : (apos.endLine == pos.line) = true := by rfl) :
    PE X (.Call (.Attribute (.Subscript (.Constant (.str c) j0 p0) b p1) "replace" apos) [.Constant (.str y) j c0, .Constant (.str z) k c1] [] pos) (CwR.tReplC (tOp r (tC (.str c)) tb) y z) := by
  refine ⟨fun pins s σ H Q I h => ?_⟩
  refine PySem.Call_method2 hbase hst hline (Subscript_ (Calls.Constant_str ?_))
  refine wpAny_mono (PySem.wpAny_toks_of (n := 1) (by show 1 ≤ s.toks + 1; omega) (hb.run pins _ σ H _ (I.tok _) h)) (fun u s2 q => ?_) fun _ _ x => x.2
  obtain ⟨hk, yv, H2, I2, r2, q2⟩ := q
  refine wpAny_mono (PySem.wpAny_toks_of hk (hr _ _ pins s2 σ H2 (.str c) yv _ u _ I2 ⟨_, rfl⟩ r2 q2 (hs _ _))) (fun v s3 q => ?_) fun _ _ x => x.2
  obtain ⟨hk3, v', H3, I3, r3, x, e1, hb3, q⟩ := q
  subst e1
  obtain ⟨tx, rfl⟩ := r3
  refine ⟨"str", _, PySem.F.plainAttrs_str, PySem.F.slot_str_replace, PySem.F.type_str_replace, typeIs_str _ _ _, (fun _ e => nomatch e), Calls.callWith_builtin rfl (Calls.evalArgs_plain (Calls.spliced_cons (Calls.Constant_str (Calls.spliced_cons (Calls.Constant_str (Calls.spliced_nil ?_))))))⟩
  exact PySem.SC.replace (by show s3.toks ≠ 0; omega) (by show s3.toks + 1 ≠ 0; omega) (by show s3.toks ≠ s3.toks + 1; omega) hyz hb3 fun t' k => ⟨.str (Txt.replace x y z), H3, I3.tok k, ⟨t', rfl⟩, q⟩
end LH

namespace LH
open PySem PySem.Spec PyProof.Rows L2
/-! ### comprehensions whose elements are known by a property alone -/
theorem lc_dem {J : It} {n : Nat} {G : Hp → Prop} {te : TE} {c : Nat} {σ : L2.St} {H1 : Hp} {D : Addr} {Qd : Hp → Prop} (xs : Nat → V) (Pe : Nat → V → Prop) (w : Walk J n G (YFn xs)) (hG : ∀ H, Same H1 H → G H) (hD : H1 D = none) (hn : n ≤ sizeLine)
    (he : ∀ i H Q, i < n → Same H1 H → (∀ H' v, Same H H' → Pe i v → Q v H') → te ((σ.set c none).set c (some (xs i))) H Q)
    (hd : ∀ H vs, Same H1 H → vs.length = n → (∀ i, i < n → Pe i (vs.getD i .non)) → H D = some (.lst vs) → Qd H) :
    ∃ W : Nat → Nat → Hp → Prop, (∃ m, W 0 m (upd H1 D (.lst []))) ∧ ∀ i m H, W i m H →
      (J.stop i H ∧ Qd H) ∨ (J.go i H ∧ ∃ Nx : Hp → Prop, (∀ H', Nx H' → ∃ m', m' < m ∧ W (i + 1) m' H') ∧ ∀ x H', J.yld i H x H' → gName c x (wipe σ [c]) H' fun σ2 H2 => wipe σ2 [c] = wipe σ [c] ∧ tYes σ2 H2 fun b H3 =>
        if b = true then te σ2 H3 fun y H4 => ∃ acc, H4 D = some (.lst acc) ∧ acc.length < sizeLine ∧ Nx (upd H4 D (.lst (acc ++ [y]))) else Nx H3) := by
  refine lc_it w (fun i H => Same H1 H ∧ ∃ vs : List V, vs.length = i ∧ (∀ j, j < i → Pe j (vs.getD j .non)) ∧ H D = some (.lst vs)) ⟨same_upd hD, [], rfl, fun j hj => absurd hj (Nat.not_lt_zero j), upd_same⟩ (fun i H _ h => hG H h.1) (fun i x H H' hi hP hy => ?_) (fun H h => by
    obtain ⟨sm, vs, hl, hv, e⟩ := h
    exact hd H vs sm hl hv e)
  obtain ⟨sm, vs, hl, hv, eD⟩ := hP
  obtain ⟨rfl, rfl⟩ := hy
  refine ⟨?_, ?_⟩
  rotate_left
  · unfold tYes
    dsimp only
    rw [if_pos rfl]
    refine he i H' _ hi sm fun H3 v s3 pv => ⟨_, s3 _ _ eD, by omega, ?_, vs ++ [v], by rw [List.length_append, hl]; rfl, fun j hj => ?_, upd_same⟩
    · intro b' o hb'
      rw [upd_ne (ne_of_none hb' hD)]
      exact s3 _ _ (sm _ _ hb')
    · by_cases hj2 : j < i
      · rw [getD_app_l _ _ _ (by omega)]
        exact hv j hj2
      · have : j = i := by omega
        subst this
        rw [getD_app_r _ _ _ (by omega), hl, Nat.sub_self]
        exact pv
  · show (((σ.set c none).set c (some (xs i))).set c none) = σ.set c none
    rw [List.set_set, List.set_set]
theorem lc_enumD {K : PySem.W.Frag} {a : Addr} {te : TE} {c1 c2 : Nat} {σ : L2.St} {H1 : Hp} {D : Addr} {Qd : Hp → Prop} (xs : List V) (Pe : Nat → V → Prop) (hne : c1 ≠ c2) (hL : SqL K H1 a xs) (hD : H1 D = none) (hn : xs.length ≤ sizeLine)
    (he : ∀ i H Q, i < xs.length → Same H1 H → (∀ H' v, Same H H' → Pe i v → Q v H') → te ((((σ.set c2 none).set c1 none).set c1 (some (.int (i : Nat)))).set c2 (some (xs.getD i .non))) H Q)
    (hd : ∀ H vs, Same H1 H → vs.length = xs.length → (∀ i, i < xs.length → Pe i (vs.getD i .non)) → H D = some (.lst vs) → Qd H) :
    ∃ W : Nat → Nat → Hp → Prop, (∃ m, W 0 m (upd H1 D (.lst []))) ∧ ∀ i m H, W i m H →
      ((Ite K a).stop i H ∧ Qd H) ∨ ((Ite K a).go i H ∧ ∃ Nx : Hp → Prop, (∀ H', Nx H' → ∃ m', m' < m ∧ W (i + 1) m' H') ∧ ∀ x H', (Ite K a).yld i H x H' → gTup K 2 (gCons (gName c1) (gCons (gName c2) gNil)) x (wipe σ [c1, c2]) H' fun σ2 H2 => wipe σ2 [c1, c2] = wipe σ [c1, c2] ∧ tYes σ2 H2 fun b H3 =>
        if b = true then te σ2 H3 fun y H4 => ∃ acc, H4 D = some (.lst acc) ∧ acc.length < sizeLine ∧ Nx (upd H4 D (.lst (acc ++ [y]))) else Nx H3) := by
  refine lc_it walk_enum (fun i H => Same H1 H ∧ ∃ vs : List V, vs.length = i ∧ (∀ j, j < i → Pe j (vs.getD j .non)) ∧ H D = some (.lst vs)) ⟨same_upd hD, [], rfl, fun j hj => absurd hj (Nat.not_lt_zero j), upd_same⟩ (fun i H _ h => h.1.seq hL) (fun i x H H' hi hP hy => ?_) (fun H h => by
    obtain ⟨sm, vs, hl, hv, e⟩ := h
    exact hd H vs sm hl hv e)
  obtain ⟨sm, vs, hl, hv, eD⟩ := hP
  obtain ⟨T, x1, x2, rfl, nT, rfl, f1, f2⟩ := hy
  obtain rfl := Option.some.inj f1
  have f2 : xs[i]? = some x2 := f2
  have ex : x2 = xs.getD i .non := by rw [List.getD_eq_getElem?_getD, f2]; rfl
  subst ex
  have sT := same_upd (o := .tup [.int (i : Nat), xs.getD i .non]) nT
  refine ⟨T, _, rfl, .inl (.inl upd_same), rfl, _, _, rfl, _, _, rfl, rfl, ?_, ?_⟩
  · show (((((σ.set c2 none).set c1 none).set c1 (some (.int (i : Nat)))).set c2 (some (xs.getD i .non))).set c2 none).set c1 none = (σ.set c2 none).set c1 none
    rw [List.set_set, List.set_set, List.set_comm _ _ hne, List.set_set, List.set_comm _ _ hne.symm, List.set_comm _ _ hne, List.set_set]
  · unfold tYes
    dsimp only
    rw [if_pos rfl]
    refine he i _ _ hi (sm.trans sT) fun H3 v s3 pv => ⟨_, s3 _ _ (sT _ _ eD), by omega, ?_, vs ++ [v], by rw [List.length_append, hl]; rfl, fun j hj => ?_, upd_same⟩
    · intro b' o hb'
      rw [upd_ne (ne_of_none hb' hD)]
      exact s3 _ _ (sT _ _ (sm _ _ hb'))
    · by_cases hj2 : j < i
      · rw [getD_app_l _ _ _ (by omega)]
        exact hv j hj2
      · have : j = i := by omega
        subst this
        rw [getD_app_r _ _ _ (by omega), hl, Nat.sub_self]
        exact pv
/-! ### while a written text is in x: x = x.replace(..) -/
def PTt (X : Cx) (e : Expr) (t : TT) : Prop := ∀ (pins : List (Addr × Obj)) (s : Shared) (σ : L2.St) (H : Hp) (Q : Bool → Hp → Prop), Inv X pins σ H s → t σ H Q → wpAny (model X.prog X.w) X.A (isTrue e X.env (eval e X.env)) (fun b s' => 1 ≤ s'.toks ∧ TP X pins σ Q b s') X.xe s
theorem ptt_inStr {X : Cx} {op : CmpOp} {r : R2} {c : Str} {b : Expr} {tb : TE} {j0 : Nat} {p0 pos : Pos} (ho : OpR X (compareOp op) r) (hb : PE X b tb) (hm : behindInMarks op b = false) : PTt X (.Compare (.Constant (.str c) j0 p0) [op] [b] pos) (tTest (tOp r (tC (.str c)) tb)) := by
  intro pins s σ H Q I h
  refine wpAny_isTrue_Compare1 (Calls.Constant_str ?_) hm
  refine wpAny_mono (PySem.wpAny_toks_of (n := 1) (by show 1 ≤ s.toks + 1; omega) (hb.run pins _ σ H _ (I.tok _) h)) (fun u s2 q => ?_) fun _ _ x => x.2
  obtain ⟨hk, y, H2, I2, r2, q2⟩ := q
  refine wpAny_mono (PySem.wpAny_toks_of hk (ho pins s2 σ H2 (.str c) y _ u _ I2 ⟨_, rfl⟩ r2 q2)) (fun cc s3 q => ?_) fun _ _ x => x.2
  obtain ⟨hk3, z, H3, I3, r3, k, e, q3⟩ := q
  subst e
  cases r3
  exact wpAny_truthy_bool ⟨hk3, H3, I3, q3⟩
theorem ps_whileT {X : Cx} {c : Expr} {body : List Stmt} {tc : TT} {tb : TS} {pos : Pos} (hp : PassesOwn (model X.prog X.w) X.A X.env X.xe) (hc : PTt X c tc) (hb : PSsT X body tb) : PS X (.While c body [] pos) (tWhile tc tb) := by
  refine ⟨fun pins s σ H D I h => ?_⟩
  obtain ⟨W, ⟨m0, w0⟩, turn⟩ := h
  refine wpAny_While (codeAny_whileLoop (fun n s' => ∃ σ' H', Inv X pins σ' H' s' ∧ W n σ' H') ?_ m0 ⟨σ, H, I, w0⟩)
  rintro n s1 ⟨σ1, H1, I1, w1⟩
  refine wpAny_passesOwn hp (thn (hc pins s1 σ1 H1 _ I1 (turn n σ1 H1 w1)) fun b s2 ⟨tk2, H2, I2, q2⟩ => ?_)
  cases b with
  | true =>
    obtain ⟨N, hN, q2⟩ := q2
    rw [if_pos rfl]
    refine wpAny_passesOwn hp (thn (hb pins s2 σ1 H2 _ tk2 I2 q2) fun f s3 q3 => ?_)
    cases f with
    | next =>
      obtain ⟨σ3, H3, I3, n3⟩ := q3
      obtain ⟨m', hm, w3⟩ := hN σ3 H3 n3
      exact ⟨m', hm, σ3, H3, I3, w3⟩
    | cont =>
      obtain ⟨σ3, H3, I3, n3⟩ := q3
      obtain ⟨m', hm, w3⟩ := hN σ3 H3 n3
      exact ⟨m', hm, σ3, H3, I3, w3⟩
    | brk => exact q3
    | ret v => exact q3
  | false =>
    rw [if_neg Bool.false_ne_true]
    exact wpAny_execs_nil ⟨σ1, H2, I2, q2⟩
theorem pst_set {X : Cx} {i : Nat} {x : Str} {e : Expr} {te : TE} {pos' pos : Pos} (hN : X.N.Nodup) (hi : X.N[i]? = some x) (hx : Loc X.env.scope x) (he : PET X e te) (hs : swapsWith e (some (.Name x pos')) pos.line X.env = pure false := by rfl) (hf : X.fn x = true ∨ X.env.scope.names.lookup x = some .local := by first | exact .inl rfl | exact .inr rfl | assumption) :
    PST X (.Assign [.Name x pos'] e pos) (tAsg te (gName i)) := fun pins s σ H D h0 I h =>
  wpAny_Assign_Name (thn (he pins s σ H _ h0 I h) fun v s1 ⟨y, H1, I1, r1, q1⟩ => store_ok I1 hN hi hx r1 (fun s2 I2 => ⟨_, H1, I2, q1⟩) hf) hs
/-! ### two blanks by one -/
theorem repl2_cons (c : Nat) (r : List Nat) : PySem.StrLaws.replL [32, 32] [32] (c :: r) = if (c :: r).take 2 = [32, 32] then 32 :: PySem.StrLaws.replL [32, 32] [32] (r.drop 1) else c :: PySem.StrLaws.replL [32, 32] [32] r := by
  split
  · rename_i h
    exact PySem.StrLaws.replL_hit (y := [32, 32]) (z := [32]) (by decide) h
  · rename_i h
    exact PySem.StrLaws.replL_miss (y := [32, 32]) (z := [32]) h
theorem repl2 : ∀ (n : Nat) (l : List Nat), l.length ≤ n → (PySem.StrLaws.replL [32, 32] [32] l).length ≤ l.length ∧ (l ≠ [] → PySem.StrLaws.replL [32, 32] [32] l ≠ []) ∧ (∀ c ∈ PySem.StrLaws.replL [32, 32] [32] l, c ∈ l) ∧ (dbl 32 l = true → (PySem.StrLaws.replL [32, 32] [32] l).length < l.length)
  | _, [], _ => by
    rw [PySem.StrLaws.replL_nil]
    exact ⟨Nat.le_refl _, fun h => absurd rfl h, (fun c h => by cases h), fun h => by simp [dbl] at h⟩
  | 0, _ :: _, h => absurd h (by simp)
  | n + 1, c :: r, h => by
    rw [repl2_cons]
    have hr : r.length ≤ n := by simpa using h
    split
    · rename_i h2
      obtain ⟨h1, _, h3, _⟩ := repl2 n (r.drop 1) (by rw [List.length_drop]; omega)
      rw [List.length_drop] at h1
      have hc : c = 32 ∧ ∃ r', r = 32 :: r' := by
        cases r with
        | nil => simp at h2
        | cons d r => simp at h2; exact ⟨h2.1, r, by rw [h2.2]⟩
      obtain ⟨rfl, r', rfl⟩ := hc
      simp only [List.length_cons] at h1 ⊢
      refine ⟨by omega, fun _ => by simp, fun c hc => ?_, fun _ => by omega⟩
      rcases List.mem_cons.mp hc with rfl | hc
      · simp
      · have := h3 c hc
        exact List.mem_cons_of_mem _ (List.mem_of_mem_drop this)
    · rename_i h2
      obtain ⟨h1, _, h3, h4⟩ := repl2 n r hr
      simp only [List.length_cons]
      refine ⟨by omega, fun _ => by simp, fun d hd => ?_, fun hd => ?_⟩
      · rcases List.mem_cons.mp hd with rfl | hd
        · exact List.mem_cons_self ..
        · exact List.mem_cons_of_mem _ (h3 d hd)
      · have : dbl 32 r = true := by
          rw [dbl_iff] at hd ⊢
          obtain ⟨i, i1, i2⟩ := hd
          cases i with
          | zero =>
            exfalso
            apply h2
            cases r with
            | nil => simp at i2
            | cons d r => simp at i1 i2; rw [i1, i2]; rfl
          | succ i => exact ⟨i, by simpa using i1, by simpa using i2⟩
        have := h4 this
        omega
end LH

namespace LH
open PySem PySem.Spec PyProof.Rows L2
/-! ### a def whose body replaces written texts: binding its parameters gives a token -/
theorem psst_nox {X : Cx} {st : List Stmt} {t : TS} (h : PSsT X.nox st t) : PSsT X st t := fun pins s σ H D h0 I hw =>
  wpAny_mono (h pins s σ H D h0 (I.wish _) hw) (fun _ _ q => q.unwish) fun _ _ z => False.elim z
theorem fun_okT {P : Program} {w : World} {K : PySem.W.Frag} {mg : Str → Option Value} {base : Heap} {x qual : Str} {st : Stmt} {f : Addr} {fd : FuncData} {N ps : List Str} {k : Nat} {sp : Sp} (F : Fun K x qual st f fd) (S : FnScope N ps (defScope st)) (hnc : ∀ y ∈ (defScope st).names, y.2 ≠ .cell) (hps : 1 ≤ ps.length) (len : ∀ vs H Q E, sp vs H Q E → vs.length = ps.length)
    (hbody : ∀ (cdv : Value) (A : Around) (outer : List Env) (s : Shared) (H : Hp) (vs : List V) (Q : VK) (E : XK), Room k (A.deeper (envOfC qual (defScope st) s.heap.objs.size f cdv)) → sp vs H Q E →
      ∃ t, PSsT (cxOf CX0 P w K mg base N qual (defScope st) f cdv A outer s H E).nox (defBody st) t ∧ t { nx := fun _ H' => Q .non H', rt := Q } (start N vs) H) : FnOk P w K mg base CX0 (k + 1) f fd ps sp := by
  obtain ⟨oc, od, kV, doc, pm, an, cdv, ct, osl, rfl, lk, hcd⟩ := F.ex
  refine fn_ofT lk hcd S hnc hps len fun A outer s H vs Q E hr hsp => ?_
  obtain ⟨t, h, q⟩ := hbody cdv A outer s H vs Q E hr hsp
  exact ⟨t, psst_nox h, q⟩
theorem repl1 (y : Nat) (z : List Nat) : ∀ l : List Nat, PySem.StrLaws.replL [y] z l = l.flatMap fun c => if c = y then z else [c]
  | [] => PySem.StrLaws.replL_nil
  | c :: r => by
    by_cases h : c = y
    · rw [PySem.StrLaws.replL_hit (y := [y]) (z := z) (by simp) (by rw [h]; rfl), List.flatMap_cons, if_pos h, ← repl1 y z r]
      rfl
    · rw [PySem.StrLaws.replL_miss (y := [y]) (z := z) (fun e => h (List.cons.inj e).1), List.flatMap_cons, if_neg h, ← repl1 y z r]
      rfl
theorem tl_repl1 {x y z : Str} {c : Nat} (hy : TL.tl y = [c]) : TL.tl (Txt.replace x y z) = (TL.tl x).flatMap fun d => if d = c then TL.tl z else [d] := by
  have hl : 1 ≤ y.length := by
    have := congrArg List.length hy
    show 1 ≤ y.cps.size
    have e : (TL.tl y).length = y.cps.size := by show y.cps.toList.length = _; simp
    rw [e] at this
    rw [this]
    exact Nat.le_refl _
  have := PySem.StrLaws.replace_list (x := x) (y := y) (z := z) hl
  show (Txt.replace x y z).cps.toList = _
  rw [this]
  have hy : y.cps.toList = [c] := hy
  rw [hy]
  exact repl1 c _ _
theorem replace_len_le (x y z : Str) : (Txt.replace x y z).length ≤ x.length + (x.length + 1) * z.length := TK.replace_len x y z
end LH

namespace LH
open PySem PySem.Spec PyProof.Rows L2
/-! ### classes that are called with their last parameters left to their defaults; classes that isinstance is asked of; defs that are never called -/
structure DefCd (P : Program) (w : World) (K : PySem.W.Frag) (mg : Str → Option Value) (base : Heap) (x : Str) (C : Addr) (k : Nat) (f : Addr) (fd : FuncData) (ps : List Str) (dvs : List V) (sp : Sp) : Prop where
  make : Mk K C f
  ok : FnOk P w K mg base CX0 k f fd ps sp
  mg : mg x = some (.ref C)
  bd : ∃ ds, Vals dvs ds ∧ Binds K fd ps ds
structure ClsI (K : PySem.W.Frag) (C : Addr) : Prop where
  c : Cls K C
  ha : PySem.W.findIn K (.ref C) "__class__" = some (some (.builtin "object.__class__"))
  hn : PySem.W.specialIn K (.builtin "object.__class__") "__get__" = some (some (.builtin "getset_descriptor.__get__"))
  ht : PySem.W.takesIn K (.builtin "object.__class__") = some true
  hm : PySem.W.mroIn K C (.type "object") = some true
  me : PySem.W.kitOne K (.ref C) (.ref C) = some true
theorem ClsI.ty {K : PySem.W.Frag} {C a dx : Addr} {H : Hp} {fs : List (Str × V)} (h : ClsI K C) (e : H a = some (.ins C dx fs)) : TyX K H (.ref a) (.ref C) := .base (.ins e h.c h.ha h.hn h.ht h.hm)
def sp_never : Sp := fun _ _ _ _ => False
theorem fn_never {P : Program} {w : World} {K : PySem.W.Frag} {mg : Str → Option Value} {base : Heap} {CX : CXT} {k : Nat} {f : Addr} {fd : FuncData} {ps : List Str} : FnOk P w K mg base CX k f fd ps sp_never :=
  ⟨fun _ _ _ _ h => h.elim, fun _ _ _ _ _ _ _ _ _ _ _ _ _ h => h.elim⟩
theorem pe_fldK (K : PySem.W.Frag) {X : Cx} {e : Expr} {ta : TE} {f : Str} {pos : Pos} (he : PE X e ta) (hb : attributeBase e f X.env (eval e X.env) = eval e X.env) (h : X.K = K := by rfl) : PE X (.Attribute e f pos) (L2.tFld K ta f) := h ▸ pe_fld he hb
end LH

namespace LH
open PySem PySem.Spec PyProof.Rows L2
/-! ### whether a thing is in a list of data -/
theorem inD (K : PySem.W.Frag) {X : Cx} (hu : X.A.units + 65 < cLine) (h : X.K = K := by rfl) : OpR X (compareOp .In) (rInD K) := h ▸ op_inD hu
end LH

namespace LH
open PySem PySem.Spec PyProof.Rows L2
/-! ### a comprehension whose elements are new lists; one over two clauses, the second over lists that stand -/
theorem lc_two2 {K : PySem.W.Frag} {J : It} {n : Nat} {G : Hp → Prop} {wi1 : TI} {te : TE} {c c1 : Nat} {σ : L2.St} {H1 : Hp} {D : Addr} {Qd : Hp → Prop} (xs : Nat → V) (ys : Nat → List V) (f : Nat → Nat → V) (hne : c ≠ c1) (w : Walk J n G (YFn xs)) (hG : ∀ H, Same H1 H → G H) (hD : H1 D = none)
    (hn : ∀ i, i ≤ n → (((List.range i).map fun i => (List.range (ys i).length).map (f i)).flatten).length ≤ sizeLine)
    (hi : ∀ i H (R : It → Hp → Prop), i < n → Same H1 H → (∀ H' p, Same H H' → p ≠ D → H' p = some (.lst (ys i)) → R (Itl K p) H') → wi1 (((σ.set c1 none).set c none).set c (some (xs i))) H R)
    (he : ∀ i j H Q, i < n → j < (ys i).length → Same H1 H → Tell H (f i j) Q → te (((((σ.set c1 none).set c none).set c (some (xs i))).set c1 none).set c1 (some ((ys i).getD j .non))) H Q)
    (hd : ∀ H, Same H1 H → H D = some (.lst (((List.range n).map fun i => (List.range (ys i).length).map (f i)).flatten)) → Qd H) :
    ∃ W : Nat → Nat → Hp → Prop, (∃ m, W 0 m (upd H1 D (.lst []))) ∧ ∀ i m H, W i m H →
      (J.stop i H ∧ Qd H) ∨ (J.go i H ∧ ∃ Nx : Hp → Prop, (∀ H', Nx H' → ∃ m', m' < m ∧ W (i + 1) m' H') ∧ ∀ x H', J.yld i H x H' → gName c x (wipe σ [c, c1]) H' fun σ2 H2 => wipe σ2 [c, c1] = wipe σ [c, c1] ∧ tYes σ2 H2 fun b H3 =>
        if b = true then wi1 σ2 H3 fun J1 H4 => ∃ W1 : Nat → Nat → Hp → Prop, (∃ m, W1 0 m H4) ∧ ∀ j k H, W1 j k H →
          (J1.stop j H ∧ Nx H) ∨ (J1.go j H ∧ ∃ Nx1 : Hp → Prop, (∀ H', Nx1 H' → ∃ k', k' < k ∧ W1 (j + 1) k' H') ∧ ∀ x H', J1.yld j H x H' → gName c1 x (wipe σ2 [c1]) H' fun σ3 H5 => wipe σ3 [c1] = wipe σ2 [c1] ∧ tYes σ3 H5 fun b H6 =>
            if b = true then te σ3 H6 fun y H7 => ∃ acc, H7 D = some (.lst acc) ∧ acc.length < sizeLine ∧ Nx1 (upd H7 D (.lst (acc ++ [y]))) else Nx1 H6)
        else Nx H3) := by
  let A : Nat → List V := fun i => ((List.range i).map fun i => (List.range (ys i).length).map (f i)).flatten
  have hA : ∀ i, A (i + 1) = A i ++ (List.range (ys i).length).map (f i) := fun i => by
    show ((List.range (i + 1)).map _).flatten = _
    rw [List.range_succ, List.map_append, List.flatten_append]
    simp [A]
  refine ⟨fun i m H => m = n - i ∧ i ≤ n ∧ Same H1 H ∧ H D = some (.lst (A i)), ⟨n, by simp, Nat.zero_le _, same_upd hD, upd_same⟩, ?_⟩
  rintro i m H ⟨rfl, hin, sm, eD⟩
  have q := hG H sm
  by_cases hlt : i < n
  · refine .inr ⟨w.goes i H hlt q, fun H' => Same H1 H' ∧ H' D = some (.lst (A (i + 1))), fun H' p' => ⟨n - (i + 1), by omega, rfl, hlt, p'⟩, fun x H' y => ?_⟩
    obtain ⟨rfl, rfl⟩ := w.yields i H x H' hlt q y
    refine ⟨?_, ?_⟩
    · show (((((σ.set c1 none).set c none).set c (some (xs i))).set c1 none).set c none) = (σ.set c1 none).set c none
      rw [List.set_set, List.set_comm _ _ hne]
      simp only [List.set_set]
    · unfold tYes
      dsimp only
      rw [if_pos rfl]
      refine hi i H' _ hlt sm fun H4 p s4 hpD ep => ?_
      have hl := hn (i + 1) hlt
      refine ⟨fun j k H => k = (ys i).length - j ∧ j ≤ (ys i).length ∧ Same H1 H ∧ H p = some (.lst (ys i)) ∧ H D = some (.lst (A i ++ ((List.range j).map (f i)))), ⟨(ys i).length, by simp, Nat.zero_le _, sm.trans s4, ep, by simpa using s4 _ _ eD⟩, ?_⟩
      rintro j k H5 ⟨rfl, hj, s5, e5, eD5⟩
      by_cases hjl : j < (ys i).length
      · refine .inr ⟨⟨ys i, (ys i)[j], .inl (.inl e5), by simp [hjl]⟩, fun H' => Same H1 H' ∧ H' p = some (.lst (ys i)) ∧ H' D = some (.lst (A i ++ ((List.range (j + 1)).map (f i)))), fun H' p' => ⟨(ys i).length - (j + 1), by omega, rfl, hjl, p'⟩, fun x H6 y => ?_⟩
        obtain ⟨rfl, hx⟩ := y
        have hx := hx (ys i) (.inl (.inl e5))
        have ex : x = (ys i).getD j .non := by rw [List.getD_eq_getElem?_getD, hx]; rfl
        subst ex
        refine ⟨?_, ?_⟩
        · show (((((((σ.set c1 none).set c none).set c (some (xs i))).set c1 none).set c1 (some ((ys i).getD j .non)))).set c1 none) = (((σ.set c1 none).set c none).set c (some (xs i))).set c1 none
          rw [List.set_set, List.set_set]
        · rw [if_pos rfl]
          refine he i j H6 _ hlt hjl s5 fun H7 s7 => ⟨_, s7 _ _ eD5, ?_, ?_, ?_, ?_⟩
          · have e1 : (A (i + 1)).length ≤ sizeLine := hl
            rw [hA, List.length_append, List.length_map, List.length_range] at e1
            rw [List.length_append, List.length_map, List.length_range]
            omega
          · intro b o hb
            rw [upd_ne (ne_of_none hb hD)]
            exact s7 _ _ (s5 _ _ hb)
          · rw [upd_ne hpD]
            exact s7 _ _ e5
          · rw [upd_same, List.range_succ, List.map_append, List.append_assoc]
            rfl
      · have hj2 : j = (ys i).length := by omega
        subst hj2
        refine .inl ⟨⟨ys i, .inl (.inl e5), Nat.le_refl _⟩, s5, ?_⟩
        rw [hA]
        exact eD5
  · have e : i = n := by omega
    subst e
    exact .inl ⟨w.stops H q, hd H sm eD⟩
theorem lc_news {J : It} {n : Nat} {G : Hp → Prop} {te : TE} {c : Nat} {σ : L2.St} {H1 : Hp} {D : Addr} {Qd : Hp → Prop} (xs : Nat → V) (ys : Nat → List V) (w : Walk J n G (YFn xs)) (hG : ∀ H, Same H1 H → G H) (hD : H1 D = none) (hn : n ≤ sizeLine)
    (he : ∀ i H Q, i < n → Same H1 H → New H (ys i) Q → te ((σ.set c none).set c (some (xs i))) H Q)
    (hd : ∀ H (us : List Addr), Same H1 H → us.length = n → (∀ i, i < n → us.getD i 0 ≠ D ∧ H (us.getD i 0) = some (.lst (ys i))) → H D = some (.lst (us.map V.ref)) → Qd H) :
    ∃ W : Nat → Nat → Hp → Prop, (∃ m, W 0 m (upd H1 D (.lst []))) ∧ ∀ i m H, W i m H →
      (J.stop i H ∧ Qd H) ∨ (J.go i H ∧ ∃ Nx : Hp → Prop, (∀ H', Nx H' → ∃ m', m' < m ∧ W (i + 1) m' H') ∧ ∀ x H', J.yld i H x H' → gName c x (wipe σ [c]) H' fun σ2 H2 => wipe σ2 [c] = wipe σ [c] ∧ tYes σ2 H2 fun b H3 =>
        if b = true then te σ2 H3 fun y H4 => ∃ acc, H4 D = some (.lst acc) ∧ acc.length < sizeLine ∧ Nx (upd H4 D (.lst (acc ++ [y]))) else Nx H3) := by
  refine lc_it w (fun i H => Same H1 H ∧ ∃ us : List Addr, us.length = i ∧ (∀ j, j < i → us.getD j 0 ≠ D ∧ H (us.getD j 0) = some (.lst (ys j))) ∧ H D = some (.lst (us.map V.ref))) ⟨same_upd hD, [], rfl, fun j hj => absurd hj (Nat.not_lt_zero j), upd_same⟩ (fun i H _ h => hG H h.1) (fun i x H H' hi hP hy => ?_) (fun H h => by
    obtain ⟨sm, us, hl, hu, e⟩ := h
    exact hd H us sm hl hu e)
  obtain ⟨sm, us, hl, hu, eD⟩ := hP
  obtain ⟨rfl, rfl⟩ := hy
  refine ⟨?_, ?_⟩
  rotate_left
  · unfold tYes
    dsimp only
    rw [if_pos rfl]
    refine he i H' _ hi sm fun H3 p s3 np e3 => ⟨_, s3 _ _ eD, ?_, ?_, us ++ [p], ?_, ?_, ?_⟩
    · rw [List.length_map]; omega
    · intro b' o hb'
      rw [upd_ne (ne_of_none hb' hD)]
      exact s3 _ _ (sm _ _ hb')
    · rw [List.length_append, hl]; rfl
    · intro j hj
      by_cases hj2 : j < i
      · rw [getD_app_l _ _ _ (by omega)]
        refine ⟨(hu j hj2).1, ?_⟩
        rw [upd_ne (hu j hj2).1]
        exact s3 _ _ (hu j hj2).2
      · have : j = i := by omega
        subst this
        rw [getD_app_r _ _ _ (by omega), hl, Nat.sub_self]
        have hpD : p ≠ D := fun e => by rw [e, eD] at np; exact nomatch np
        refine ⟨hpD, ?_⟩
        show upd H3 D _ p = _
        rw [upd_ne hpD]
        exact e3
    · rw [upd_same, List.map_append]
      rfl
  · show (((σ.set c none).set c (some (xs i))).set c none) = σ.set c none
    rw [List.set_set, List.set_set]
/-! ### lists of lists of ints as data -/
def dLists (ls : List (List Int)) : List PyData := ls.map fun b => .list (b.map PyData.int)
theorem lay_ints (b : List Int) : PyData.canLayAll0 (b.map PyData.int) = true := by
  induction b with
  | nil => simp [PyData.canLayAll0]
  | cons x r ih => simp [PyData.canLayAll0, PyData.canLay0, ih]
theorem depth_ints (b : List Int) : PyData.depthAll (b.map PyData.int) = 0 := by
  induction b with
  | nil => rfl
  | cons x r ih => simp [PyData.depthAll, PyData.depth, ih]
theorem lay_lists (ls : List (List Int)) : PyData.canLayAll0 (dLists ls) = true := by
  induction ls with
  | nil => simp [dLists, PyData.canLayAll0]
  | cons x r ih =>
    show PyData.canLayAll0 (.list (x.map PyData.int) :: dLists r) = true
    simp [PyData.canLayAll0, PyData.canLay0, lay_ints, ih]
theorem depth_lists (ls : List (List Int)) : PyData.depthAll (dLists ls) ≤ 1 := by
  induction ls with
  | nil => simp [dLists, PyData.depthAll]
  | cons x r ih =>
    show PyData.depthAll (.list (x.map PyData.int) :: dLists r) ≤ 1
    simp [PyData.depthAll, PyData.depth, depth_ints]
    omega
theorem shaped_lists (ls : List (List Int)) : SeqAt.shaped (.list (dLists ls)) = true := by
  have := depth_lists ls
  simp [SeqAt.shaped, PyData.canLay0, PyData.depth, lay_lists]
  omega
theorem any_none (ls : List (List Int)) : ((dLists ls).any fun z => PyData.eqv z .none) = false := by
  induction ls with
  | nil => rfl
  | cons x r ih =>
    show (PyData.eqv (.list (x.map PyData.int)) .none || ((dLists r).any fun z => PyData.eqv z .none)) = false
    rw [ih]
    simp [PyData.eqv]
theorem dpAll_refs {K : PySem.W.Frag} {H : Hp} : ∀ (us : List Addr) (ls : List (List Int)), us.length = ls.length → (∀ i, i < us.length → H (us.getD i 0) = some (.lst ((ls.getD i []).map V.int))) → DpAll K H (us.map V.ref) (dLists ls)
  | [], [], _, _ => .nil
  | u :: us, l :: ls, hl, h => .cons (dp_ints (.inl (.inl (h 0 (Nat.zero_lt_succ _))))) (dpAll_refs us ls (Nat.succ.inj hl) fun i hi => h (i + 1) (Nat.succ_lt_succ hi))
  | [], _ :: _, hl, _ => nomatch hl
  | _ :: _, [], hl, _ => nomatch hl
/-- a list of None -/
def dNones (n : Nat) : List PyData := List.replicate n .none
theorem dpAll_nones {K : PySem.W.Frag} {H : Hp} : ∀ n : Nat, DpAll K H (List.replicate n V.non) (dNones n)
  | 0 => .nil
  | n + 1 => .cons .non (dpAll_nones n)
theorem lay_nones (n : Nat) : PyData.canLayAll0 (dNones n) = true := by
  induction n with
  | zero => simp [dNones, PyData.canLayAll0]
  | succ n ih =>
    show PyData.canLayAll0 (.none :: dNones n) = true
    simp [PyData.canLayAll0, PyData.canLay0, ih]
theorem depth_nones (n : Nat) : PyData.depthAll (dNones n) = 0 := by
  induction n with
  | zero => simp [dNones, PyData.depthAll]
  | succ n ih =>
    show PyData.depthAll (.none :: dNones n) = 0
    simp [PyData.depthAll, PyData.depth, ih]
theorem shaped_nones (n : Nat) : SeqAt.shaped (.list (dNones n)) = true := by
  simp [SeqAt.shaped, PyData.canLay0, PyData.depth, lay_nones, depth_nones]
theorem any_nones (n : Nat) : ((dNones n).any fun z => PyData.eqv z .none) = decide (n ≠ 0) := by
  cases n with
  | zero => rfl
  | succ n =>
    show (PyData.eqv .none .none || _) = _
    simp [PyData.eqv]
end LH

namespace LH
open PySem PySem.Spec PyProof.Rows L2
/-! ### a comprehension whose elements are new objects -/
def NewO (H : Hp) (o : HO) (Q : VK) : Prop := ∀ H' p, Same H H' → H p = none → H' p = some o → Q (.ref p) H'
theorem lc_newO {J : It} {n : Nat} {G : Hp → Prop} {te : TE} {c : Nat} {σ : L2.St} {H1 : Hp} {D : Addr} {Qd : Hp → Prop} (xs : Nat → V) (os : Nat → HO) (w : Walk J n G (YFn xs)) (hG : ∀ H, Same H1 H → G H) (hD : H1 D = none) (hn : n ≤ sizeLine)
    (he : ∀ i H Q, i < n → Same H1 H → NewO H (os i) Q → te ((σ.set c none).set c (some (xs i))) H Q)
    (hd : ∀ H (us : List Addr), Same H1 H → us.length = n → (∀ i, i < n → us.getD i 0 ≠ D ∧ H (us.getD i 0) = some (os i)) → H D = some (.lst (us.map V.ref)) → Qd H) :
    ∃ W : Nat → Nat → Hp → Prop, (∃ m, W 0 m (upd H1 D (.lst []))) ∧ ∀ i m H, W i m H →
      (J.stop i H ∧ Qd H) ∨ (J.go i H ∧ ∃ Nx : Hp → Prop, (∀ H', Nx H' → ∃ m', m' < m ∧ W (i + 1) m' H') ∧ ∀ x H', J.yld i H x H' → gName c x (wipe σ [c]) H' fun σ2 H2 => wipe σ2 [c] = wipe σ [c] ∧ tYes σ2 H2 fun b H3 =>
        if b = true then te σ2 H3 fun y H4 => ∃ acc, H4 D = some (.lst acc) ∧ acc.length < sizeLine ∧ Nx (upd H4 D (.lst (acc ++ [y]))) else Nx H3) := by
  refine lc_it w (fun i H => Same H1 H ∧ ∃ us : List Addr, us.length = i ∧ (∀ j, j < i → us.getD j 0 ≠ D ∧ H (us.getD j 0) = some (os j)) ∧ H D = some (.lst (us.map V.ref))) ⟨same_upd hD, [], rfl, fun j hj => absurd hj (Nat.not_lt_zero j), upd_same⟩ (fun i H _ h => hG H h.1) (fun i x H H' hi hP hy => ?_) (fun H h => by
    obtain ⟨sm, us, hl, hu, e⟩ := h
    exact hd H us sm hl hu e)
  obtain ⟨sm, us, hl, hu, eD⟩ := hP
  obtain ⟨rfl, rfl⟩ := hy
  refine ⟨?_, ?_⟩
  rotate_left
  · unfold tYes
    dsimp only
    rw [if_pos rfl]
    refine he i H' _ hi sm fun H3 p s3 np e3 => ⟨_, s3 _ _ eD, ?_, ?_, us ++ [p], ?_, ?_, ?_⟩
    · rw [List.length_map]; omega
    · intro b' o hb'
      rw [upd_ne (ne_of_none hb' hD)]
      exact s3 _ _ (sm _ _ hb')
    · rw [List.length_append, hl]; rfl
    · intro j hj
      by_cases hj2 : j < i
      · rw [getD_app_l _ _ _ (by omega)]
        refine ⟨(hu j hj2).1, ?_⟩
        rw [upd_ne (hu j hj2).1]
        exact s3 _ _ (hu j hj2).2
      · have : j = i := by omega
        subst this
        rw [getD_app_r _ _ _ (by omega), hl, Nat.sub_self]
        have hpD : p ≠ D := fun e => by rw [e, eD] at np; exact nomatch np
        refine ⟨hpD, ?_⟩
        show upd H3 D _ p = _
        rw [upd_ne hpD]
        exact e3
    · rw [upd_same, List.map_append]
      rfl
  · show (((σ.set c none).set c (some (xs i))).set c none) = σ.set c none
    rw [List.set_set, List.set_set]
end LH

namespace LH
open PySem PySem.Spec PyProof.Rows L2
/-! ### a comprehension over pairs whose elements are new objects, each of a kind -/
theorem lc_pairsO {K : PySem.W.Frag} {a : Addr} {ts : List Addr} {ps : Nat → V × V} {te : TE} {c1 c2 : Nat} {σ : L2.St} {H1 : Hp} {D : Addr} {Qd : Hp → Prop} (Ob : Nat → HO → Prop) (hne : c1 ≠ c2) (hL : SqL K H1 a (ts.map V.ref)) (hT : ∀ i, i < ts.length → SqT K H1 (ts.getD i 0) [(ps i).1, (ps i).2])
    (hD : H1 D = none) (hn : ts.length ≤ sizeLine)
    (he : ∀ i H Q, i < ts.length → Same H1 H → (∀ H' p o, Same H H' → H p = none → H' p = some o → Ob i o → Q (.ref p) H') → te ((((σ.set c2 none).set c1 none).set c1 (some (ps i).1)).set c2 (some (ps i).2)) H Q)
    (hd : ∀ H (us : List Addr), Same H1 H → us.length = ts.length → (∀ i, i < ts.length → us.getD i 0 ≠ D ∧ ∃ o, Ob i o ∧ H (us.getD i 0) = some o) → H D = some (.lst (us.map V.ref)) → Qd H) :
    ∃ W : Nat → Nat → Hp → Prop, (∃ m, W 0 m (upd H1 D (.lst []))) ∧ ∀ i m H, W i m H →
      ((Itl K a).stop i H ∧ Qd H) ∨ ((Itl K a).go i H ∧ ∃ Nx : Hp → Prop, (∀ H', Nx H' → ∃ m', m' < m ∧ W (i + 1) m' H') ∧ ∀ x H', (Itl K a).yld i H x H' → gTup K 2 (gCons (gName c1) (gCons (gName c2) gNil)) x (wipe σ [c1, c2]) H' fun σ2 H2 => wipe σ2 [c1, c2] = wipe σ [c1, c2] ∧ tYes σ2 H2 fun b H3 =>
        if b = true then te σ2 H3 fun y H4 => ∃ acc, H4 D = some (.lst acc) ∧ acc.length < sizeLine ∧ Nx (upd H4 D (.lst (acc ++ [y]))) else Nx H3) := by
  have hm : (ts.map V.ref).length = ts.length := List.length_map ..
  refine lc_it walk_list (fun i H => Same H1 H ∧ ∃ us : List Addr, us.length = i ∧ (∀ j, j < i → us.getD j 0 ≠ D ∧ ∃ o, Ob j o ∧ H (us.getD j 0) = some o) ∧ H D = some (.lst (us.map V.ref))) ⟨same_upd hD, [], rfl, fun j hj => absurd hj (Nat.not_lt_zero j), upd_same⟩ (fun i H _ h => h.1.seq hL) (fun i x H H' hi hP hy => ?_) (fun H h => by
    obtain ⟨sm, us, hl, hu, e⟩ := h
    exact hd H us sm (by rw [← hm]; exact hl) (fun i hi => hu i (by rw [hm]; exact hi)) e)
  obtain ⟨sm, us, hl, hu, eD⟩ := hP
  obtain ⟨rfl, hx⟩ := hy
  rw [hm] at hi
  rw [List.getElem?_map, List.getElem?_eq_getElem hi] at hx
  obtain rfl := Option.some.inj hx
  have hTi := hT i hi
  rw [List.getD_eq_getElem?_getD, List.getElem?_eq_getElem hi] at hTi
  refine ⟨ts[i], _, rfl, seqT sm hTi, rfl, _, _, rfl, _, _, rfl, rfl, ?_, ?_⟩
  · show (((((σ.set c2 none).set c1 none).set c1 (some (ps i).1)).set c2 (some (ps i).2)).set c2 none).set c1 none = (σ.set c2 none).set c1 none
    rw [List.set_set, List.set_set, List.set_comm _ _ hne, List.set_set, List.set_comm _ _ hne.symm, List.set_comm _ _ hne, List.set_set]
  · unfold tYes
    dsimp only
    rw [if_pos rfl]
    refine he i H' _ hi sm fun H3 p o s3 np e3 ho => ⟨_, s3 _ _ eD, ?_, ?_, us ++ [p], ?_, ?_, ?_⟩
    · rw [List.length_map]; omega
    · intro b' x hb'
      rw [upd_ne (ne_of_none hb' hD)]
      exact s3 _ _ (sm _ _ hb')
    · rw [List.length_append, hl]; rfl
    · intro j hj
      by_cases hj2 : j < i
      · rw [getD_app_l _ _ _ (by omega)]
        obtain ⟨h1, o2, ho2, e2⟩ := hu j hj2
        refine ⟨h1, o2, ho2, ?_⟩
        rw [upd_ne h1]
        exact s3 _ _ e2
      · have : j = i := by omega
        subst this
        rw [getD_app_r _ _ _ (by omega), hl, Nat.sub_self]
        have hpD : p ≠ D := fun e => by rw [e, eD] at np; exact nomatch np
        refine ⟨hpD, o, ho, ?_⟩
        show upd H3 D _ p = _
        rw [upd_ne hpD]
        exact e3
    · rw [upd_same, List.map_append]
      rfl
end LH

namespace LH
open PySem PySem.Spec PyProof.Rows L2
/-! ### defs with defaults -/
theorem okD {P : Program} {w : World} {K : PySem.W.Frag} {mg : Str → Option Value} {base : Heap} {x qual : Str} {st : Stmt} {dvs : List V} {f : Addr} {fd : FuncData} {N ps : List Str} {k : Nat} {sp : Sp} (F : FunD K x qual (defArgs st) (defBody st) (defScope st) dvs [] f fd) (S : FnScope N ps (defScope st)) (len : ∀ vs H Q E, sp vs H Q E → vs.length = ps.length)
    (hbody : ∀ (cdv : Value) (A : Around) (outer : List Env) (s : Shared) (H : Hp) (vs : List V) (Q : VK) (E : XK), Room k (A.deeper (envOfC qual (defScope st) s.heap.objs.size f cdv)) → sp vs H Q E →
      ∃ t, PSs (cxOf CX0 P w K mg base N qual (defScope st) f cdv A outer s H E).nox (defBody st) t ∧ t { nx := fun _ H' => Q .non H', rt := Q } (start N vs) H) : FnOk P w K mg base CX0 (k + 1) f fd ps sp :=
  F.ok S len fun cdv A outer s H vs Q E hr hsp => by
    obtain ⟨t, h, q⟩ := hbody cdv A outer s H vs Q E hr hsp
    exact ⟨t, h.nox, q⟩
theorem funD_mk {K : PySem.W.Frag} {x qual : Str} {st : Stmt} {f T : Addr} {oc : Value} {od an odt : Option Addr} {osl slt : Array (Option Value)} {kV doc pm cdv ct oct : Value} {nt : Nat} (l : K.lookup f = some ⟨oc, od, .func (PySem.W.fnOf x qual (defArgs st) (defBody st) (defScope st) (.ref T) kV doc pm an cdv ct), osl⟩)
    (c : PySem.W.codeIn K cdv qual = true) (k : PySem.W.keepIn K (.ref f) = true) (lT : K.lookup T = some ⟨oct, odt, .seq #[.none, .none] nt, slt⟩) : FunD K x qual (defArgs st) (defBody st) (defScope st) [.non, .non] [] f (PySem.W.fnOf x qual (defArgs st) (defBody st) (defScope st) (.ref T) kV doc pm an cdv ct) :=
  ⟨⟨oc, od, _, kV, doc, pm, an, cdv, ct, osl, rfl, l, c, .inr ⟨by simp, T, _, [.none, .none], nt, rfl, lT, rfl, .cons rfl (.cons rfl .nil)⟩, .inl rfl⟩, k⟩
end LH

namespace K20
open PySem PySem.Spec PyProof.Rows L2 LH
def topS (i : Nat) : Stmt := PySem.Challenge.pw_letterhouse_k20_pieces_of_bytes_written.main.body.getD i (.Pass ⟨0, 0, 0, 0⟩)
def clsS (i j : Nat) : Stmt := match topS i with
  | .ClassDef _ _ _ b _ _ _ _ _ _ _ => b.getD j (.Pass ⟨0, 0, 0, 0⟩)
  | s => s
def SMALL : Str := Str.ofString "abcdefghijklmnopqrstuvwxyz"
def MSIGNS : Str := Str.ofString " !\"#$&'()*+,-./0123456789:;<=>?@ABCDEFGHIJKLMNOPQRSTUVWXYZ[\\]^_`abcdefghijklmnopqrstuvwxyz{|}~"
def S64 : Str := Str.ofString "ABCDEFGHIJKLMNOPQRSTUVWXYZabcdefghijklmnopqrstuvwxyz0123456789+/"
structure Tx (mg : Str → Option Value) (tk : Nat → Tok) : Prop where
  n_ValueError : mg "ValueError" = none
  n_all : mg "all" = none
  n_bool : mg "bool" = none
  n_dict : mg "dict" = none
  n_enumerate : mg "enumerate" = none
  n_int : mg "int" = none
  n_isinstance : mg "isinstance" = none
  n_len : mg "len" = none
  n_list : mg "list" = none
  n_ord : mg "ord" = none
  n_range : mg "range" = none
  n_str : mg "str" = none
  n_sum : mg "sum" = none
  m_PERCENT : mg "PERCENT" = some (.int 37 (tk 0))
  m_ROW_END : mg "ROW_END" = some (.int 10 (tk 1))
  m_ROW_SIGNS : mg "ROW_SIGNS" = some (.int 60 (tk 2))
  m_SIGNS : mg "SIGNS" = some (.str MSIGNS (tk 3))
  m_SIXTY_FOUR : mg "SIXTY_FOUR" = some (.str S64 (tk 4))
  m_SMALL : mg "SMALL" = some (.str SMALL (tk 5))
  m_HEADER_WORDS : mg "HEADER_WORDS" = some (.int 3 (tk 6))
  m_HEADER_LETTERS : mg "HEADER_LETTERS" = some (.int 8 (tk 7))
  m_BODY : mg "BODY" = some (.str (Str.ofString "body") (tk 8))
  m_PLAIN : mg "PLAIN" = some (.str (Str.ofString "plain") (tk 9))
  m_SIXTEENS : mg "SIXTEENS" = some (.str (Str.ofString "sixteens") (tk 10))
  m_SIXTY : mg "SIXTY" = some (.str (Str.ofString "sixty") (tk 11))
  m_MOST_PIECES : mg "MOST_PIECES" = some (.int 8 (tk 12))
  m_MOST_DEEP : mg "MOST_DEEP" = some (.int 4 (tk 13))
end K20

namespace K20
open PySem PySem.Spec PyProof.Rows L2 LH
section
variable {P : Program} {w : World} {K : PySem.W.Frag} {mg : Str → Option Value} {base : Heap} {tk : Nat → Tok} {ca : Nat → Addr}
/-! ### bytes -/
def nb (l : List Nat) : List V := l.map fun b => .int (b : Nat)
def BytesN (l : List Nat) : Prop := ∀ b ∈ l, b < 256
theorem nb_len (l : List Nat) : (nb l).length = l.length := List.length_map ..
theorem nb_at (l : List Nat) {i : Nat} (h : i < l.length) : (nb l).getD i .non = .int (l.getD i 0 : Nat) := by
  unfold nb
  rw [List.getD_eq_getElem?_getD, List.getElem?_map, List.getElem?_eq_getElem h, List.getD_eq_getElem?_getD, List.getElem?_eq_getElem h]
  rfl
theorem getD_mem {α : Type} (l : List α) (d : α) {i : Nat} (h : i < l.length) : l.getD i d ∈ l := by
  rw [List.getD_eq_getElem?_getD, List.getElem?_eq_getElem h]
  exact List.getElem_mem h
def isSgn (b : Nat) : Bool := decide (32 ≤ b) && decide (b ≤ 126) && !decide (b = 37)
/-- a thing that is no list -/
def NoL (K : PySem.W.Frag) (H : Hp) (x : V) : Prop := ∃ t, TyX K H x t ∧ PySem.W.kitOne K t (.type "list") = some false
/-- an element that is a whole number, or one of some other things -/
def ElemB (H : Hp) (v : V) : Prop := (∃ i, v = .int i) ∨ v = .non ∨ (∃ b, v = .bl b) ∨ (∃ z, v = .str z) ∨ ∃ a xs, v = .ref a ∧ H a = some (.lst xs)
theorem ElemB.same {H H' : Hp} {v : V} (s : Same H H') (h : ElemB H v) : ElemB H' v := by
  rcases h with h | h | h | h | ⟨a, xs, h, e⟩
  · exact .inl h
  · exact .inr (.inl h)
  · exact .inr (.inr (.inl h))
  · exact .inr (.inr (.inr (.inl h)))
  · exact .inr (.inr (.inr (.inr ⟨a, xs, h, s _ _ e⟩)))
def okV : V → Bool
  | .int i => decide (0 ≤ i) && decide (i ≤ 255)
  | _ => false
def isI : V → Bool
  | .int _ => true
  | _ => false
/-! ### is_number -/
abbrev s_is_number : Stmt := topS 14
abbrev N_is_number : List Str := ["thing"]
abbrev P_is_number : List Str := ["thing"]
theorem sc_is_number : FnScope N_is_number ["thing"] (defScope s_is_number) := ⟨rfl, rfl, rfl, by decide +kernel, rfl, by decide +kernel, by decide +kernel⟩
def sp_is_number : Sp := fun vs H Q _ => ∃ v : V, vs = [v] ∧ ElemB H v ∧ Tell H (.bl (isI v)) Q
theorem ok_is_number {f : Addr} {fd : FuncData} {k : Nat} (F : Fun K "is_number" "is_number" s_is_number f fd) (T : Tx mg tk) : FnOk P w K mg base CX0 (k + 1) f fd P_is_number sp_is_number := by
  refine F.ok sc_is_number (fun vs H Q E h => ?_) (fun cdv A outer s H vs Q E hr h => ?_)
  · obtain ⟨v, rfl, _⟩ := h
    rfl
  · have nd := sc_is_number.nd
    obtain ⟨v, rfl, hv, q⟩ := h
    refine ⟨_, (pss_one (ps_ret (pe_and (pe_callB (cIsi K) (by rfl) T.n_isinstance (by decide +kernel) (pa_cons (pv 0) (pa_cons (pe_bltn (v := .ty "int") (by rfl) T.n_int (by decide +kernel) rfl) pa_nil))) (pe_one (pe_not (pe_callB (cIsi K) (by rfl) T.n_isinstance (by decide +kernel) (pa_cons (pv 0) (pa_cons (pe_bltn (v := .ty "bool") (by rfl) T.n_bool (by decide +kernel) rfl) pa_nil)))))))), ?_⟩
    rcases hv with ⟨i, rfl⟩ | rfl | ⟨b, rfl⟩ | ⟨z, rfl⟩ | ⟨a, xs, rfl, e⟩
    · exact ⟨.int i, rfl, .int i, .ty "int", _, _, true, rfl, .ty _, .base (.int i), kit_ty (by decide +kernel), true, rfl, iteT ⟨.int i, rfl, .int i, .ty "bool", _, _, false, rfl, .ty _, .base (.int i), kit_ty (by decide +kernel), false, rfl, q H (Same.refl _)⟩⟩
    · exact ⟨.non, rfl, .non, .ty "int", _, _, false, rfl, .ty _, .base .non, kit_ty (by decide +kernel), false, rfl, iteF (q H (Same.refl _))⟩
    · exact ⟨.bl b, rfl, .bl b, .ty "int", _, _, true, rfl, .ty _, .base (.bl b), kit_ty (by decide +kernel), true, rfl, iteT ⟨.bl b, rfl, .bl b, .ty "bool", _, _, true, rfl, .ty _, .base (.bl b), kit_ty (by decide +kernel), true, rfl, q H (Same.refl _)⟩⟩
    · exact ⟨.str z, rfl, .str z, .ty "int", _, _, false, rfl, .ty _, .base (.str z), kit_ty (by decide +kernel), false, rfl, iteF (q H (Same.refl _))⟩
    · exact ⟨.ref a, rfl, .ref a, .ty "int", _, _, false, rfl, .ty _, .base (.lst e), kit_ty (by decide +kernel), false, rfl, iteF (q H (Same.refl _))⟩
/-! ### is_bytes -/
abbrev s_is_bytes : Stmt := topS 15
abbrev N_is_bytes : List Str := ["thing", "byte"]
abbrev P_is_bytes : List Str := ["thing"]
theorem sc_is_bytes : FnScope N_is_bytes ["thing"] (defScope s_is_bytes) := ⟨rfl, rfl, rfl, by decide +kernel, rfl, by decide +kernel, by decide +kernel⟩
def sp_is_bytesG (K : PySem.W.Frag) : Sp := fun vs H Q _ => ∃ (x : V) (b : Bool), vs = [x] ∧ ((NoL K H x ∧ b = false) ∨ ∃ (a : Addr) (xs : List V), x = .ref a ∧ H a = some (.lst xs) ∧ xs.length ≤ 100000 ∧ (∀ v ∈ xs, ElemB H v) ∧ b = xs.all okV) ∧ Tell H (.bl b) Q
theorem ok_is_bytesG {f fN : Addr} {fd fdN : FuncData} (F : Fun K "is_bytes" "is_bytes" s_is_bytes f fd) (T : Tx mg tk) (D_is_number : Def P w K mg base "is_number" 1 fN fdN P_is_number sp_is_number) : FnOk P w K mg base CX0 2 f fd P_is_bytes (sp_is_bytesG K) := by
  refine F.ok sc_is_bytes (fun vs H Q E h => ?_) (fun cdv A outer s H vs Q E hr h => ?_)
  · obtain ⟨x, b, rfl, _⟩ := h
    rfl
  · have nd := sc_is_bytes.nd
    obtain ⟨x, b, rfl, hx, q⟩ := h
    refine ⟨_, (pss_cons (ps_if (pt_not (pt_val (pe_callB (cIsi K) (by rfl) T.n_isinstance (by decide +kernel) (pa_cons (pv 0) (pa_cons (pe_bltn (v := .ty "list") (by rfl) T.n_list (by decide +kernel) rfl) pa_nil)))))
        (pss_one (ps_ret pe_bl))
        pss_nil)
      (pss_one (ps_ret (pe_callB (cAll K) (by rfl) T.n_all (by decide +kernel) (pa_cons (pe_lc (own := [("byte", 1)]) (g := gName 1) (by rfl) nd (pi_list (pv 0)) (blkOk_by (N := N_is_bytes) (sc := defScope s_is_bytes) (by decide +kernel)) (fun _ _ _ _ _ => (pg_name (i := 1) nd rfl (Or.inl rfl))) (fun _ _ _ _ _ => pts_nil) (fun _ _ _ _ _ => (pe_and (pe_def D_is_number (hr.mono (by decide)) (pa_cons (pv 1) pa_nil)) (pe_one (pe_chain op_le op_le pe_int (pv 1) pe_int))))) pa_nil))))), ?_⟩
    rcases hx with ⟨⟨t, ty, hk⟩, rfl⟩ | ⟨a, xs, rfl, hS, hl, hel, rfl⟩
    · exact ifT true (fun k q1 => notT false (fun k q2 => ⟨x, rfl, x, .ty "list", _, _, false, rfl, .ty _, ty, hk, false, rfl, q2 _ (Same.refl _)⟩) q1) (fun _ H1 s1 => q H1 s1) (fun h => nomatch h)
    refine ifT false (fun k q1 => notT true (fun k q2 => ⟨.ref a, rfl, .ref a, .ty "list", _, _, true, rfl, .ty _, .base (.lst hS), kit_ty (by decide +kernel), true, rfl, q2 _ (Same.refl _)⟩) q1) (fun h => nomatch h) (fun _ H1 s1 => ?_)
    have eS := s1 _ _ hS
    refine ⟨.ref a, rfl, a, rfl, ⟨_, .inl (.inl eS)⟩, fun D hD => lc_pure (fun i => xs.getD i .non) (fun i => .bl (okV (xs.getD i .non))) walk_listF (fun H2 s2 => s2.seq (.inl (.inl eS))) hD (by rw [sizeLine_eq]; omega) (fun i H2 Q2 hi s2 q2 => ?_) (fun H2 s2 e => ?_)⟩
    · have hbi := (hel (xs.getD i .non) (by rw [List.getD_eq_getElem?_getD, List.getElem?_eq_getElem hi]; exact List.getElem_mem hi)).same (s1.trans s2)
      generalize xs.getD i .non = v at *
      refine ⟨v, rfl, v, rfl, hbi, fun H3 s3 => ?_⟩
      rcases hbi with ⟨i, rfl⟩ | rfl | ⟨b, rfl⟩ | ⟨z, rfl⟩ | ⟨a, xs, rfl, e⟩
      · refine ⟨true, rfl, iteT ⟨.int i, rfl, 0, i, rfl, rfl, _, rfl, ?_⟩⟩
        have q2 : Tell H2 (.bl (decide (0 ≤ i) && decide (i ≤ 255))) Q2 := q2
        by_cases h0 : 0 ≤ i
        · rw [decide_eq_true h0] at q2 ⊢
          exact iteT ⟨_, _, rfl, rfl, q2 _ s3⟩
        · rw [decide_eq_false h0] at q2 ⊢
          exact iteF (q2 _ s3)
      · exact ⟨false, rfl, iteF (q2 _ s3)⟩
      · exact ⟨false, rfl, iteF (q2 _ s3)⟩
      · exact ⟨false, rfl, iteF (q2 _ s3)⟩
      · exact ⟨false, rfl, iteF (q2 _ s3)⟩
    · refine ⟨D, (List.range xs.length).map fun i => okV (xs.getD i .non), rfl, .inl (.inl (by rw [e, List.map_map]; rfl)), ?_⟩
      have := lall_range xs V.non okV
      rw [this]
      exact q _ (s1.trans s2)
theorem nb_elem {H : Hp} {l : List Nat} : ∀ v ∈ nb l, ElemB H v := fun v hv => by
  obtain ⟨b, _, rfl⟩ := List.mem_map.mp hv
  exact .inl ⟨_, rfl⟩
theorem nb_ok {l : List Nat} (h : BytesN l) : (nb l).all okV = true := by
  rw [List.all_eq_true]
  intro v hv
  obtain ⟨b, hb, rfl⟩ := List.mem_map.mp hv
  have := h b hb
  show (decide (0 ≤ ((b : Nat) : Int)) && decide (((b : Nat) : Int) ≤ 255)) = true
  rw [decide_eq_true (by omega), decide_eq_true (by omega)]
  rfl
def sp_is_bytes : Sp := fun vs H Q _ => ∃ (a : Addr) (l : List Nat), vs = [.ref a] ∧ H a = some (.lst (nb l)) ∧ BytesN l ∧ l.length ≤ 100000 ∧ Tell H (.bl true) Q
theorem ok_is_bytes {f : Addr} {fd : FuncData} {k : Nat} (F : FnOk P w K mg base CX0 k f fd P_is_bytes (sp_is_bytesG K)) : FnOk P w K mg base CX0 k f fd P_is_bytes sp_is_bytes := by
  refine F.imp fun vs H Q E h => ?_
  obtain ⟨a, l, rfl, ea, hb, hl, q⟩ := h
  exact ⟨.ref a, true, rfl, .inr ⟨a, nb l, rfl, ea, by rw [nb_len]; exact hl, nb_elem, (nb_ok hb).symm⟩, q⟩
/-! ### is_sign_byte -/
abbrev s_is_sign_byte : Stmt := topS 16
abbrev N_is_sign_byte : List Str := ["byte"]
abbrev P_is_sign_byte : List Str := ["byte"]
theorem sc_is_sign_byte : FnScope N_is_sign_byte ["byte"] (defScope s_is_sign_byte) := ⟨rfl, rfl, rfl, by decide +kernel, rfl, by decide +kernel, by decide +kernel⟩
def sp_sign_byte : Sp := fun vs H Q _ => ∃ b : Nat, vs = [.int (b : Nat)] ∧ Tell H (.bl (isSgn b)) Q
theorem ok_sign_byte {f : Addr} {fd : FuncData} {k : Nat} (F : Fun K "is_sign_byte" "is_sign_byte" s_is_sign_byte f fd) (T : Tx mg tk) : FnOk P w K mg base CX0 (k + 1) f fd P_is_sign_byte sp_sign_byte := by
  refine F.ok sc_is_sign_byte (fun vs H Q E h => ?_) (fun cdv A outer s H vs Q E hr h => ?_)
  · obtain ⟨b, rfl, _⟩ := h
    rfl
  · have nd := sc_is_sign_byte.nd
    obtain ⟨b, rfl, q⟩ := h
    refine ⟨_, (pss_one (ps_ret (pe_and (pe_chain op_le op_le pe_int (pv 0) pe_int) (pe_one (pe_cmpR op_ne (pv 0) (pe_glob (v := .int 37) (by rfl) T.m_PERCENT ⟨_, rfl⟩) (nomark _)))))), ?_⟩
    have q0 := q H (Same.refl _)
    unfold isSgn at q0
    refine ⟨.int (b : Nat), rfl, 32, _, rfl, rfl, _, rfl, ?_⟩
    by_cases h1 : 32 ≤ b
    · rw [decide_eq_true (show (32 : Int) ≤ ((b : Nat) : Int) by omega)]
      rw [decide_eq_true h1] at q0
      refine iteT ⟨_, 126, rfl, rfl, _, rfl, ?_⟩
      by_cases h2 : b ≤ 126
      · rw [decide_eq_true (show ((b : Nat) : Int) ≤ 126 by omega)]
        rw [decide_eq_true h2] at q0
        refine iteT ⟨.int (b : Nat), rfl, rfl, ?_⟩
        rw [show decide (V.int ((b : Nat) : Int) = V.int 37) = decide (b = 37) by rw [vint_dec]; exact decide_eq_decide.mpr (by omega)]
        exact q0
      · rw [decide_eq_false (show ¬ ((b : Nat) : Int) ≤ 126 by omega)]
        rw [decide_eq_false h2] at q0
        exact iteF q0
    · rw [decide_eq_false (show ¬ (32 : Int) ≤ ((b : Nat) : Int) by omega)]
      rw [decide_eq_false h1] at q0
      exact iteF ⟨false, rfl, iteF q0⟩
/-! ### sign_of_byte -/
abbrev s_sign_of_byte : Stmt := topS 17
abbrev N_sign_of_byte : List Str := ["byte"]
abbrev P_sign_of_byte : List Str := ["byte"]
theorem sc_sign_of_byte : FnScope N_sign_of_byte ["byte"] (defScope s_sign_of_byte) := ⟨rfl, rfl, rfl, by decide +kernel, rfl, by decide +kernel, by decide +kernel⟩
theorem ms_at : ∀ b : Fin 127, isSgn b.val = true → (if b.val < 37 then (TL.tl MSIGNS)[b.val - 32]? else (TL.tl MSIGNS)[b.val - 33]?) = some b.val := by decide +kernel
def sp_sign_of : Sp := fun vs H Q _ => ∃ b : Nat, vs = [.int (b : Nat)] ∧ isSgn b = true ∧ Tell H (.str ⟨#[b]⟩) Q
theorem ok_sign_of {f : Addr} {fd : FuncData} {k : Nat} (F : Fun K "sign_of_byte" "sign_of_byte" s_sign_of_byte f fd) (T : Tx mg tk) : FnOk P w K mg base CX0 (k + 1) f fd P_sign_of_byte sp_sign_of := by
  refine F.ok sc_sign_of_byte (fun vs H Q E h => ?_) (fun cdv A outer s H vs Q E hr h => ?_)
  · obtain ⟨b, rfl, _⟩ := h
    rfl
  · have nd := sc_sign_of_byte.nd
    obtain ⟨b, rfl, hb, q⟩ := h
    refine ⟨_, (pss_one (ps_ret (pe_ifExp (pt_cmpR op_lt (pv 0) (pe_glob (v := .int 37) (by rfl) T.m_PERCENT ⟨_, rfl⟩) (nomark _)) (pe_ix ix_str (pe_glob (v := .str MSIGNS) (by rfl) T.m_SIGNS ⟨_, rfl⟩) (pe_op op_sub (pv 0) pe_int) (fun _ _ => rfl)) (pe_ix ix_str (pe_glob (v := .str MSIGNS) (by rfl) T.m_SIGNS ⟨_, rfl⟩) (pe_op op_sub (pv 0) pe_int) (fun _ _ => rfl))))), ?_⟩
    have hs := hb
    unfold isSgn at hs
    simp only [Bool.and_eq_true, decide_eq_true_eq] at hs
    have hm := ms_at ⟨b, by omega⟩ hb
    have hl : MSIGNS.length ≤ sizeLine := by decide +kernel
    refine ⟨.int (b : Nat), rfl, _, 37, rfl, rfl, _, rfl, ?_⟩
    by_cases h : b < 37
    · rw [decide_eq_true (show ((b : Nat) : Int) < 37 by omega)]
      rw [if_pos h] at hm
      refine iteT ⟨.int (b : Nat), rfl, _, 32, rfl, rfl, MSIGNS, _, b, rfl, rfl, hl, ?_, q _ (Same.refl _)⟩
      rw [show ((b : Nat) : Int) - 32 = ((b - 32 : Nat) : Int) by omega]
      exact atI_nat hm
    · rw [decide_eq_false (show ¬ ((b : Nat) : Int) < 37 by omega)]
      rw [if_neg h] at hm
      refine iteF ⟨.int (b : Nat), rfl, _, 33, rfl, rfl, MSIGNS, _, b, rfl, rfl, hl, ?_, q _ (Same.refl _)⟩
      rw [show ((b : Nat) : Int) - 33 = ((b - 33 : Nat) : Int) by omega]
      exact atI_nat hm
end
end K20

namespace K20
open PySem PySem.Spec PyProof.Rows L2 LH
section
variable {P : Program} {w : World} {K : PySem.W.Frag} {mg : Str → Option Value} {base : Heap} {tk : Nat → Tok} {ca : Nat → Addr}
/-! ### the signs of a byte by sixteens -/
def hexL (b : Nat) : List Nat := [61, hexDig (b / 16), hexDig (b % 16)]
def uL (b : Nat) : List Nat := if (isSgn b && !decide (b = 61)) = true then [b] else hexL b
def uS (b : Nat) : Str := ⟨(uL b).toArray⟩
def fixL (us : List (List Nat)) : List (List Nat) := if us.getLast? = some [32] then us.dropLast ++ [hexL 32] else us
theorem hexDig_lt {n : Nat} (h : n < 16) : hexDig n < 128 := by unfold hexDig; split <;> omega
theorem uL_low {b : Nat} (h : b < 256) : ∀ c ∈ uL b, c < 128 := fun c hc => by
  unfold uL at hc
  split at hc
  · rename_i hs
    rw [List.mem_singleton.mp hc]
    unfold isSgn at hs
    simp only [Bool.and_eq_true, decide_eq_true_eq] at hs
    omega
  · have h1 := hexDig_lt (n := b / 16) (by omega)
    have h2 := hexDig_lt (n := b % 16) (by omega)
    simp only [hexL, List.mem_cons, List.mem_nil_iff, or_false] at hc
    omega
theorem uL_len (b : Nat) : 1 ≤ (uL b).length ∧ (uL b).length ≤ 3 := by
  unfold uL
  split
  · exact ⟨Nat.le_refl 1, by show 1 ≤ 3; decide⟩
  · exact ⟨by show 1 ≤ 3; decide, Nat.le_refl 3⟩
/-- units: each of one to three signs below 128 -/
def UnitsL (us : List (List Nat)) : Prop := ∀ u ∈ us, (1 ≤ u.length ∧ u.length ≤ 3) ∧ ∀ c ∈ u, c < 128
theorem units_map {l : List Nat} (h : BytesN l) : UnitsL (l.map uL) := fun u hu => by
  obtain ⟨b, hb, rfl⟩ := List.mem_map.mp hu
  exact ⟨uL_len b, uL_low (h b hb)⟩
theorem units_fix {us : List (List Nat)} (h : UnitsL us) : UnitsL (fixL us) := fun u hu => by
  unfold fixL at hu
  split at hu
  · rcases List.mem_append.mp hu with hu | hu
    · exact h u (List.dropLast_subset _ hu)
    · rw [List.mem_singleton.mp hu]
      exact ⟨⟨by decide, by decide⟩, by decide +kernel⟩
  · exact h u hu
theorem fix_len (us : List (List Nat)) : (fixL us).length = us.length := by
  unfold fixL
  split
  · rename_i h
    rcases List.eq_nil_or_concat us with h0 | ⟨L, y, h0⟩
    · subst h0; simp at h
    · rw [List.concat_eq_append] at h0
      subst h0
      simp
  · rfl
theorem fix_last (us : List (List Nat)) : (fixL us).getLast? ≠ some [32] := by
  unfold fixL
  split
  · rw [List.getLast?_concat]
    decide +kernel
  · assumption
theorem strL_len (us : List (List Nat)) : (strL us).length = us.length := List.length_map ..
theorem units_okS {us : List (List Nat)} (h : UnitsL us) : ∀ x ∈ strL us, OkS x := fun x hx => by
  obtain ⟨u, hu, rfl⟩ := List.mem_map.mp hx
  intro c hc
  have := (h u hu).2 c hc
  omega
theorem okS_blank : ∀ x ∈ [Str.ofString " "], OkS x := fun x hx c hc => by
  rw [List.mem_singleton.mp hx] at hc
  have : ∀ d ∈ TL.tl (Str.ofString " "), d < 1114112 := by decide +kernel
  exact this c hc
/-! ### figures_of -/
abbrev s_figures_of : Stmt := topS 40
abbrev N_figures_of : List Str := ["byte"]
abbrev P_figures_of : List Str := ["byte"]
theorem sc_figures_of : FnScope N_figures_of ["byte"] (defScope s_figures_of) := ⟨rfl, rfl, rfl, by decide +kernel, rfl, by decide +kernel, by decide +kernel⟩
def sp_figures : Sp := fun vs H Q _ => ∃ b : Nat, vs = [.int (b : Nat)] ∧ b < 256 ∧ Tell H (.str ⟨(hexL b).toArray⟩) Q
theorem ok_figures {f : Addr} {fd : FuncData} {k : Nat} (F : Fun K "figures_of" "figures_of" s_figures_of f fd) : FnOk P w K mg base CX0 (k + 1) f fd P_figures_of sp_figures := by
  refine F.ok sc_figures_of (fun vs H Q E h => ?_) (fun cdv A outer s H vs Q E hr h => ?_)
  · obtain ⟨b, rfl, _⟩ := h
    rfl
  · have nd := sc_figures_of.nd
    obtain ⟨b, rfl, hb, q⟩ := h
    refine ⟨_, (pss_one (ps_ret (pe_joined (PJ.cons pe_str (PJ.cons (pe_fmtS (pv 0) (pe_joined1 pe_str)) PJ.nil))))), ?_⟩
    refine ⟨Str.ofString "=", rfl, by decide +kernel, .int (b : Nat), rfl, (b : Nat), _, rfl, fmt_hex hb, _, rfl, by rw [len_app, len_app]; show _ + _ + 2 ≤ _; decide +kernel, ?_⟩
    have e : Str.empty ++ Str.ofString "=" ++ ⟨#[hexDig (b / 16), hexDig (b % 16)]⟩ = ⟨(hexL b).toArray⟩ := TL.ext_tl (by rw [TL.tl_append, TL.tl_append, show TL.tl Str.empty = [] from rfl, show TL.tl (Str.ofString "=") = [61] by decide +kernel]; rfl)
    show Q (.str (Str.empty ++ Str.ofString "=" ++ ⟨#[hexDig (b / 16), hexDig (b % 16)]⟩)) _
    rw [e]
    exact q _ (Same.refl _)
/-! ### part_of -/
abbrev s_part_of : Stmt := topS 39
abbrev N_part_of : List Str := ["byte"]
abbrev P_part_of : List Str := ["byte"]
theorem sc_part_of : FnScope N_part_of ["byte"] (defScope s_part_of) := ⟨rfl, rfl, rfl, by decide +kernel, rfl, by decide +kernel, by decide +kernel⟩
def sp_part_of : Sp := fun vs H Q _ => ∃ b : Nat, vs = [.int (b : Nat)] ∧ b < 256 ∧ Tell H (.str (uS b)) Q
theorem ok_part_of {f fB fO fF : Addr} {fd fdB fdO fdF : FuncData} (F : Fun K "part_of" "part_of" s_part_of f fd) (T : Tx mg tk) (D_is_sign_byte : Def P w K mg base "is_sign_byte" 1 fB fdB P_is_sign_byte sp_sign_byte) (D_sign_of_byte : Def P w K mg base "sign_of_byte" 1 fO fdO P_sign_of_byte sp_sign_of) (D_figures_of : Def P w K mg base "figures_of" 1 fF fdF P_figures_of sp_figures) : FnOk P w K mg base CX0 2 f fd P_part_of sp_part_of := by
  refine F.ok sc_part_of (fun vs H Q E h => ?_) (fun cdv A outer s H vs Q E hr h => ?_)
  · obtain ⟨b, rfl, _⟩ := h
    rfl
  · have nd := sc_part_of.nd
    obtain ⟨b, rfl, hb, q⟩ := h
    refine ⟨_, (pss_cons (ps_if (PW.pt (pw_and (pt_val (pe_def D_is_sign_byte (hr.mono (by decide)) (pa_cons (pv 0) pa_nil))) (pw_and1 (pt_cmpR op_ne (pv 0) (pe_callB call_ord (by rfl) T.n_ord (by decide +kernel) (pa_cons pe_str pa_nil)) (nomark _)))))
        (pss_one (ps_ret (pe_def D_sign_of_byte (hr.mono (by decide)) (pa_cons (pv 0) pa_nil))))
        pss_nil)
      (pss_one (ps_ret (pe_def D_figures_of (hr.mono (by decide)) (pa_cons (pv 0) pa_nil))))), ?_⟩
    unfold uS uL at q
    refine ifT (isSgn b && !decide (b = 61)) (fun k q1 => andT _ _ (fun k q2 => ⟨.int (b : Nat), rfl, b, rfl, fun H1 s1 => ⟨_, rfl, q2 _ s1⟩⟩) (fun _ H1 k s1 q2 => ⟨.int (b : Nat), rfl, Str.ofString "=", rfl, by decide +kernel, rfl, _, rfl, ?_⟩) q1) (fun hc H1 s1 => ?_) (fun hc H1 s1 => ?_)
    · refine TellB.eq ?_ q2 _ (Same.refl _)
      rw [show ((Str.ofString "=").cps.getD 0 0 : Nat) = 61 by decide +kernel, vint_dec]
      congr 1
      exact decide_eq_decide.mpr (by omega)
    · rw [if_pos hc] at q
      have hs : isSgn b = true := (Bool.and_eq_true _ _ ▸ hc).1
      exact ⟨.int (b : Nat), rfl, b, rfl, hs, fun H2 s2 => q _ (s1.trans s2)⟩
    · rw [if_neg (by rw [hc]; exact Bool.false_ne_true)] at q
      exact ⟨.int (b : Nat), rfl, b, rfl, hb, fun H2 s2 => q _ (s1.trans s2)⟩
/-! ### parts_of -/
abbrev s_parts_of : Stmt := topS 38
abbrev N_parts_of : List Str := ["line", "parts", "byte"]
abbrev P_parts_of : List Str := ["line"]
theorem sc_parts_of : FnScope N_parts_of ["line"] (defScope s_parts_of) := ⟨rfl, rfl, rfl, by decide +kernel, rfl, by decide +kernel, by decide +kernel⟩
def sp_parts_of : Sp := fun vs H Q _ => ∃ (a : Addr) (l : List Nat), vs = [.ref a] ∧ H a = some (.lst (nb l)) ∧ BytesN l ∧ l.length ≤ 100000 ∧ New H ((strL (fixL (l.map uL))).map V.str) Q
theorem ok_parts_of {f fP fF : Addr} {fd fdP fdF : FuncData} (F : Fun K "parts_of" "parts_of" s_parts_of f fd) (T : Tx mg tk) (D_part_of : Def P w K mg base "part_of" 2 fP fdP P_part_of sp_part_of) (D_figures_of : Def P w K mg base "figures_of" 1 fF fdF P_figures_of sp_figures) : FnOk P w K mg base CX0 3 f fd P_parts_of sp_parts_of := by
  refine F.ok sc_parts_of (fun vs H Q E h => ?_) (fun cdv A outer s H vs Q E hr h => ?_)
  · obtain ⟨a, l, rfl, _⟩ := h
    rfl
  · have nd := sc_parts_of.nd
    obtain ⟨a, l, rfl, hS, hb, hl, q⟩ := h
    refine ⟨_, (pss_cons (ps_setLc (i := 1) (own := [("byte", 2)]) (g := gName 2) (by rfl) nd rfl rfl (sw_true rfl rfl rfl (by decide +kernel)) (pi_list (pv 0)) (blkOk_by (N := N_parts_of) (sc := defScope s_parts_of) (by decide +kernel)) (fun _ _ _ _ _ => (pg_name (i := 2) nd rfl (Or.inl rfl))) (fun _ _ _ _ _ => pts_nil) (fun _ _ _ _ _ => (pe_def D_part_of (hr.mono (by decide)) (pa_cons (pv 2) pa_nil))))
      (pss_cons (ps_if (pt_cmpR (oEqD K hr.units) (pe_slice (slL K) (pv 1) (po_some (pe_un un_neg pe_int)) po_none) (pe_lst (pa_cons pe_str pa_nil)) (nomark _))
        (pss_one (ps_asg (pe_def D_figures_of (hr.mono (by decide)) (pa_cons (pe_callB call_ord (by rfl) T.n_ord (by decide +kernel) (pa_cons pe_str pa_nil)) pa_nil)) (pg_sub (pv 1) (pe_un un_neg pe_int) set_list)))
        pss_nil)
      (pss_one (ps_ret (pv 1))))), ?_⟩
    refine ⟨.ref a, rfl, a, rfl, ⟨_, .inl (.inl hS)⟩, fun D hD => lc_pure (fun i => (nb l).getD i .non) (fun i => .str (uS (l.getD i 0))) walk_listF (fun H2 s2 => s2.seq (.inl (.inl hS))) hD (by rw [nb_len, sizeLine_eq]; omega) (fun i H2 Q2 hi s2 q2 => ?_) (fun H2 s2 e => ?_)⟩
    · rw [nb_len] at hi
      rw [nb_at l hi]
      exact ⟨.int (l.getD i 0 : Nat), rfl, l.getD i 0, rfl, hb _ (getD_mem l 0 hi), q2⟩
    · have e2 : (List.range (nb l).length).map (fun i => V.str (uS (l.getD i 0))) = (strL (l.map uL)).map V.str := by
        rw [nb_len]
        have := congrArg (List.map fun b => V.str (uS b)) (LH.range_getD l 0)
        rw [List.map_map] at this
        rw [show (fun i => V.str (uS (l.getD i 0))) = (fun b => V.str (uS b)) ∘ fun i => l.getD i 0 from rfl, this]
        unfold strL
        rw [List.map_map, List.map_map]
        rfl
      rw [e2] at e
      have hU := units_map hb
      have hm : ((strL (l.map uL)).map V.str).length = l.length := by rw [List.length_map, strL_len, List.length_map]
      have ok1 := units_okS hU
      dsimp only [gName]
      refine ifT (decide ((l.map uL).getLast? = some [32])) (fun k q1 => ⟨.ref D, rfl, 1, rfl, _, rfl, D, _, rfl, .inl (.inl e), fun g ng => ⟨Nat.le_of_lt (small1000 (show 1 ≤ 1000 by decide)), fun g2 ng2 => ?_⟩⟩) (fun hc H3 s3 => ?_) (fun hc H3 s3 => ?_)
      · have t1 := same_upd (o := .lst (cutV ((strL (l.map uL)).map V.str) (some (-1)) none)) ng
        have ecut : cutV ((strL (l.map uL)).map V.str) (some (-1)) none = ((strL (l.map uL)).drop ((strL (l.map uL)).length - 1)).map V.str := by rw [cutV_last, List.length_map, List.map_drop]
        rw [ecut] at t1 ng2 ⊢
        refine ⟨_, _, dp_strs (.inl (.inl (same_upd ng2 _ _ upd_same))), dp_strs (bs := [Str.ofString " "]) (.inl (.inl upd_same)), shaped_strs _ (fun x hx => ok1 x (List.mem_of_mem_drop hx)), shaped_strs _ okS_blank, _, rfl, TellB.eq ?_ q1 _ (t1.trans (same_upd ng2))⟩
        rw [eqv_strsL]
        refine decide_eq_decide.mpr ?_
        rw [drop_last_eq]
        unfold strL
        rw [List.getLast?_map]
        cases (l.map uL).getLast? with
        | none => simp
        | some u =>
          show some _ = some _ ↔ some u = some [32]
          rw [Option.some.injEq, Option.some.injEq, str_eq_iff, show TL.tl (Str.ofString " ") = [32] by decide +kernel]
      · have hc := of_decide_eq_true hc
        rcases List.eq_nil_or_concat (l.map uL) with h0 | ⟨L, y, h0⟩
        · rw [h0] at hc; simp at hc
        · rw [List.concat_eq_append] at h0
          rw [h0, List.getLast?_concat] at hc
          have ex : fixL (l.map uL) = L ++ [hexL 32] := by
            unfold fixL
            rw [h0, List.getLast?_concat, if_pos hc, List.dropLast_concat]
          have eD := s3 _ _ e
          rw [h0, strL_app, List.map_append] at eD
          have eD : H3 D = some (.lst ((strL L).map V.str ++ [.str ⟨y.toArray⟩])) := eD
          refine ⟨Str.ofString " ", rfl, by decide +kernel, 32, (by rw [show ((Str.ofString " ").cps.getD 0 0 : Nat) = 32 by decide +kernel]; rfl), by decide, fun H4 s4 => ?_⟩
          refine ⟨.ref D, rfl, 1, rfl, D, _, -1, _, rfl, rfl, s4 _ _ eD, ixN_last _ _, ?_⟩
          rw [set_last]
          refine ⟨.ref D, rfl, q _ D (fun b o eb => ?_) hD ?_⟩
          · rw [upd_ne (ne_of_none eb hD)]
            exact s4 _ _ (s3 _ _ (s2 _ _ eb))
          · rw [upd_same, ex, strL_app, List.map_append]
            rfl
      · have hc := of_decide_eq_false hc
        have ex : fixL (l.map uL) = l.map uL := by unfold fixL; rw [if_neg hc]
        rw [ex] at q
        exact ⟨.ref D, rfl, q _ D (s2.trans s3) hD (s3 _ _ e)⟩
end
end K20

namespace K20
open PySem PySem.Spec PyProof.Rows L2 LH
section
variable {P : Program} {w : World} {K : PySem.W.Frag} {mg : Str → Option Value} {base : Heap} {tk : Nat → Tok} {ca : Nat → Addr}
/-! ### the bytes between the ends of rows -/
def pstep (s : Nat) (st : List (List Nat)) (b : Nat) : List (List Nat) := if b = s then st ++ [[]] else st.dropLast ++ [st.getLastD [] ++ [b]]
theorem pstep_hit (s : Nat) (st : List (List Nat)) {b : Nat} (h : b = s) : pstep s st b = st ++ [[]] := if_pos h
theorem pstep_miss (s : Nat) (st : List (List Nat)) {b : Nat} (h : ¬ b = s) : pstep s st b = st.dropLast ++ [st.getLastD [] ++ [b]] := if_neg h
theorem splitL_fold (s : Nat) : ∀ (l : List Nat) (A : List (List Nat)) (c : List Nat), l.foldl (pstep s) (A ++ [c]) = A ++ ((c ++ (splitL s l).headD []) :: (splitL s l).tail)
  | [], A, c => by simp [splitL]
  | b :: r, A, c => by
    rw [List.foldl_cons]
    by_cases h : b = s
    · rw [pstep_hit _ _ h, splitL_fold s r (A ++ [c]) []]
      conv => rhs; unfold splitL
      rw [if_pos h]
      have e := splitL_eta s r
      simp only [List.headD_cons, List.tail_cons, List.append_nil, List.nil_append, List.append_assoc, List.singleton_append]
      rw [← e]
    · rw [pstep_miss _ _ h, List.dropLast_concat, List.getLastD_concat, splitL_fold s r A (c ++ [b])]
      conv => rhs; unfold splitL
      rw [if_neg h]
      simp
theorem split_fold (s : Nat) (l : List Nat) : l.foldl (pstep s) [[]] = splitL s l := by
  have := splitL_fold s l [] []
  rw [List.nil_append, List.nil_append, List.nil_append] at this
  rw [this, ← splitL_eta]
/-- a list of lists of bytes that is being made -/
structure LsInv (H0 H : Hp) (o : Addr) (L : List (Addr × List Nat)) : Prop where
  lst : H o = some (.lst (L.map fun e => V.ref e.1))
  con : ∀ e ∈ L, H e.1 = some (.lst (nb e.2))
  new : ∀ e ∈ L, H0 e.1 = none
  off : ∀ e ∈ L, e.1 ≠ o
  dif : (L.map fun e => e.1).Nodup
theorem LsInv.same {H0 H H' : Hp} {o : Addr} {L : List (Addr × List Nat)} (h : LsInv H0 H o L) (s : Same H H') : LsInv H0 H' o L := ⟨s _ _ h.lst, fun e he => s _ _ (h.con e he), h.new, h.off, h.dif⟩
/-- a new empty list behind the others, in the same outer list -/
theorem LsInv.push {H0 H : Hp} {o t : Addr} {L : List (Addr × List Nat)} (h : LsInv H0 H o L) (s0 : Same H0 H) (nt : H t = none) : LsInv H0 (upd (upd H t (.lst [])) o (.lst ((L.map fun e => V.ref e.1) ++ [.ref t]))) o (L ++ [(t, [])]) := by
  have hto : t ≠ o := fun z => by rw [z, h.lst] at nt; exact nomatch nt
  refine ⟨by rw [upd_same, List.map_append]; rfl, fun e he => ?_, fun e he => ?_, fun e he => ?_, ?_⟩
  · rcases List.mem_append.mp he with he | he
    · rw [upd_ne (h.off e he), upd_ne (ne_of_none (h.con e he) nt)]; exact h.con e he
    · rw [List.mem_singleton.mp he]; show upd _ o _ t = _; rw [upd_ne hto, upd_same]; rfl
  · rcases List.mem_append.mp he with he | he
    · exact h.new e he
    · rw [List.mem_singleton.mp he]; exact s0.free nt
  · rcases List.mem_append.mp he with he | he
    · exact h.off e he
    · rw [List.mem_singleton.mp he]; exact hto
  · rw [List.map_append, List.nodup_append]
    refine ⟨h.dif, by simp, fun a ha b hb => ?_⟩
    obtain ⟨e, he, rfl⟩ := List.mem_map.mp ha
    have : b = t := by simpa using hb
    rw [this]
    exact ne_of_none (h.con e he) nt
/-- the same in a new outer list -/
theorem LsInv.cat {H0 H : Hp} {o o' t : Addr} {L : List (Addr × List Nat)} (h : LsInv H0 H o L) (s0 : Same H0 H) (nt : H t = none) (et : ∃ H1, Same H H1 ∧ H1 t = some (.lst []) ∧ H1 o' = none) {H2 : Hp} (s2 : Same H H2) (e2 : H2 t = some (.lst [])) (eo : H2 o' = some (.lst ((L.map fun e => V.ref e.1) ++ [.ref t]))) : LsInv H0 H2 o' (L ++ [(t, [])]) := by
  obtain ⟨H1, s1, e1, n1⟩ := et
  refine ⟨by rw [eo, List.map_append]; rfl, fun e he => ?_, fun e he => ?_, fun e he => ?_, ?_⟩
  · rcases List.mem_append.mp he with he | he
    · exact s2 _ _ (h.con e he)
    · rw [List.mem_singleton.mp he]; exact e2
  · rcases List.mem_append.mp he with he | he
    · exact h.new e he
    · rw [List.mem_singleton.mp he]; exact s0.free nt
  · rcases List.mem_append.mp he with he | he
    · exact ne_of_none (s1 _ _ (h.con e he)) n1
    · rw [List.mem_singleton.mp he]; exact ne_of_none e1 n1
  · rw [List.map_append, List.nodup_append]
    refine ⟨h.dif, by simp, fun a ha b hb => ?_⟩
    obtain ⟨e, he, rfl⟩ := List.mem_map.mp ha
    have : b = t := by simpa using hb
    rw [this]
    exact ne_of_none (h.con e he) nt
/-- a byte more in the last list -/
theorem LsInv.last {H0 H : Hp} {o t : Addr} {l : List Nat} {b : Nat} {L : List (Addr × List Nat)} (h : LsInv H0 H o (L ++ [(t, l)])) : LsInv H0 (upd H t (.lst (nb l ++ [.int (b : Nat)]))) o (L ++ [(t, l ++ [b])]) := by
  have hm : (t, l) ∈ L ++ [(t, l)] := by simp
  have hto : t ≠ o := h.off _ hm
  have hd := h.dif
  rw [List.map_append, List.nodup_append] at hd
  refine ⟨?_, fun e he => ?_, fun e he => ?_, fun e he => ?_, ?_⟩
  · rw [upd_ne (Ne.symm hto), h.lst, List.map_append, List.map_append]
    rfl
  · rcases List.mem_append.mp he with he | he
    · have : e.1 ≠ t := hd.2.2 e.1 (List.mem_map.mpr ⟨e, he, rfl⟩) t (by simp)
      rw [upd_ne this]; exact h.con e (by simp [he])
    · rw [List.mem_singleton.mp he]
      show upd H t _ t = _
      rw [upd_same]
      unfold nb
      rw [List.map_append]
      rfl
  · rcases List.mem_append.mp he with he | he
    · exact h.new e (by simp [he])
    · rw [List.mem_singleton.mp he]; exact h.new (t, l) hm
  · rcases List.mem_append.mp he with he | he
    · exact h.off e (by simp [he])
    · rw [List.mem_singleton.mp he]; exact hto
  · rw [List.map_append]
    have := h.dif
    rw [List.map_append] at this
    exact this
/-- a new list of lists of bytes -/
def NewLs (H : Hp) (ps : List (List Nat)) (Q : VK) : Prop := ∀ H' p (ts : List Addr), Same H H' → H p = none → H' p = some (.lst (ts.map V.ref)) → ts.length = ps.length →
  (∀ i, i < ps.length → H' (ts.getD i 0) = some (.lst (nb (ps.getD i []))) ∧ H (ts.getD i 0) = none) → Q (.ref p) H'
theorem LsInv.tell {H0 H : Hp} {o : Addr} {L : List (Addr × List Nat)} {ps : List (List Nat)} {Q : VK} (h : LsInv H0 H o L) (s : Same H0 H) (ho : H0 o = none) (e : L.map (fun e => e.2) = ps) (q : NewLs H0 ps Q) : Q (.ref o) H := by
  subst e
  refine q H o (L.map fun e => e.1) s ho (by rw [h.lst, List.map_map]; rfl) (by rw [List.length_map, List.length_map]) fun i hi => ?_
  rw [List.length_map] at hi
  have h1 := h.con L[i] (List.getElem_mem hi)
  have h2 := h.new L[i] (List.getElem_mem hi)
  rw [List.getD_eq_getElem?_getD, List.getElem?_map, List.getElem?_eq_getElem hi, List.getD_eq_getElem?_getD, List.getElem?_map, List.getElem?_eq_getElem hi]
  exact ⟨h1, h2⟩
def sp_lines : Sp := fun vs H Q _ => ∃ (a : Addr) (l : List Nat), vs = [.ref a] ∧ H a = some (.lst (nb l)) ∧ l.length ≤ 100000 ∧ NewLs H (splitL 10 l) Q
theorem fold_ne (s : Nat) (l : List Nat) : ∀ st : List (List Nat), st ≠ [] → l.foldl (pstep s) st ≠ [] := by
  induction l with
  | nil => intro st h; exact h
  | cons b r ih => intro st h; exact ih _ (by unfold pstep; split <;> simp)
theorem fold_many (s : Nat) (l : List Nat) : ∀ st : List (List Nat), (l.foldl (pstep s) st).length ≤ st.length + l.length + 1 := by
  induction l with
  | nil => intro st; simp
  | cons b r ih =>
    intro st
    have := ih (pstep s st b)
    have h2 : (pstep s st b).length ≤ st.length + 1 := by
      unfold pstep
      split <;> simp
    rw [List.foldl_cons, List.length_cons]
    rcases Nat.lt_or_ge (pstep s st b).length (st.length + 1) with h | h <;> omega
theorem map_snd_last {L : List (Addr × List Nat)} {t : Addr} {l : List Nat} : (L ++ [(t, l)]).map (fun e => e.2) = L.map (fun e => e.2) ++ [l] := by rw [List.map_append]; rfl
/-! ### lines_of -/
abbrev s_lines_of : Stmt := topS 37
abbrev N_lines_of : List Str := ["row", "lines", "byte"]
abbrev P_lines_of : List Str := ["row"]
theorem sc_lines_of : FnScope N_lines_of ["row"] (defScope s_lines_of) := ⟨rfl, rfl, rfl, by decide +kernel, rfl, by decide +kernel, by decide +kernel⟩
theorem ok_lines {f : Addr} {fd : FuncData} {k : Nat} (F : Fun K "lines_of" "lines_of" s_lines_of f fd) (T : Tx mg tk) : FnOk P w K mg base CX0 (k + 1) f fd P_lines_of sp_lines := by
  refine F.ok sc_lines_of (fun vs H Q E h => ?_) (fun cdv A outer s H vs Q E hr h => ?_)
  · obtain ⟨a, l, rfl, _⟩ := h
    rfl
  · have nd := sc_lines_of.nd
    obtain ⟨a, l, rfl, hS, hl, q⟩ := h
    refine ⟨_, (pss_cons (ps_set (i := 1) nd rfl (.inl rfl) (pe_lst (pa_cons (pe_lst pa_nil) pa_nil)))
      (pss_cons (ps_for PassesOwn.never rfl (pi_list (pv 0)) (pg_name (i := 2) nd rfl (Or.inl rfl))
        (pss_one (ps_if (pt_cmpR op_eq (pv 2) (pe_glob (v := .int 10) (by rfl) T.m_ROW_END ⟨_, rfl⟩) (nomark _))
          (pss_one (ps_expr (pe_bm PySem.F.plainAttrs_list PySem.F.slot_list_append PySem.F.type_list_append mt_append (pv 1) (pa_cons (pe_lst pa_nil) pa_nil))))
          (pss_one (ps_expr (pe_bm PySem.F.plainAttrs_list PySem.F.slot_list_append PySem.F.type_list_append mt_append (pe_ix (ixL K) (pv 1) (pe_un un_neg pe_int) (fun _ _ => rfl)) (pa_cons (pv 2) pa_nil)))))))
      (pss_one (ps_ret (pv 1))))), ?_⟩
    refine ⟨Nat.zero_le _, fun t nt => ⟨Nat.le_of_lt (small1000 (show 1 ≤ 1000 by decide)), fun o no => ?_⟩⟩
    have s1 := same_upd (o := .lst []) nt
    have s2 := same_upd (o := .lst [V.ref t]) no
    have et := s2 t _ upd_same
    have eo : upd (upd H t (.lst [])) o (.lst [V.ref t]) o = some (.lst [V.ref t]) := upd_same
    have ho : H o = none := s1.free no
    have hot : t ≠ o := fun z => by rw [z, upd_same] at no; exact nomatch no
    have sA := s1.trans s2
    have I0 : LsInv H (upd (upd H t (.lst [])) o (.lst [V.ref t])) o [(t, [])] := ⟨eo, fun e he => by rw [List.mem_singleton.mp he]; exact et, fun e he => by rw [List.mem_singleton.mp he]; exact nt, fun e he => by rw [List.mem_singleton.mp he]; exact hot, by simp⟩
    generalize upd (upd H t (.lst [])) o (.lst [V.ref t]) = H1 at *
    refine ⟨.ref a, rfl, a, rfl, ⟨nb l, .inl (.inl (sA _ _ hS))⟩, for_it (walk_listF (xs := nb l)) (fun i σ H' => ∃ (y2 : Option V) (L : List (Addr × List Nat)), σ = [some (.ref a), some (.ref o), y2] ∧ Same H H' ∧ LsInv H H' o L ∧ L.map (fun e => e.2) = (l.take i).foldl (pstep 10) [[]])
      ⟨none, [(t, [])], rfl, sA, I0, rfl⟩ (fun i σ H' _ h => by obtain ⟨_, _, rfl, sm, _⟩ := h; exact .inl (.inl (sm _ _ hS))) (fun i x σ H' H'' hi hP hy => ?_) (fun σ H' hP => ?_)⟩
    · obtain ⟨y2, L, rfl, sm, hI, hL⟩ := hP
      obtain ⟨rfl, rfl⟩ := hy
      rw [nb_len] at hi
      dsimp only [gName]
      rw [nb_at l hi]
      have hfold : (l.take (i + 1)).foldl (pstep 10) [[]] = pstep 10 (L.map fun e => e.2) (l.getD i 0) := by
        rw [List.take_add_one, List.getElem?_eq_getElem hi, Option.toList_some, List.foldl_append, hL, List.getD_eq_getElem?_getD, List.getElem?_eq_getElem hi]
        rfl
      have hmany := fold_many 10 (l.take i) [[]]
      rw [← hL, List.length_map, List.length_take] at hmany
      have hne : L ≠ [] := fun h => by
        have := fold_ne 10 (l.take i) [[]] (by simp)
        rw [← hL, h] at this
        exact this rfl
      rw [hfold]
      generalize l.getD i 0 = b
      refine ifT (decide (b = 10)) (fun k q1 => ⟨.int (b : Nat), rfl, rfl, _, rfl, TellB.eq (by rw [vint_dec]; exact decide_eq_decide.mpr (by omega)) q1 _ (Same.refl _)⟩) (fun hc H3 s3 => ?_) (fun hc H3 s3 => ?_)
      · have hc := of_decide_eq_true hc
        have hI3 := hI.same s3
        refine ⟨.ref o, rfl, .inl ⟨rfl, _, .inl (.inl hI3.lst)⟩, Nat.zero_le _, fun u nu => ⟨o, _, _, rfl, rfl, same_upd nu _ _ hI3.lst, by rw [List.length_map, sizeLine_eq]; simp only [List.length_singleton] at hmany; omega, ?_⟩⟩
        refine ⟨_, L ++ [(u, [])], rfl, fun b' x e => ?_, hI3.push (sm.trans s3) nu, ?_⟩
        · rw [upd_ne (ne_of_none e ho)]
          exact same_upd nu _ _ (s3 _ _ (sm _ _ e))
        · rw [map_snd_last, pstep_hit _ _ hc]
      · have hc := of_decide_eq_false hc
        rcases List.eq_nil_or_concat L with h0 | ⟨L', ⟨u, c⟩, h0⟩
        · exact absurd h0 hne
        rw [List.concat_eq_append] at h0
        subst h0
        have hI3 := hI.same s3
        have hm : (u, c) ∈ L' ++ [(u, c)] := by simp
        have eo3 := hI3.lst
        rw [show (L' ++ [(u, c)]).map (fun e => V.ref e.1) = (L'.map fun e => V.ref e.1) ++ [.ref u] by rw [List.map_append]; rfl] at eo3
        have ec3 := hI3.con _ hm
        have hcl : c.length ≤ 100000 := by
          rw [split_fold] at hL
          have h1 : c ∈ splitL 10 (l.take i) := by rw [← hL]; exact List.mem_map.mpr ⟨_, hm, rfl⟩
          have h2 := splitL_le 10 _ _ h1
          rw [List.length_take] at h2
          omega
        refine ⟨.ref o, rfl, 1, rfl, o, _, -1, .ref u, rfl, rfl, .inl (.inl eo3), atI_last _ _, .inl ⟨rfl, _, .inl (.inl ec3)⟩, .int (b : Nat), rfl, u, _, _, rfl, rfl, ec3, by rw [nb_len, sizeLine_eq]; show c.length < _; omega, ?_⟩
        refine ⟨_, L' ++ [(u, c ++ [b])], rfl, fun b' x e => ?_, hI3.last, ?_⟩
        · rw [upd_ne (ne_of_none e (hI.new _ hm))]
          exact s3 _ _ (sm _ _ e)
        · rw [map_snd_last, pstep_miss _ _ hc, map_snd_last, List.dropLast_concat, List.getLastD_concat]
    · obtain ⟨y2, L, rfl, sm, hI, hL⟩ := hP
      rw [nb_len, List.take_length, split_fold] at hL
      exact ⟨.ref o, rfl, hI.tell sm ho hL q⟩
end
end K20

namespace K20
open PySem PySem.Spec PyProof.Rows L2 LH
section
variable {P : Program} {w : World} {K : PySem.W.Frag} {mg : Str → Option Value} {base : Heap} {tk : Nat → Tok} {ca : Nat → Addr}
/-! ### the rows of a line -/
def tot (us : List (List Nat)) : Nat := (us.map (·.length)).sum
theorem tot_cons (u : List Nat) (r : List (List Nat)) : tot (u :: r) = u.length + tot r := by unfold tot; rw [List.map_cons, List.sum_cons]
theorem tot_flat (us : List (List Nat)) : us.flatten.length = tot us := by
  induction us with
  | nil => rfl
  | cons u r ih => rw [List.flatten_cons, List.length_append, ih, tot_cons]
theorem tot_le {us : List (List Nat)} (h : UnitsL us) : tot us ≤ 3 * us.length := by
  induction us with
  | nil => exact Nat.le_refl _
  | cons u r ih =>
    have := ih fun x hx => h x (by simp [hx])
    have := (h u (by simp)).1
    rw [tot_cons, List.length_cons]
    omega
def cutR : List Nat → List (List Nat) → List (List Nat)
  | row, [] => [row]
  | row, u :: r => if 60 < row.length + tot (u :: r) ∧ 60 ≤ row.length + u.length then (row ++ [61]) :: cutR u r else cutR (row ++ u) r
theorem cutR_many : ∀ (us : List (List Nat)) (row : List Nat), (cutR row us).length ≤ us.length + 1
  | [], row => Nat.le_refl _
  | u :: r, row => by
    unfold cutR
    split
    · have := cutR_many r u
      rw [List.length_cons, List.length_cons]
      omega
    · have := cutR_many r (row ++ u)
      rw [List.length_cons]
      omega
/-- all that is left goes into one row -/
theorem cutR_short : ∀ (us : List (List Nat)) (row : List Nat), row.length + tot us ≤ 60 → cutR row us = [row ++ us.flatten]
  | [], row, _ => by simp [cutR]
  | u :: r, row, h => by
    unfold cutR
    rw [if_neg (fun c => by omega), cutR_short r (row ++ u) (by rw [tot_cons] at h; rw [List.length_append]; omega), List.flatten_cons, List.append_assoc]
theorem cutR_low : ∀ (us : List (List Nat)) (row : List Nat), UnitsL us → (∀ c ∈ row, c < 128) → ∀ x ∈ cutR row us, ∀ c ∈ x, c < 128
  | [], row, _, hr, x, hx => by
    rw [List.mem_singleton.mp hx]
    exact hr
  | u :: r, row, h, hr, x, hx => by
    have hu := (h u (by simp)).2
    have hrr : UnitsL r := fun y hy => h y (by simp [hy])
    unfold cutR at hx
    split at hx
    · rcases List.mem_cons.mp hx with rfl | hx
      · intro c hc
        rcases List.mem_append.mp hc with hc | hc
        · exact hr c hc
        · rw [List.mem_singleton.mp hc]; decide
      · exact cutR_low r u hrr hu x hx
    · exact cutR_low r (row ++ u) hrr (fun c hc => (List.mem_append.mp hc).elim (hr c) (hu c)) x hx
/-- rows of at most sixty signs, without a blank at their end -/
theorem cutR_good : ∀ (us : List (List Nat)) (row : List Nat), UnitsL us → row.length < 60 ∨ row.length + tot us ≤ 60 → (us = [] → row.getLast? ≠ some 32) → (us ≠ [] → us.getLast? ≠ some [32]) → ((∀ u ∈ us, u = [32] ∨ u.getLast? ≠ some 32)) → ∀ x ∈ cutR row us, x.length ≤ 60 ∧ x.getLast? ≠ some 32
  | [], row, _, h1, h2, _, _, x, hx => by
    rw [List.mem_singleton.mp hx]
    exact ⟨by unfold tot at h1; simp at h1; omega, h2 rfl⟩
  | u :: r, row, h, h1, h2, h3, h4, x, hx => by
    have hu := (h u (by simp)).1
    have hrr : UnitsL r := fun y hy => h y (by simp [hy])
    have h3' : r ≠ [] → r.getLast? ≠ some [32] := fun hr => by
      have := h3 (by simp)
      rw [List.getLast?_cons, List.getLast?_eq_some_getLast hr] at this
      rw [List.getLast?_eq_some_getLast hr]
      exact this
    have h4' : ∀ y ∈ r, y = [32] ∨ y.getLast? ≠ some 32 := fun y hy => h4 y (by simp [hy])
    have lastU : r = [] → ∀ row : List Nat, (row ++ u).getLast? ≠ some 32 := fun hr row => by
      have h5 := h3 (by simp)
      rw [hr] at h5
      have h6 := (h4 u (by simp)).resolve_left (fun e => h5 (by rw [e]; rfl))
      rcases List.eq_nil_or_concat u with e | ⟨v, c, e⟩
      · rw [e] at hu; simp at hu
      · rw [List.concat_eq_append] at e
        rw [e] at h6 ⊢
        rw [← List.append_assoc, List.getLast?_concat]
        rwa [List.getLast?_concat] at h6
    rw [tot_cons] at h1
    unfold cutR at hx
    rw [tot_cons] at hx
    split at hx
    · rcases List.mem_cons.mp hx with rfl | hx
      · refine ⟨by rw [List.length_append, List.length_singleton]; omega, ?_⟩
        rw [List.getLast?_concat]
        decide
      · exact cutR_good r u hrr (.inl (by omega)) (fun hr => by have := lastU hr []; rwa [List.nil_append] at this) h3' h4' x hx
    · refine cutR_good r (row ++ u) hrr ?_ (fun hr => lastU hr row) h3' h4' x hx
      rw [List.length_append]
      omega
theorem strL_tls (us : List (List Nat)) : (strL us).map TL.tl = us := by
  unfold strL
  rw [List.map_map]
  exact List.map_id us
theorem join_units (us : List (List Nat)) : TL.tl (Txt.join (Str.ofString "") (strL us)) = us.flatten := by rw [tl_join0, strL_tls]
theorem sum_units (us : List (List Nat)) : ((strL us).map (·.length)).sum = tot us := by
  unfold strL tot
  rw [List.map_map]
  exact congrArg List.sum (List.map_congr_left fun x _ => mk_len x)
/-! ### cut -/
abbrev s_cut : Stmt := topS 41
abbrev N_cut : List Str := ["parts", "rows", "row", "left", "part"]
abbrev P_cut : List Str := ["parts"]
theorem sc_cut : FnScope N_cut ["parts"] (defScope s_cut) := ⟨rfl, rfl, rfl, by decide +kernel, rfl, by decide +kernel, by decide +kernel⟩
def sp_cut : Sp := fun vs H Q _ => ∃ (a : Addr) (us : List (List Nat)), vs = [.ref a] ∧ H a = some (.lst ((strL us).map V.str)) ∧ UnitsL us ∧ us.length ≤ 100000 ∧ New H ((strL (cutR [] us)).map V.str) Q
theorem ok_cut {f : Addr} {fd : FuncData} {k : Nat} (F : Fun K "cut" "cut" s_cut f fd) (T : Tx mg tk) : FnOk P w K mg base CX0 (k + 1) f fd P_cut sp_cut := by
  refine F.ok sc_cut (fun vs H Q E h => ?_) (fun cdv A outer s H vs Q E hr h => ?_)
  · obtain ⟨a, us, rfl, _⟩ := h
    rfl
  · have nd := sc_cut.nd
    obtain ⟨a, us, rfl, hS, hU, hl, q⟩ := h
    refine ⟨_, (pss_cons (ps_set (i := 1) nd rfl (.inl rfl) (pe_lst pa_nil))
      (pss_cons (ps_set (i := 2) nd rfl (.inl rfl) pe_str)
      (pss_cons (ps_set (i := 3) nd rfl (.inl rfl) (pe_callB call_len_str (by rfl) T.n_len (by decide +kernel) (pa_cons (pe_join pe_str (pv 0)) pa_nil)))
      (pss_cons (ps_for PassesOwn.never rfl (pi_list (pv 0)) (pg_name (i := 4) nd rfl (Or.inl rfl))
        (pss_cons (ps_if (PW.pt (pw_and (pt_cmpR op_gt (pv 3) (pe_glob (v := .int 60) (by rfl) T.m_ROW_SIGNS ⟨_, rfl⟩) (nomark _)) (pw_and1 (pt_cmpR op_ge (pe_op op_add (pe_callB call_len_str (by rfl) T.n_len (by decide +kernel) (pa_cons (pv 2) pa_nil)) (pe_callB call_len_str (by rfl) T.n_len (by decide +kernel) (pa_cons (pv 4) pa_nil))) (pe_glob (v := .int 60) (by rfl) T.m_ROW_SIGNS ⟨_, rfl⟩) (nomark _)))))
          (pss_cons (ps_expr (pe_bm PySem.F.plainAttrs_list PySem.F.slot_list_append PySem.F.type_list_append mt_append (pv 1) (pa_cons (pe_op op_add_str (pv 2) pe_str) pa_nil)))
          (pss_cons (ps_aug (i := 3) nd rfl (.inl rfl) (pe_callB call_len_str (by rfl) T.n_len (by decide +kernel) (pa_cons (pv 2) pa_nil)) ip_sub)
          (pss_one (ps_set (i := 2) nd rfl (.inl rfl) pe_str))))
          pss_nil)
        (pss_one (ps_aug (i := 2) nd rfl (.inl rfl) (pv 4) iop_add_str))))
      (pss_cons (ps_expr (pe_bm PySem.F.plainAttrs_list PySem.F.slot_list_append PySem.F.type_list_append mt_append (pv 1) (pa_cons (pv 2) pa_nil)))
      (pss_one (ps_ret (pv 1)))))))), ?_⟩
    have htot := tot_le hU
    refine ⟨Nat.zero_le _, fun o no => ?_⟩
    have s1 := same_upd (o := .lst []) no
    have eo := upd_same (H := H) (a := o) (o := .lst [])
    generalize upd H o (.lst []) = H1 at *
    have hjl : (Txt.join (Str.ofString "") (strL us)).length = tot us := by rw [TL.len_tl, join_units, tot_flat]
    refine ⟨⟨_, rfl⟩, .ref a, rfl, Str.ofString "", a, strL us, rfl, rfl, .inl (.inl (.inl (s1 _ _ hS))), by rw [sum_units, show (Str.ofString "").length = 0 by decide +kernel]; omega, _, rfl, by rw [hjl, sizeLine_eq]; omega, ?_⟩
    dsimp only [gName]
    rw [hjl]
    have hsm : ((strL us).map V.str).length = us.length := by rw [List.length_map, strL_len]
    refine ⟨.ref a, rfl, a, rfl, ⟨_, .inl (.inl (s1 _ _ hS))⟩, for_it (walk_listF (xs := (strL us).map V.str)) (fun i σ H' => ∃ (y4 : Option V) (c : List Nat) (R : List (List Nat)), σ = [some (.ref a), some (.ref o), some (.str ⟨c.toArray⟩), some (.int ((c.length + tot (us.drop i) : Nat) : Int)), y4] ∧ Same H H' ∧ H' o = some (.lst ((strL R).map V.str)) ∧ R ++ cutR c (us.drop i) = cutR [] us ∧ c.length ≤ 3 * i ∧ R.length ≤ i)
      ⟨none, [], [], by rw [List.drop_zero, List.length_nil, Nat.zero_add, show (⟨([] : List Nat).toArray⟩ : Str) = Str.ofString "" from TL.ext_tl (by decide +kernel)]; rfl, s1, eo, rfl, Nat.zero_le _, Nat.le_refl _⟩ (fun i σ H' _ h => by obtain ⟨_, _, _, rfl, sm, _⟩ := h; exact .inl (.inl (sm _ _ hS))) (fun i x σ H' H'' hi hP hy => ?_) (fun σ H' hP => ?_)⟩
    · obtain ⟨y4, c, R, rfl, sm, eR, hcut, hcl, hRl⟩ := hP
      obtain ⟨rfl, rfl⟩ := hy
      rw [hsm] at hi
      have hui := hU us[i] (List.getElem_mem hi)
      have hx : ((strL us).map V.str).getD i .non = .str ⟨(us[i]).toArray⟩ := by
        unfold strL
        rw [List.getD_eq_getElem?_getD, List.getElem?_map, List.getElem?_map, List.getElem?_eq_getElem hi]
        rfl
      have hd : us.drop i = us[i] :: us.drop (i + 1) := List.drop_eq_getElem_cons hi
      have htd : tot (us.drop (i + 1)) ≤ 3 * us.length := by
        have := tot_le (us := us.drop (i + 1)) fun x hx => hU x (List.mem_of_mem_drop hx)
        rw [List.length_drop] at this
        omega
      dsimp only [gName]
      rw [hx]
      rw [hd] at hcut ⊢
      generalize us[i] = u at *
      generalize us.drop (i + 1) = r at *
      rw [cutR] at hcut
      rw [tot_cons] at hcut ⊢
      have hml : (⟨c.toArray⟩ : Str).length = c.length := mk_len c
      have hmu : (⟨u.toArray⟩ : Str).length = u.length := mk_len u
      refine ifT (decide (60 < c.length + (u.length + tot r)) && decide (60 ≤ c.length + u.length)) (fun k q1 => andT _ _ (fun k q2 => ⟨_, rfl, _, 60, rfl, rfl, _, rfl, TellB.eq (decide_eq_decide.mpr (by omega)) q2 _ (Same.refl _)⟩) (fun _ H3 k s3 q2 => ⟨.str ⟨c.toArray⟩, rfl, _, rfl, by rw [hml, sizeLine_eq]; omega, .str ⟨u.toArray⟩, rfl, _, rfl, by rw [hmu, sizeLine_eq]; omega, _, _, rfl, rfl, _, 60, rfl, rfl, _, rfl, TellB.eq (decide_eq_decide.mpr (by rw [hml, hmu]; omega)) q2 _ (Same.refl _)⟩) q1) (fun hc H3 s3 => ?_) (fun hc H3 s3 => ?_)
      · have hc := (Bool.and_eq_true _ _ ▸ hc : decide (60 < c.length + (u.length + tot r)) = true ∧ decide (60 ≤ c.length + u.length) = true)
        have hc1 := of_decide_eq_true hc.1
        have hc2 := of_decide_eq_true hc.2
        rw [if_pos ⟨hc1, hc2⟩] at hcut
        have heq : Str.ofString "=" = ⟨#[61]⟩ := TL.ext_tl (by decide +kernel)
        refine ⟨.ref o, rfl, .inl ⟨rfl, _, .inl (.inl (s3 _ _ eR))⟩, .str ⟨c.toArray⟩, rfl, _, Str.ofString "=", rfl, rfl, by rw [hml, show (Str.ofString "=").length = 1 by decide +kernel, sizeLine_eq]; omega, o, _, _, rfl, rfl, s3 _ _ eR, by rw [List.length_map, strL_len, sizeLine_eq]; omega, ?_⟩
        refine ⟨_, rfl, .str ⟨c.toArray⟩, rfl, _, rfl, by rw [hml, sizeLine_eq]; omega, _, _, rfl, rfl, ?_⟩
        refine ⟨_, rfl, .str ⟨u.toArray⟩, rfl, Str.ofString "", _, rfl, rfl, by rw [hmu, show (Str.ofString "").length = 0 by decide +kernel, sizeLine_eq]; omega, ?_⟩
        refine ⟨some (.str ⟨u.toArray⟩), u, R ++ [c ++ [61]], ?_, fun b x e => ?_, ?_, by rw [List.append_assoc]; exact hcut, by omega, by rw [List.length_append, List.length_singleton]; omega⟩
        · have e1 : Str.ofString "" ++ (⟨u.toArray⟩ : Str) = ⟨u.toArray⟩ := TL.ext_tl (by rw [TL.tl_append, show TL.tl (Str.ofString "") = [] by decide +kernel]; rfl)
          show [_, _, some (V.str (Str.ofString "" ++ (⟨u.toArray⟩ : Str))), some (V.int (((c.length + (u.length + tot r) : Nat) : Int) - ((⟨c.toArray⟩ : Str).length : Nat))), _] = _
          rw [e1, hml, show ((c.length + (u.length + tot r) : Nat) : Int) - (c.length : Nat) = ((u.length + tot r : Nat) : Int) by omega]
        · rw [upd_ne (ne_of_none e no)]
          exact s3 _ _ (sm _ _ e)
        · rw [upd_same, strL_app, List.map_append]
          have e2 : (⟨c.toArray⟩ : Str) ++ Str.ofString "=" = ⟨(c ++ [61]).toArray⟩ := TL.ext_tl (by rw [TL.tl_append, show TL.tl (Str.ofString "=") = [61] by decide +kernel])
          rw [e2]
          rfl
      · have hc3 : ¬ (60 < c.length + (u.length + tot r) ∧ 60 ≤ c.length + u.length) := fun h => by
          rw [decide_eq_true h.1, decide_eq_true h.2] at hc
          exact nomatch hc
        rw [if_neg hc3] at hcut
        dsimp only [tNext, tSeq]
        refine ⟨_, rfl, .str ⟨u.toArray⟩, rfl, ⟨c.toArray⟩, _, rfl, rfl, by rw [hmu, hml, sizeLine_eq]; omega, ?_⟩
        refine ⟨some (.str ⟨u.toArray⟩), c ++ u, R, ?_, sm.trans s3, s3 _ _ eR, hcut, by rw [List.length_append]; omega, by omega⟩
        have e1 : (⟨c.toArray⟩ : Str) ++ (⟨u.toArray⟩ : Str) = ⟨(c ++ u).toArray⟩ := TL.ext_tl (by rw [TL.tl_append])
        show [_, _, some (V.str ((⟨c.toArray⟩ : Str) ++ (⟨u.toArray⟩ : Str))), _, _] = _
        rw [e1, List.length_append, Nat.add_assoc]
    · obtain ⟨y4, c, R, rfl, sm, eR, hcut, hcl, hRl⟩ := hP
      rw [hsm] at hcut hcl hRl
      rw [List.drop_of_length_le (Nat.le_refl _)] at hcut
      refine ⟨.ref o, rfl, .inl ⟨rfl, _, .inl (.inl eR)⟩, .str ⟨c.toArray⟩, rfl, o, _, _, rfl, rfl, eR, by rw [List.length_map, strL_len, sizeLine_eq]; omega, ?_⟩
      refine ⟨.ref o, rfl, q _ o (fun b x e => ?_) no ?_⟩
      · rw [upd_ne (ne_of_none e no)]
        exact sm _ _ e
      · rw [upd_same, ← hcut, strL_app, List.map_append]
        rfl
end
end K20

namespace K20
open PySem PySem.Spec PyProof.Rows L2 LH
section
variable {P : Program} {w : World} {K : PySem.W.Frag} {mg : Str → Option Value} {base : Heap} {tk : Nat → Tok} {ca : Nat → Addr}
def lineR (p : List Nat) : List (List Nat) := cutR [] (fixL (p.map uL))
def rows16 (l : List Nat) : List (List Nat) := ((splitL 10 l).map lineR).flatten
theorem lineR_many (p : List Nat) : (lineR p).length ≤ p.length + 1 := by
  have := cutR_many (fixL (p.map uL)) []
  rw [fix_len, List.length_map] at this
  exact this
theorem flat_le {α : Type} (ls : List (List α)) (k : Nat) (h : ∀ x ∈ ls, x.length ≤ k) : ls.flatten.length ≤ ls.length * k := by
  induction ls with
  | nil => exact Nat.zero_le _
  | cons x r ih =>
    have h1 := h x (by simp)
    have h2 := ih fun y hy => h y (by simp [hy])
    rw [List.flatten_cons, List.length_append, List.length_cons, Nat.succ_mul]
    omega
theorem parts_ok {l : List Nat} (h : BytesN l) : ∀ p ∈ splitL 10 l, BytesN p ∧ p.length ≤ l.length := fun p hp => ⟨fun b hb => h b (splitL_mem 10 l p hp b hb), splitL_le 10 l p hp⟩
theorem rows16_many (l : List Nat) : (rows16 l).length ≤ (l.length + 1) * (l.length + 1) := by
  have h1 := flat_le ((splitL 10 l).map lineR) (l.length + 1) fun x hx => by
    obtain ⟨p, hp, rfl⟩ := List.mem_map.mp hx
    have := lineR_many p
    have := splitL_le 10 l p hp
    omega
  rw [List.length_map] at h1
  exact Nat.le_trans h1 (Nat.mul_le_mul_right _ (splitL_len 10 l))
/-! ### sixteens_of -/
abbrev s_sixteens_of : Stmt := topS 36
abbrev N_sixteens_of : List Str := ["row", "line", "told"]
abbrev P_sixteens_of : List Str := ["row"]
theorem sc_sixteens_of : FnScope N_sixteens_of ["row"] (defScope s_sixteens_of) := ⟨rfl, rfl, rfl, by decide +kernel, rfl, by decide +kernel, by decide +kernel⟩
def sp_sixteens : Sp := fun vs H Q _ => ∃ (a : Addr) (l : List Nat), vs = [.ref a] ∧ H a = some (.lst (nb l)) ∧ BytesN l ∧ l.length ≤ 4040 ∧ New H ((strL (rows16 l)).map V.str) Q
theorem ok_sixteens {f fB fL fP fC : Addr} {fd fdB fdL fdP fdC : FuncData} (F : Fun K "sixteens_of" "sixteens_of" s_sixteens_of f fd) (T : Tx mg tk) (D_is_bytes : Def P w K mg base "is_bytes" 2 fB fdB P_is_bytes sp_is_bytes) (D_lines_of : Def P w K mg base "lines_of" 1 fL fdL P_lines_of sp_lines) (D_parts_of : Def P w K mg base "parts_of" 3 fP fdP P_parts_of sp_parts_of) (D_cut : Def P w K mg base "cut" 1 fC fdC P_cut sp_cut) : FnOk P w K mg base CX0 4 f fd P_sixteens_of sp_sixteens := by
  refine F.ok sc_sixteens_of (fun vs H Q E h => ?_) (fun cdv A outer s H vs Q E hr h => ?_)
  · obtain ⟨a, l, rfl, _⟩ := h
    rfl
  · have nd := sc_sixteens_of.nd
    obtain ⟨a, l, rfl, hS, hb, hl, q⟩ := h
    refine ⟨_, (pss_cons (ps_if (pt_not (pt_val (pe_def D_is_bytes (hr.mono (by decide)) (pa_cons (pv 0) pa_nil))))
        (pss_one ps_never)
        pss_nil)
      (pss_one (ps_ret (pe_lc2 (own := [("line", 1), ("told", 2)]) (vs1 := [2]) (g := gName 1) (g1 := gName 2) (by rfl) nd (pi_list (pe_def D_lines_of (hr.mono (by decide)) (pa_cons (pv 0) pa_nil))) (blkOk_by (N := N_sixteens_of) (sc := defScope s_sixteens_of) (by decide +kernel)) (by decide) (fun _ _ _ _ _ => (pg_name (i := 1) nd rfl (Or.inl rfl))) (fun _ _ _ _ _ => pts_nil) (fun _ _ _ _ _ => by exact (pi_listK K (pe_def D_cut (hr.mono (by decide)) (pa_cons (pe_def D_parts_of (hr.mono (by decide)) (pa_cons (pv 1) pa_nil)) pa_nil)))) (fun _ _ _ _ _ => (pg_name (i := 2) nd rfl (Or.inl rfl))) (fun _ _ _ _ _ => pts_nil) (fun _ _ _ _ _ => (pv 2)))))), ?_⟩
    refine ifT false (fun k q1 => notT true (fun k q2 => ⟨.ref a, rfl, a, l, rfl, hS, hb, by omega, fun H1 s1 => ⟨true, rfl, q2 _ s1⟩⟩) q1) (fun h => nomatch h) (fun _ H1 s1 => ?_)
    dsimp only [tNext, tSeq]
    refine ⟨.ref a, rfl, a, l, rfl, s1 _ _ hS, by omega, fun H2 p ts s2 np ep htl hts => ?_⟩
    have hpo := parts_ok hb
    have hpl := splitL_len 10 l
    generalize hps : splitL 10 l = ps at *
    have hm : (ts.map V.ref).length = ps.length := by rw [List.length_map, htl]
    have hrow : ∀ i, (((List.range i).map fun i => (List.range ((strL (lineR (ps.getD i []))).map V.str).length).map fun j => ((strL (lineR (ps.getD i []))).map V.str).getD j .non).flatten) = (((List.range i).map fun i => (strL (lineR (ps.getD i []))).map V.str)).flatten := fun i => by
      congr 1
      exact List.map_congr_left fun x _ => LH.range_getD _ _
    refine ⟨p, rfl, ⟨_, .inl (.inl ep)⟩, fun D hD => lc_two (K := K) (fun i => (ts.map V.ref).getD i .non) (fun i => (strL (lineR (ps.getD i []))).map V.str) (fun i j => ((strL (lineR (ps.getD i []))).map V.str).getD j .non) (by decide) walk_listF (fun H3 s3 => s3.seq (.inl (.inl ep))) hD (fun i hi => ?_) (fun i H3 R hi s3 hR => ?_) (fun i j H3 Q3 hi hj s3 q3 => ?_) (fun H3 s3 e => ?_)⟩
    · rw [hm] at hi
      rw [hrow]
      have h1 := flat_le ((List.range i).map fun i => (strL (lineR (ps.getD i []))).map V.str) (l.length + 1) fun x hx => by
        obtain ⟨j, hj, rfl⟩ := List.mem_map.mp hx
        have hj := List.mem_range.mp hj
        rw [List.length_map, strL_len]
        have h2 := lineR_many (ps.getD j [])
        have h3 := (hpo _ (getD_mem ps [] (show j < ps.length by omega))).2
        omega
      rw [List.length_map, List.length_range] at h1
      refine Nat.le_trans h1 (Nat.le_trans (Nat.mul_le_mul (show i ≤ 4041 by omega) (show l.length + 1 ≤ 4041 by omega)) ?_)
      rw [sizeLine_eq]
      decide
    · rw [hm] at hi
      have hx : (ts.map V.ref).getD i .non = .ref (ts.getD i 0) := by
        rw [List.getD_eq_getElem?_getD, List.getElem?_map, List.getElem?_eq_getElem (by omega), List.getD_eq_getElem?_getD, List.getElem?_eq_getElem (by omega)]
        rfl
      rw [hx]
      have hpi := hpo _ (getD_mem ps [] hi)
      have hti := s3 _ _ (hts i hi).1
      have hU := units_fix (units_map hpi.1)
      have hul : (fixL ((ps.getD i []).map uL)).length ≤ 100000 := by rw [fix_len, List.length_map]; omega
      refine ⟨.ref (ts.getD i 0), rfl, ts.getD i 0, ps.getD i [], rfl, hti, hpi.1, by omega, fun H4 p2 s4 n4 e4 => ⟨p2, _, rfl, e4, hU, hul, fun H5 p3 s5 n5 e5 => ⟨p3, rfl, ⟨_, .inl (.inl e5)⟩, hR H5 p3 (s4.trans s5) (s4.free n5) e5⟩⟩⟩
    · exact ⟨_, rfl, q3 _ (Same.refl _)⟩
    · refine q H3 D (s1.trans (s2.trans s3)) ((s1.trans s2).free hD) ?_
      rw [e, hrow, hm]
      unfold rows16
      rw [hps]
      have e1 : ((List.range ps.length).map fun i => (strL (lineR (ps.getD i []))).map V.str) = ps.map fun p => (strL (lineR p)).map V.str := by
        have := congrArg (List.map fun p => (strL (lineR p)).map V.str) (LH.range_getD ps [])
        rw [List.map_map] at this
        exact this
      rw [e1]
      unfold strL
      rw [List.map_flatten, List.map_flatten, List.map_map, List.map_map]
      rfl
end
end K20

namespace K20
open PySem PySem.Spec PyProof.Rows L2 LH
section
variable {P : Program} {w : World} {K : PySem.W.Frag} {mg : Str → Option Value} {base : Heap} {tk : Nat → Tok}
def isSign (c : Nat) : Bool := decide (32 ≤ c) && decide (c ≤ 126) && !decide (c = 37)
def isSmall (c : Nat) : Bool := decide (c ∈ TL.tl SMALL)
def smallW (l : List Nat) (m : Nat) : Bool := decide (1 ≤ l.length) && decide (l.length ≤ m) && l.all isSmall
def isHN (l : List Nat) : Bool := decide ((splitL 45 l).length ≤ 3) && (splitL 45 l).all fun x => smallW x 8
def isVal (l : List Nat) : Bool := l.all isSign && (decide (l = []) || !decide ([] ∈ splitL 32 l))
/-- a thing that is no text -/
def NoStr (K : PySem.W.Frag) (H : Hp) (x : V) : Prop := ∃ t, TyX K H x t ∧ PySem.W.kitOne K t (.type "str") = some false
/-! ### is_sign -/
abbrev s_is_sign : Stmt := topS 13
abbrev N_is_sign : List Str := ["sign"]
abbrev P_is_sign : List Str := ["sign"]
theorem sc_is_sign : FnScope N_is_sign ["sign"] (defScope s_is_sign) := ⟨rfl, rfl, rfl, by decide +kernel, rfl, by decide +kernel, by decide +kernel⟩
def sp_is_sign : Sp := fun vs H Q _ => ∃ c : Nat, vs = [.str ⟨#[c]⟩] ∧ Tell H (.bl (isSign c)) Q
theorem ok_is_sign {f : Addr} {fd : FuncData} {k : Nat} (F : Fun K "is_sign" "is_sign" s_is_sign f fd) (T : Tx mg tk) : FnOk P w K mg base CX0 (k + 1) f fd ["sign"] sp_is_sign := by
  refine F.ok sc_is_sign (fun vs H Q E h => ?_) (fun cdv A outer s H vs Q E hr h => ?_)
  · obtain ⟨i, rfl, _⟩ := h
    rfl
  · have nd := sc_is_sign.nd
    obtain ⟨c, rfl, q⟩ := h
    refine ⟨_, (pss_one (ps_ret (pe_and (pe_chain op_le_str op_le_str pe_str (pv 0) pe_str) (pe_one (pe_cmpR op_ne (pe_callB call_ord (by rfl) T.n_ord (by decide +kernel) (pa_cons (pv 0) pa_nil)) (pe_glob (v := .int 37) (by rfl) T.m_PERCENT ⟨_, rfl⟩) (nomark _)))))), ?_⟩
    refine ⟨.str ⟨#[c]⟩, rfl, Str.ofString " ", ⟨#[c]⟩, rfl, rfl, _, rfl, ?_⟩
    have e1 : (!decide ((⟨#[c]⟩ : Str).cps.toList < (Str.ofString " ").cps.toList)) = decide (32 ≤ c) := by
      rw [show (Str.ofString " ").cps.toList = [32] by decide +kernel]
      show (!decide ([c] < [32])) = _
      by_cases h : 32 ≤ c
      · rw [decide_eq_true h, decide_eq_false (by simp [List.cons_lt_cons_iff]; omega)]; rfl
      · rw [decide_eq_false h, decide_eq_true (by simp [List.cons_lt_cons_iff]; omega)]; rfl
    have e2 : (!decide ((Str.ofString "~").cps.toList < (⟨#[c]⟩ : Str).cps.toList)) = decide (c ≤ 126) := by
      rw [show (Str.ofString "~").cps.toList = [126] by decide +kernel]
      show (!decide ([126] < [c])) = _
      by_cases h : c ≤ 126
      · rw [decide_eq_true h, decide_eq_false (by simp [List.cons_lt_cons_iff]; omega)]; rfl
      · rw [decide_eq_false h, decide_eq_true (by simp [List.cons_lt_cons_iff]; omega)]; rfl
    have q0 := q H (Same.refl _)
    unfold isSign at q0
    rw [e1]
    by_cases h1 : 32 ≤ c
    · rw [decide_eq_true h1] at q0 ⊢
      refine iteT ⟨_, _, rfl, rfl, _, rfl, ?_⟩
      rw [e2]
      by_cases h2 : c ≤ 126
      · rw [decide_eq_true h2] at q0 ⊢
        refine iteT ⟨.str ⟨#[c]⟩, rfl, ⟨#[c]⟩, rfl, rfl, ?_⟩
        refine ⟨rfl, ?_⟩
        have e3 : (!decide (V.int (((⟨#[c]⟩ : Str).cps.getD 0 0 : Nat) : Int) = V.int 37)) = !decide (c = 37) := by
          show (!decide (V.int (c : Int) = V.int 37)) = _
          congr 1
          by_cases h : c = 37
          · subst h; rfl
          · rw [decide_eq_false h, decide_eq_false (fun z => h (by have := V.int.inj z; omega))]
        rw [e3]
        exact q0
      · rw [decide_eq_false h2] at q0 ⊢
        refine iteF q0
    · rw [decide_eq_false h1] at q0 ⊢
      refine iteF ⟨false, rfl, iteF q0⟩
/-! ### is_small_word -/
abbrev s_is_small_word : Stmt := topS 22
abbrev N_is_small_word : List Str := ["text", "most"]
abbrev P_is_small_word : List Str := ["text", "most"]
theorem sc_is_small_word : FnScope N_is_small_word ["text", "most"] (defScope s_is_small_word) := ⟨rfl, rfl, rfl, by decide +kernel, rfl, by decide +kernel, by decide +kernel⟩
def sp_small_word : Sp := fun vs H Q _ => ∃ (z : Str) (m : Nat), vs = [.str z, .int (m : Int)] ∧ z.length ≤ 100000 ∧ Tell H (.bl (smallW (TL.tl z) m)) Q
theorem ok_small_word {f : Addr} {fd : FuncData} {k : Nat} (F : Fun K "is_small_word" "is_small_word" s_is_small_word f fd) (T : Tx mg tk) : FnOk P w K mg base CX0 (k + 1) f fd ["text", "most"] sp_small_word := by
  refine F.ok sc_is_small_word (fun vs H Q E h => ?_) (fun cdv A outer s H vs Q E hr h => ?_)
  · obtain ⟨i, m, rfl, _⟩ := h
    rfl
  · have nd := sc_is_small_word.nd
    obtain ⟨z, m, rfl, hz, q⟩ := h
    refine ⟨_, (pss_one (ps_ret (pe_and (pe_chain op_le op_le pe_int (pe_callB call_len_str (by rfl) T.n_len (by decide +kernel) (pa_cons (pv 0) pa_nil)) (pv 1)) (pe_one (pe_cmpR op_eq (pe_m1 PySem.F.slot_str_strip PySem.F.type_str_strip mt_stripChars (pv 0) (pe_glob (v := .str SMALL) (by rfl) T.m_SMALL ⟨_, rfl⟩)) pe_str (nomark _)))))), ?_⟩
    have hzl : z.length = (TL.tl z).length := TL.len_tl z
    have hsl : z.length ≤ sizeLine := by rw [sizeLine_eq]; omega
    refine ⟨.str z, rfl, z, rfl, hsl, 1, _, rfl, rfl, _, rfl, ?_⟩
    have q0 := q H (Same.refl _)
    unfold smallW at q0 q
    by_cases h1 : 1 ≤ (TL.tl z).length
    · rw [decide_eq_true (show (1 : Int) ≤ ((z.length : Nat) : Int) by omega)]
      rw [decide_eq_true h1] at q0 q
      refine iteT ⟨.int m, rfl, _, _, rfl, rfl, _, rfl, ?_⟩
      by_cases h2 : (TL.tl z).length ≤ m
      · rw [decide_eq_true (show ((z.length : Nat) : Int) ≤ (m : Int) by omega)]
        rw [decide_eq_true h2] at q0 q
        refine iteT ⟨.str z, rfl, ⟨_, rfl⟩, z, SMALL, rfl, rfl, hsl, ?_⟩
        refine ⟨rfl, ?_⟩
        rw [strip_eq]
        exact q0
      · rw [decide_eq_false (show ¬ ((z.length : Nat) : Int) ≤ (m : Int) by omega)]
        rw [decide_eq_false h2] at q0
        exact iteF q0
    · rw [decide_eq_false (show ¬ (1 : Int) ≤ ((z.length : Nat) : Int) by omega)]
      rw [decide_eq_false h1] at q0
      exact iteF ⟨false, rfl, iteF q0⟩
/-! ### is_header_name -/
abbrev s_is_header_name : Stmt := topS 23
abbrev N_is_header_name : List Str := ["thing", "words", "word"]
abbrev P_is_header_name : List Str := ["thing"]
theorem sc_is_header_name : FnScope N_is_header_name ["thing"] (defScope s_is_header_name) := ⟨rfl, rfl, rfl, by decide +kernel, rfl, by decide +kernel, by decide +kernel⟩
def sp_header_name (K : PySem.W.Frag) : Sp := fun vs H Q _ => ∃ x : V, vs = [x] ∧ ((∃ z : Str, x = .str z ∧ z.length ≤ 100000 ∧ Tell H (.bl (isHN (TL.tl z))) Q) ∨ (NoStr K H x ∧ Tell H (.bl false) Q))
theorem ok_header_name {f fS : Addr} {fd fdS : FuncData} (F : Fun K "is_header_name" "is_header_name" s_is_header_name f fd) (T : Tx mg tk) (D_is_small_word : Def P w K mg base "is_small_word" 1 fS fdS ["text", "most"] sp_small_word) : FnOk P w K mg base CX0 2 f fd ["thing"] (sp_header_name K) := by
  refine F.ok sc_is_header_name (fun vs H Q E h => ?_) (fun cdv A outer s H vs Q E hr h => ?_)
  · obtain ⟨x, rfl, _⟩ := h
    rfl
  · have nd := sc_is_header_name.nd
    obtain ⟨x, rfl, h⟩ := h
    refine ⟨_, (pss_cons (ps_if (pt_not (pt_val (pe_callB (cIsi K) (by rfl) T.n_isinstance (by decide +kernel) (pa_cons (pv 0) (pa_cons (pe_bltn (v := .ty "str") (by rfl) T.n_str (by decide +kernel) rfl) pa_nil)))))
        (pss_one (ps_ret pe_bl))
        pss_nil)
      (pss_cons (ps_set (i := 1) nd rfl (.inl rfl) (pe_split (pv 0) pe_str))
      (pss_one (ps_ret (pe_and (pe_cmpR op_le (pe_callB (cLen K) (by rfl) T.n_len (by decide +kernel) (pa_cons (pv 1) pa_nil)) (pe_glob (v := .int 3) (by rfl) T.m_HEADER_WORDS ⟨_, rfl⟩) (nomark _)) (pe_one (pe_callB (cAll K) (by rfl) T.n_all (by decide +kernel) (pa_cons (pe_lc (own := [("word", 2)]) (g := gName 2) (by rfl) nd (pi_list (pv 1)) (blkOk_by (N := N_is_header_name) (sc := defScope s_is_header_name) (by decide +kernel)) (fun _ _ _ _ _ => (pg_name (i := 2) nd rfl (Or.inl rfl))) (fun _ _ _ _ _ => pts_nil) (fun _ _ _ _ _ => (pe_def D_is_small_word (hr.mono (by decide)) (pa_cons (pv 2) (pa_cons (pe_glob (v := .int 8) (by rfl) T.m_HEADER_LETTERS ⟨_, rfl⟩) pa_nil))))) pa_nil)))))))), ?_⟩
    rcases h with ⟨z, rfl, hz, q⟩ | ⟨⟨t, ty, hk⟩, q⟩
    · refine ⟨.str z, rfl, .str z, .ty "str", _, _, true, rfl, .ty _, .base (.str z), kit_ty (by decide +kernel), true, rfl, iteF ?_⟩
      have hzl : z.length = (TL.tl z).length := TL.len_tl z
      have hsp := split_tl (x := z) (y := Str.ofString "-") (s := 45) (by decide +kernel) (by decide)
      refine ⟨.str z, rfl, ⟨_, rfl⟩, z, Str.ofString "-", rfl, rfl, by decide +kernel, by rw [sizeLine_eq]; omega, fun p np => ?_⟩
      have s1 := same_upd (o := .lst ((Txt.split z (Str.ofString "-")).map V.str)) np
      generalize Txt.split z (Str.ofString "-") = ws at *
      have hwl : ws.length = (splitL 45 (TL.tl z)).length := by rw [← hsp, List.length_map]
      have hlw := splitL_len 45 (TL.tl z)
      refine ⟨.ref p, rfl, p, _, rfl, .inl (.inl (.inl upd_same)), _, _, rfl, rfl, _, rfl, ?_⟩
      have hm : (ws.map V.str).length = ws.length := List.length_map ..
      rw [hm]
      have q0 := q _ s1
      unfold isHN at q0 q
      by_cases h1 : (splitL 45 (TL.tl z)).length ≤ 3
      · rw [decide_eq_true (show ((ws.length : Nat) : Int) ≤ 3 by omega)]
        rw [decide_eq_true h1] at q
        refine iteT ⟨.ref p, rfl, p, rfl, ⟨_, .inl (.inl upd_same)⟩, fun D hD => lc_pure (fun i => (ws.map V.str).getD i .non) (fun i => .bl (smallW (TL.tl (ws.getD i Str.empty)) 8)) walk_listF (fun H1 sm => sm.seq (.inl (.inl upd_same))) hD (by rw [hm, sizeLine_eq]; omega) (fun i H1 Q1 hi sm q1 => ?_) (fun H1 sm e => ?_)⟩
        · rw [hm] at hi
          have ei : (ws.map V.str).getD i .non = .str (ws.getD i Str.empty) := by
            rw [List.getD_eq_getElem?_getD, List.getElem?_map, List.getElem?_eq_getElem hi, List.getD_eq_getElem?_getD, List.getElem?_eq_getElem hi]
            rfl
          rw [ei]
          refine ⟨.str (ws.getD i Str.empty), rfl, ws.getD i Str.empty, 8, rfl, ?_, q1⟩
          have hmem : TL.tl (ws.getD i Str.empty) ∈ splitL 45 (TL.tl z) := by
            rw [← hsp, List.getD_eq_getElem?_getD, List.getElem?_eq_getElem hi]
            exact List.mem_map.mpr ⟨ws[i], List.getElem_mem hi, rfl⟩
          have := splitL_le 45 (TL.tl z) _ hmem
          rw [TL.len_tl]
          omega
        · refine ⟨D, (List.range ws.length).map fun i => smallW (TL.tl (ws.getD i Str.empty)) 8, rfl, .inl (.inl (by rw [e, hm, List.map_map]; rfl)), ?_⟩
          rw [lall_range ws Str.empty fun x => smallW (TL.tl x) 8]
          have ea : (ws.all fun x => smallW (TL.tl x) 8) = (splitL 45 (TL.tl z)).all fun x => smallW x 8 := by
            rw [← hsp, List.all_map]
            rfl
          rw [ea]
          exact q _ (s1.trans sm)
      · rw [decide_eq_false (show ¬ ((ws.length : Nat) : Int) ≤ 3 by omega)]
        rw [decide_eq_false h1] at q0
        exact iteF q0
    · exact ⟨x, rfl, x, .ty "str", t, _, false, rfl, .ty _, ty, hk, false, rfl, iteT (q _ (Same.refl _))⟩
/-! ### is_value -/
abbrev s_is_value : Stmt := topS 24
abbrev N_is_value : List Str := ["thing", "sign"]
abbrev P_is_value : List Str := ["thing"]
theorem sc_is_value : FnScope N_is_value ["thing"] (defScope s_is_value) := ⟨rfl, rfl, rfl, by decide +kernel, rfl, by decide +kernel, by decide +kernel⟩
def sp_value (K : PySem.W.Frag) : Sp := fun vs H Q _ => ∃ x : V, vs = [x] ∧ ((∃ z : Str, x = .str z ∧ z.length ≤ 100000 ∧ Tell H (.bl (isVal (TL.tl z))) Q) ∨ (NoStr K H x ∧ Tell H (.bl false) Q))
theorem ok_value {f fS : Addr} {fd fdS : FuncData} (F : Fun K "is_value" "is_value" s_is_value f fd) (T : Tx mg tk) (D_is_sign : Def P w K mg base "is_sign" 1 fS fdS ["sign"] sp_is_sign) : FnOk P w K mg base CX0 2 f fd ["thing"] (sp_value K) := by
  refine F.ok sc_is_value (fun vs H Q E h => ?_) (fun cdv A outer s H vs Q E hr h => ?_)
  · obtain ⟨x, rfl, _⟩ := h
    rfl
  · have nd := sc_is_value.nd
    obtain ⟨x, rfl, h⟩ := h
    refine ⟨_, (pss_cons (ps_if (PW.pt (pw_or (pt_not (pt_val (pe_callB (cIsi K) (by rfl) T.n_isinstance (by decide +kernel) (pa_cons (pv 0) (pa_cons (pe_bltn (v := .ty "str") (by rfl) T.n_str (by decide +kernel) rfl) pa_nil))))) (pw_or1 (pt_not (pt_val (pe_callB (cAll K) (by rfl) T.n_all (by decide +kernel) (pa_cons (pe_lc (own := [("sign", 1)]) (g := gName 1) (by rfl) nd (pi_str (pv 0)) (blkOk_by (N := N_is_value) (sc := defScope s_is_value) (by decide +kernel)) (fun _ _ _ _ _ => (pg_name (i := 1) nd rfl (Or.inl rfl))) (fun _ _ _ _ _ => pts_nil) (fun _ _ _ _ _ => (pe_def D_is_sign (hr.mono (by decide)) (pa_cons (pv 1) pa_nil)))) pa_nil)))))))
        (pss_one (ps_ret pe_bl))
        pss_nil)
      (pss_one (ps_ret (pe_or (pe_cmpR op_eq (pv 0) pe_str (nomark _)) (pe_one (pe_cmpR (oNotIn K) pe_str (pe_split (pv 0) pe_str) (by rfl))))))), ?_⟩
    rcases h with ⟨z, rfl, hz, q⟩ | ⟨⟨t, ty, hk⟩, q⟩
    · refine ⟨.str z, rfl, .str z, .ty "str", _, _, true, rfl, .ty _, .base (.str z), kit_ty (by decide +kernel), true, rfl, iteF ?_⟩
      have hzl : z.length = (TL.tl z).length := TL.len_tl z
      have hsl : z.length ≤ sizeLine := by rw [sizeLine_eq]; omega
      unfold isVal at q
      refine ⟨.str z, rfl, z, rfl, fun D hD => lc_pure (fun i => .str ⟨#[(TL.tl z).getD i 0]⟩) (fun i => .bl (isSign ((TL.tl z).getD i 0))) walk_strF (fun _ _ => trivial) hD (by rw [← hzl]; exact hsl) (fun i H1 Q1 hi sm q1 => ?_) (fun H1 sm e => ?_)⟩
      · exact ⟨.str ⟨#[(TL.tl z).getD i 0]⟩, rfl, (TL.tl z).getD i 0, rfl, q1⟩
      · refine ⟨D, (List.range (TL.tl z).length).map fun i => isSign ((TL.tl z).getD i 0), rfl, .inl (.inl (by rw [e, List.map_map]; rfl)), _, rfl, ?_⟩
        rw [lall_range]
        cases hs : (TL.tl z).all isSign with
        | false =>
          rw [hs] at q
          exact iteT (q _ sm)
        | true =>
          rw [hs] at q
          refine iteF ⟨.str z, rfl, rfl, _, rfl, ?_⟩
          have hsp := split_tl (x := z) (y := Str.ofString " ") (s := 32) (by decide +kernel) (by decide)
          by_cases h0 : TL.tl z = []
          · have ez : z = Str.ofString "" := TL.ext_tl (by rw [h0]; decide +kernel)
            rw [decide_eq_true h0] at q
            rw [ez, decide_eq_true rfl]
            exact iteT (q _ sm)
          · have ez : ¬ z = Str.ofString "" := fun h => h0 (by rw [h]; decide +kernel)
            rw [decide_eq_false h0] at q
            rw [decide_eq_false (show ¬ V.str z = V.str (Str.ofString "") from fun h => ez (V.str.inj h))]
            refine iteF ⟨.str z, rfl, ⟨_, rfl⟩, z, Str.ofString " ", rfl, rfl, by decide +kernel, by rw [sizeLine_eq]; omega, fun p np => ?_⟩
            have s1 := same_upd (o := .lst ((Txt.split z (Str.ofString " ")).map V.str)) np
            generalize Txt.split z (Str.ofString " ") = ws at *
            refine ⟨p, _, rfl, .inl (.inl (.inl upd_same)), rfl, by simp [flatV], ?_⟩
            have ei : inV (.str (Str.ofString "")) (ws.map V.str) = decide ([] ∈ splitL 32 (TL.tl z)) := by
              rw [← hsp]
              unfold inV
              rw [List.any_map]
              have : ∀ ws : List Str, (ws.any ((fun y => eqV y (.str (Str.ofString ""))) ∘ V.str)) = decide ([] ∈ ws.map TL.tl) := by
                intro ws
                induction ws with
                | nil => rfl
                | cons x r ih =>
                  rw [List.any_cons, ih, List.map_cons]
                  show ((x == Str.ofString "") || _) = _
                  by_cases hx : x = Str.ofString ""
                  · have : TL.tl x = [] := by rw [hx]; decide +kernel
                    simp [hx, this]
                    left; decide +kernel
                  · have h2 : ¬ TL.tl x = [] := fun h => hx (TL.ext_tl (by rw [h]; decide +kernel))
                    have h3 : ¬ [] = TL.tl x := fun h => h2 h.symm
                    simp [hx, h3]
              exact this ws
            show Q (.bl (!inV (.str (Str.ofString "")) (ws.map V.str))) _
            rw [ei]
            exact q _ (sm.trans s1)
    · exact ⟨x, rfl, x, .ty "str", t, _, false, rfl, .ty _, ty, hk, false, rfl, iteT (q _ (Same.refl _))⟩
end
end K20

namespace K20
open PySem PySem.Spec PyProof.Rows L2 LH
section
variable {P : Program} {w : World} {K : PySem.W.Frag} {mg : Str → Option Value} {base : Heap} {tk : Nat → Tok}
/-! ### the signs -/
def SG1 : Str := Str.ofString " !\"#$&'()*+,-./0123456789:;<=>?@ABCDEFGHIJKLMNOPQRSTUVWXYZ[\\]^_`"
def SG2 : Str := Str.ofString "abcdefghijklmnopqrstuvwxyz{|}~"
def SIGNS : Str := SG1 ++ SG2
theorem tl_SIGNS : TL.tl SIGNS = ((List.range 95).map fun x => x + 32).filter fun x => decide (x ≠ 37) := by
  unfold SIGNS
  rw [TL.tl_append]
  decide +kernel
theorem SIGNS_len : SIGNS.length = 94 := by rw [TL.len_tl, tl_SIGNS]; decide +kernel
theorem in_SIGNS (c : Nat) : decide (c ∈ TL.tl SIGNS) = isSign c := by
  rw [tl_SIGNS]
  unfold isSign
  rw [Bool.eq_iff_iff]
  simp only [List.mem_filter, List.mem_map, List.mem_range, decide_eq_true_eq, Bool.and_eq_true, Bool.not_eq_true', decide_eq_false_iff_not]
  constructor
  · rintro ⟨⟨a, ha, rfl⟩, h2⟩
    exact ⟨⟨by omega, by omega⟩, h2⟩
  · rintro ⟨⟨h1, h2⟩, h3⟩
    exact ⟨⟨c - 32, by omega, by omega⟩, h3⟩
theorem sign_ok {c : Nat} (h : isSign c = true) : c < 1114112 := by
  unfold isSign at h
  simp only [Bool.and_eq_true, decide_eq_true_eq] at h
  omega
theorem tl_SMALL : TL.tl SMALL = (List.range 26).map (· + 97) := by decide +kernel
theorem isSmall_iff (c : Nat) : isSmall c = true ↔ 97 ≤ c ∧ c ≤ 122 := by
  unfold isSmall
  rw [decide_eq_true_eq, tl_SMALL]
  simp only [List.mem_map, List.mem_range]
  constructor
  · rintro ⟨a, ha, rfl⟩; omega
  · rintro ⟨h1, h2⟩; exact ⟨c - 97, by omega, by omega⟩
theorem small_ok {c : Nat} (h : isSmall c = true) : c < 1114112 := by
  have := (isSmall_iff c).mp h
  omega
def smallAt (n : Int) : Nat := (TL.tl SMALL).getD n.toNat 0
theorem smallAt_at {n : Int} (h0 : 0 ≤ n) (h1 : n < 26) : atI (TL.tl SMALL) n = some (smallAt n) ∧ isSmall (smallAt n) = true := by
  have hl : n.toNat < (TL.tl SMALL).length := by rw [tl_SMALL]; simp; omega
  obtain ⟨m, rfl⟩ : ∃ m : Nat, n = (m : Int) := ⟨n.toNat, by omega⟩
  unfold smallAt
  rw [Int.toNat_natCast] at hl ⊢
  rw [List.getD_eq_getElem?_getD, List.getElem?_eq_getElem hl]
  refine ⟨atI_nat (List.getElem?_eq_getElem hl), ?_⟩
  unfold isSmall
  exact decide_eq_true (List.getElem_mem hl)
/-! ### _law_signs -/
abbrev s__law_signs : Stmt := topS 67
abbrev N__law_signs : List Str := ["_law_some"]
abbrev P__law_signs : List Str := []
theorem sc__law_signs : FnScope N__law_signs [] (defScope s__law_signs) := ⟨rfl, rfl, rfl, by decide +kernel, rfl, by decide +kernel, by decide +kernel⟩
def sp_signs : Sp := fun vs H Q _ => vs = [] ∧ Q (.str SIGNS) H
theorem ok_signs {f : Addr} {fd : FuncData} {k : Nat} (F : Fun K "_law_signs" "_law_signs" s__law_signs f fd) : FnOk P w K mg base CX0 (k + 1) f fd P__law_signs sp_signs := by
  refine F.ok sc__law_signs (fun vs H Q E h => ?_) (fun cdv A outer s H vs Q E hr h => ?_)
  · obtain ⟨rfl, _⟩ := h
    rfl
  · have nd := sc__law_signs.nd
    obtain ⟨rfl, q⟩ := h
    refine ⟨_, (pss_cons (ps_set (i := 0) nd rfl (.inl rfl) pe_str)
      (pss_one (ps_ret (pe_op op_add_str (pv 0) pe_str)))), ?_⟩
    exact ⟨.str SG1, rfl, SG1, SG2, rfl, rfl, Nat.le_of_lt (small1000 (by decide +kernel)), q⟩
end
end K20

namespace K20
open PySem PySem.Spec PyProof.Rows L2 LH
section
variable {P : Program} {w : World} {K : PySem.W.Frag} {mg : Str → Option Value} {base : Heap} {tk : Nat → Tok}
theorem tl_dash : TL.tl (Str.ofString "-") = [45] := by decide +kernel
theorem tl_blank : TL.tl (Str.ofString " ") = [32] := by decide +kernel
theorem hn_small {l : List Nat} (h : isHN l = true) : ∀ x ∈ splitL 45 l, Sm x ∧ 1 ≤ x.length ∧ x.length ≤ 8 := fun x hx => by
  unfold isHN at h
  rw [Bool.and_eq_true, List.all_eq_true] at h
  have hw := h.2 x hx
  unfold smallW at hw
  rw [Bool.and_eq_true, Bool.and_eq_true, decide_eq_true_eq, decide_eq_true_eq, List.all_eq_true] at hw
  exact ⟨fun c hc => (isSmall_iff c).mp (hw.2 c hc), hw.1.1, hw.1.2⟩
theorem hn_many {l : List Nat} (h : isHN l = true) : (splitL 45 l).length ≤ 3 := by
  unfold isHN at h
  rw [Bool.and_eq_true, decide_eq_true_eq] at h
  exact h.1
theorem great_ok {l : List Nat} (h : isHN l = true) : ∀ c ∈ great l, c < 1114112 := fun c hc => by
  rcases joinL_mem _ _ c hc with h1 | ⟨p, hp, hc⟩
  · rw [List.mem_singleton.mp h1]; decide
  · obtain ⟨x, hx, rfl⟩ := List.mem_map.mp hp
    have hs := (hn_small h x hx).1
    cases x with
    | nil => cases hc
    | cons d r =>
      rcases List.mem_cons.mp hc with rfl | hc
      · have := hs d (by simp); omega
      · have := hs c (by simp [hc]); omega
theorem great_len {l : List Nat} (h : isHN l = true) : (great l).length ≤ 27 := by
  unfold great
  have h1 := joinL_len [45] ((splitL 45 l).map cap)
  have h2 := sum_le 8 (((splitL 45 l).map cap).map List.length) fun x hx => by
    obtain ⟨y, hy, rfl⟩ := List.mem_map.mp hx
    obtain ⟨u, hu, rfl⟩ := List.mem_map.mp hy
    rw [cap_len]
    exact (hn_small h u hu).2.2
  have h3 := hn_many h
  rw [List.length_map] at h2
  rw [List.length_map] at h1 h2
  have : ([45] : List Nat).length = 1 := rfl
  rw [this] at h1
  omega
theorem sm_ok {l : List Nat} (h : Sm l) : ∀ c ∈ l, c < 1114112 := fun c hc => by have := h c hc; omega
/-! ### great_name -/
abbrev s_great_name : Stmt := topS 27
abbrev N_great_name : List Str := ["name", "word"]
abbrev P_great_name : List Str := ["name"]
theorem sc_great_name : FnScope N_great_name ["name"] (defScope s_great_name) := ⟨rfl, rfl, rfl, by decide +kernel, rfl, by decide +kernel, by decide +kernel⟩
def sp_great : Sp := fun vs H Q _ => ∃ z : Str, vs = [.str z] ∧ isHN (TL.tl z) = true ∧ z.length ≤ 1000 ∧ Tell H (.str ⟨(great (TL.tl z)).toArray⟩) Q
theorem ok_great {f : Addr} {fd : FuncData} {k : Nat} (F : Fun K "great_name" "great_name" s_great_name f fd) : FnOk P w K mg base CX0 (k + 1) f fd P_great_name sp_great := by
  refine F.ok sc_great_name (fun vs H Q E h => ?_) (fun cdv A outer s H vs Q E hr h => ?_)
  · obtain ⟨z, rfl, _⟩ := h
    rfl
  · have nd := sc_great_name.nd
    obtain ⟨z, rfl, hn, hz, q⟩ := h
    refine ⟨_, (pss_one (ps_ret (pe_join pe_str (pe_lc (own := [("word", 1)]) (g := gName 1) (by rfl) nd (pi_list (pe_split (pv 0) pe_str)) (blkOk_by (N := N_great_name) (sc := defScope s_great_name) (by decide +kernel)) (fun _ _ _ _ _ => (pg_name (i := 1) nd rfl (Or.inl rfl))) (fun _ _ _ _ _ => pts_nil) (fun _ _ _ _ _ => (pe_capitalize (pv 1))))))), ?_⟩
    have hsp := split_tl (x := z) (y := Str.ofString "-") (s := 45) tl_dash (by decide)
    have hsm := hn_small hn
    have hmy := hn_many hn
    refine ⟨⟨_, rfl⟩, .str z, rfl, ⟨_, rfl⟩, z, Str.ofString "-", rfl, rfl, by decide +kernel, by rw [sizeLine_eq]; omega, fun p np => ?_⟩
    have s1 := same_upd (o := .lst ((Txt.split z (Str.ofString "-")).map V.str)) np
    generalize Txt.split z (Str.ofString "-") = ws at *
    have hm : (ws.map V.str).length = ws.length := List.length_map ..
    have hwl : ws.length = (splitL 45 (TL.tl z)).length := by rw [← hsp, List.length_map]
    have hws : ∀ x ∈ ws, Sm (TL.tl x) ∧ x.length ≤ 8 := fun x hx => by
      have := hsm (TL.tl x) (by rw [← hsp]; exact List.mem_map.mpr ⟨x, hx, rfl⟩)
      exact ⟨this.1, by rw [TL.len_tl]; exact this.2.2⟩
    refine ⟨p, rfl, ⟨_, .inl (.inl upd_same)⟩, fun D hD => lc_pure (fun i => (ws.map V.str).getD i .non) (fun i => .str (Txt.capitalize (ws.getD i Str.empty))) walk_listF (fun H1 sm => sm.seq (.inl (.inl upd_same))) hD (by rw [hm, sizeLine_eq]; omega) (fun i H1 Q1 hi sm q1 => ?_) (fun H1 sm e => ?_)⟩
    · rw [hm] at hi
      rw [getD_str ws i hi]
      have hxm : ws.getD i Str.empty ∈ ws := by
        rw [List.getD_eq_getElem?_getD, List.getElem?_eq_getElem hi]
        exact List.getElem_mem hi
      have := (hws _ hxm).2
      exact ⟨.str (ws.getD i Str.empty), rfl, ⟨_, rfl⟩, _, rfl, rfl, by omega, q1 _ (Same.refl _)⟩
    · rw [hm] at e
      have em : (List.range ws.length).map (fun i => V.str (Txt.capitalize (ws.getD i Str.empty))) = (ws.map Txt.capitalize).map V.str := by
        conv => rhs; rw [← LH.range_getD ws Str.empty]
        rw [List.map_map, List.map_map]
        rfl
      rw [em] at e
      have ecap : (ws.map Txt.capitalize).map TL.tl = (splitL 45 (TL.tl z)).map cap := by
        rw [← hsp, List.map_map, List.map_map]
        exact List.map_congr_left fun x hx => cap_eq x (hws x hx).1
      have eJ : TL.tl (Txt.join (Str.ofString "-") (ws.map Txt.capitalize)) = great (TL.tl z) := by
        rw [TL.join_eq, TL.tl_join, ecap, tl_dash]
        rfl
      have hb := join_len_le (sep := Str.ofString "-") (ws := ws.map Txt.capitalize) (k := 8) (n := 3) (fun x hx => by
        obtain ⟨y, hy, rfl⟩ := List.mem_map.mp hx
        rw [TL.len_tl, cap_eq y (hws y hy).1, cap_len, ← TL.len_tl]
        exact (hws y hy).2) (by rw [List.length_map]; omega)
      have hb2 : 3 * (8 + (Str.ofString "-").length) = 27 := by decide +kernel
      refine ⟨Str.ofString "-", D, ws.map Txt.capitalize, rfl, rfl, .inl (.inl (.inl e)), by omega, ?_⟩
      have : Txt.join (Str.ofString "-") (ws.map Txt.capitalize) = ⟨(great (TL.tl z)).toArray⟩ := TL.ext_tl eJ
      rw [this]
      exact q _ (s1.trans sm)
/-! ### goes_into_rows -/
abbrev s_goes_into_rows : Stmt := topS 26
abbrev N_goes_into_rows : List Str := ["word"]
abbrev P_goes_into_rows : List Str := ["word"]
theorem sc_goes_into_rows : FnScope N_goes_into_rows ["word"] (defScope s_goes_into_rows) := ⟨rfl, rfl, rfl, by decide +kernel, rfl, by decide +kernel, by decide +kernel⟩
def sp_goes : Sp := fun vs H Q _ => ∃ z : Str, vs = [.str z] ∧ z.length ≤ 100000 ∧ Tell H (.bl (decide (z.length < 60))) Q
theorem ok_goes {f : Addr} {fd : FuncData} {k : Nat} (F : Fun K "goes_into_rows" "goes_into_rows" s_goes_into_rows f fd) (T : Tx mg tk) : FnOk P w K mg base CX0 (k + 1) f fd P_goes_into_rows sp_goes := by
  refine F.ok sc_goes_into_rows (fun vs H Q E h => ?_) (fun cdv A outer s H vs Q E hr h => ?_)
  · obtain ⟨z, rfl, _⟩ := h
    rfl
  · have nd := sc_goes_into_rows.nd
    obtain ⟨z, rfl, hz, q⟩ := h
    refine ⟨_, (pss_one (ps_ret (pe_cmpR op_lt (pe_callB call_len_str (by rfl) T.n_len (by decide +kernel) (pa_cons (pv 0) pa_nil)) (pe_glob (v := .int 60) (by rfl) T.m_ROW_SIGNS ⟨_, rfl⟩) (nomark _)))), ?_⟩
    refine ⟨_, rfl, _, rfl, by rw [sizeLine_eq]; omega, _, 60, rfl, rfl, ?_⟩
    have e : decide (((z.length : Nat) : Int) < 60) = decide (z.length < 60) := decide_eq_decide.mpr (by omega)
    show Q (.bl (decide (((z.length : Nat) : Int) < 60))) _
    rw [e]
    exact q _ (Same.refl _)
/-! ### folded -/
abbrev s_folded : Stmt := topS 25
abbrev N_folded : List Str := ["name", "value", "words", "rows", "word"]
abbrev P_folded : List Str := ["name", "value"]
theorem sc_folded : FnScope N_folded ["name", "value"] (defScope s_folded) := ⟨rfl, rfl, rfl, by decide +kernel, rfl, by decide +kernel, by decide +kernel⟩
/-- words of a value -/
def WsOk (ws : List Str) : Prop := ∀ x ∈ ws, WordL (TL.tl x) ∧ x.length ≤ 59
def rowsH (l : List Nat) (ws : List Str) : List V := (strL (hrows l (ws.map TL.tl))).map V.str
def sp_folded : Sp := fun vs H Q _ => ∃ (z : Str) (ws : List Str), vs = [.str z, .str (Txt.join (Str.ofString " ") ws)] ∧ isHN (TL.tl z) = true ∧ z.length ≤ 1000 ∧ WsOk ws ∧ ws.length ≤ 100 ∧ New H (rowsH (TL.tl z) ws) Q
theorem val_len {ws : List Str} (h : WsOk ws) (hl : ws.length ≤ 100) : (Txt.join (Str.ofString " ") ws).length ≤ 6000 ∧ (ws.map (·.length)).sum + ws.length * (Str.ofString " ").length ≤ 6000 := by
  have hb := join_len_le (sep := Str.ofString " ") (k := 59) (n := 100) (fun x hx => (h x hx).2) hl
  have hb2 : 100 * (59 + (Str.ofString " ").length) = 6000 := by decide +kernel
  have := joined_len (Str.ofString " ") ws
  exact ⟨by omega, by omega⟩
theorem val_ok {ws : List Str} (h : WsOk ws) : isVal (TL.tl (Txt.join (Str.ofString " ") ws)) = true := by
  rw [TL.join_eq, TL.tl_join, tl_blank]
  unfold isVal
  rw [Bool.and_eq_true]
  constructor
  · rw [List.all_eq_true]
    intro c hc
    rcases joinL_mem _ _ c hc with h1 | ⟨p, hp, hc⟩
    · rw [List.mem_singleton.mp h1]; rfl
    · obtain ⟨x, hx, rfl⟩ := List.mem_map.mp hp
      have := (h x hx).1.2 c hc
      unfold isSign
      simp only [Bool.and_eq_true, decide_eq_true_eq, Bool.not_eq_true', decide_eq_false_iff_not]
      omega
  · cases ws with
    | nil => rfl
    | cons x r =>
      rw [splitL_join 32 _ (by simp) fun p hp => ?_]
      · rw [Bool.or_eq_true]
        right
        have : ¬ ([] : List Nat) ∈ (x :: r).map TL.tl := fun hm => by
          obtain ⟨y, hy, e⟩ := List.mem_map.mp hm
          exact (h y hy).1.1 e
        rw [decide_eq_false this]
        rfl
      · obtain ⟨y, hy, rfl⟩ := List.mem_map.mp hp
        intro hm
        have := (h y hy).1.2 32 hm
        omega
theorem ok_folded {f fH fV fG fR : Addr} {fd fdH fdV fdG fdR : FuncData} (F : Fun K "folded" "folded" s_folded f fd) (T : Tx mg tk) (D_is_header_name : Def P w K mg base "is_header_name" 2 fH fdH ["thing"] (sp_header_name K)) (D_is_value : Def P w K mg base "is_value" 2 fV fdV ["thing"] (sp_value K)) (D_great_name : Def P w K mg base "great_name" 1 fG fdG P_great_name sp_great) (D_goes_into_rows : Def P w K mg base "goes_into_rows" 1 fR fdR P_goes_into_rows sp_goes) : FnOk P w K mg base CX0 3 f fd P_folded sp_folded := by
  refine F.ok sc_folded (fun vs H Q E h => ?_) (fun cdv A outer s H vs Q E hr h => ?_)
  · obtain ⟨z, ws, rfl, _⟩ := h
    rfl
  · have nd := sc_folded.nd
    obtain ⟨z, ws, rfl, hn, hz, hw, hwl, q⟩ := h
    refine ⟨_, (pss_cons (ps_if (pt_not (pt_val (pe_def D_is_header_name (hr.mono (by decide)) (pa_cons (pv 0) pa_nil))))
        (pss_one ps_never)
        pss_nil)
      (pss_cons (ps_if (pt_not (pt_val (pe_def D_is_value (hr.mono (by decide)) (pa_cons (pv 1) pa_nil))))
        (pss_one ps_never)
        pss_nil)
      (pss_cons (ps_set (i := 2) nd rfl (.inl rfl) (pe_words (pv 1)))
      (pss_cons (ps_if (pt_not (pt_val (pe_callB (cAll K) (by rfl) T.n_all (by decide +kernel) (pa_cons (pe_lc (own := [("word", 4)]) (g := gName 4) (by rfl) nd (pi_list (pv 2)) (blkOk_by (N := N_folded) (sc := defScope s_folded) (by decide +kernel)) (fun _ _ _ _ _ => (pg_name (i := 4) nd rfl (Or.inl rfl))) (fun _ _ _ _ _ => pts_nil) (fun _ _ _ _ _ => (pe_def D_goes_into_rows (hr.mono (by decide)) (pa_cons (pv 4) pa_nil)))) pa_nil))))
        (pss_one ps_never)
        pss_nil)
      (pss_cons (ps_set (i := 3) nd rfl (.inl rfl) (pe_lst (pa_cons (pe_op op_add_str (pe_def D_great_name (hr.mono (by decide)) (pa_cons (pv 0) pa_nil)) pe_str) pa_nil)))
      (pss_cons (ps_for PassesOwn.never rfl (pi_list (pv 2)) (pg_name (i := 4) nd rfl (Or.inl rfl))
        (pss_cons (ps_if (pt_cmpR op_gt (pe_op op_add (pe_op op_add (pe_callB call_len_str (by rfl) T.n_len (by decide +kernel) (pa_cons (pe_ix (ixL K) (pv 3) (pe_un un_neg pe_int) (fun _ _ => rfl)) pa_nil)) pe_int) (pe_callB call_len_str (by rfl) T.n_len (by decide +kernel) (pa_cons (pv 4) pa_nil))) (pe_glob (v := .int 60) (by rfl) T.m_ROW_SIGNS ⟨_, rfl⟩) (nomark _))
          (pss_one (ps_expr (pe_bm PySem.F.plainAttrs_list PySem.F.slot_list_append PySem.F.type_list_append mt_append (pv 3) (pa_cons pe_str pa_nil))))
          pss_nil)
        (pss_one (ps_augS (pv 3) (pe_un un_neg pe_int) (get_listK K) (pe_op op_add_str pe_str (pv 4)) iop_add_str set_list))))
      (pss_one (ps_ret (pv 3))))))))), ?_⟩
    have hvl := val_len hw hwl
    refine ⟨.str z, rfl, _, rfl, .inl ⟨z, rfl, by omega, fun H1 s1 => ⟨_, rfl, ?_⟩⟩⟩
    rw [hn]
    refine iteF ⟨_, rfl, _, rfl, .inl ⟨_, rfl, by omega, fun H2 s2 => ⟨_, rfl, ?_⟩⟩⟩
    rw [val_ok hw]
    refine iteF ⟨_, rfl, ⟨_, rfl⟩, _, rfl, rfl, by rw [sizeLine_eq]; omega, fun p np => ?_⟩
    rw [words_join ws (fun x hx => (hw x hx).1) _ tl_blank]
    have s3 := same_upd (o := .lst (ws.map V.str)) np
    have hm : (ws.map V.str).length = ws.length := List.length_map ..
    generalize hH3 : upd H2 p (.lst (ws.map V.str)) = H3 at *
    have e3 : H3 p = some (.lst (ws.map V.str)) := by rw [← hH3, upd_same]
    refine ⟨.ref p, rfl, p, rfl, ⟨_, .inl (.inl e3)⟩, fun D hD => lc_pure (fun i => (ws.map V.str).getD i .non) (fun i => .bl true) walk_listF (fun H4 sm => sm.seq (.inl (.inl e3))) hD (by rw [hm, sizeLine_eq]; omega) (fun i H4 Q4 hi sm q4 => ?_) (fun H4 s4 e4 => ?_)⟩
    · rw [hm] at hi
      rw [getD_str ws i hi]
      have hxm : ws.getD i Str.empty ∈ ws := by
        rw [List.getD_eq_getElem?_getD, List.getElem?_eq_getElem hi]
        exact List.getElem_mem hi
      have := (hw _ hxm).2
      refine ⟨.str (ws.getD i Str.empty), rfl, _, rfl, by omega, fun H5 s5 => ?_⟩
      rw [decide_eq_true (show (ws.getD i Str.empty).length < 60 by omega)]
      exact q4 _ s5
    · refine ⟨D, (List.range ws.length).map fun _ => true, rfl, .inl (.inl (by rw [e4, hm, List.map_map]; rfl)), _, rfl, ?_⟩
      have ea : ((List.range ws.length).map fun _ => true).all id = true := by
        rw [List.all_map]
        exact List.all_eq_true.mpr fun _ _ => rfl
      rw [ea]
      have hgl := great_len hn
      have hgs : (⟨(great (TL.tl z)).toArray⟩ : Str).length = (great (TL.tl z)).length := mk_len _
      refine iteF ⟨.str z, rfl, z, rfl, hn, hz, fun H5 s5 => ⟨_, Str.ofString ":", rfl, rfl, by rw [hgs, sizeLine_eq, show (Str.ofString ":").length = 1 by decide +kernel]; omega, Nat.le_of_lt (small1000 (show 1 ≤ 1000 by decide)), fun o no => ?_⟩⟩
      have ehd : (⟨(great (TL.tl z)).toArray⟩ : Str) ++ Str.ofString ":" = ⟨(great (TL.tl z) ++ [58]).toArray⟩ := TL.ext_tl (by rw [TL.tl_append, show TL.tl (Str.ofString ":") = [58] by decide +kernel])
      rw [ehd]
      have s6 := same_upd (o := .lst [V.str ⟨(great (TL.tl z) ++ [58]).toArray⟩]) no
      have sA : Same H H5 := s1.trans (s2.trans (s3.trans (s4.trans s5)))
      have hno : H o = none := sA.free no
      have e6 := s6 _ _ (s5 _ _ (s4 _ _ e3))
      refine ⟨.ref p, rfl, p, rfl, ⟨_, .inl (.inl e6)⟩, for_it walk_list (fun i σ H' => ∃ y4, σ = [some (.str z), some (.str (Txt.join (Str.ofString " ") ws)), some (.ref p), some (.ref o), y4] ∧ Same H5 H' ∧ H' o = some (.lst ((strL (hrows (TL.tl z) ((ws.take i).map TL.tl))).map V.str)))
        ⟨none, rfl, s6, upd_same⟩ (fun i σ H' _ h => by obtain ⟨y, rfl, sm, _⟩ := h; exact .inl (.inl (sm _ _ (s5 _ _ (s4 _ _ e3))))) (fun i x σ H' H'' hi hP hy => ?_) (fun σ H' hP => ?_)⟩
      · obtain ⟨y4, rfl, sm, eo⟩ := hP
        obtain ⟨rfl, hx⟩ := hy
        rw [hm] at hi
        rw [List.getElem?_map, List.getElem?_eq_getElem hi] at hx
        obtain rfl := Option.some.inj hx
        have hwi := hw ws[i] (List.getElem_mem hi)
        have hfl := hfold_len (TL.tl z) (by omega) ((ws.take i).map TL.tl) fun x hx => by
          obtain ⟨y, hy, rfl⟩ := List.mem_map.mp hx
          rw [← TL.len_tl]
          exact (hw y (List.mem_of_mem_take hy)).2
        have hst : hrows (TL.tl z) ((ws.take (i + 1)).map TL.tl) = (hstep (hfold (TL.tl z) ((ws.take i).map TL.tl)) (TL.tl ws[i])).1 ++ [(hstep (hfold (TL.tl z) ((ws.take i).map TL.tl)) (TL.tl ws[i])).2] := by
          unfold hrows
          rw [List.take_add_one, List.getElem?_eq_getElem hi, Option.toList_some, List.map_append, List.map_singleton, hfold_snoc]
        unfold hrows at eo
        have htl : ((ws.take i).map TL.tl).length = i := by rw [List.length_map, List.length_take]; omega
        rw [htl] at hfl
        generalize hfold (TL.tl z) ((ws.take i).map TL.tl) = st at *
        obtain ⟨d, c⟩ := st
        rw [strL_app, List.map_append] at eo
        have eo : H'' o = some (.lst ((strL d).map V.str ++ [.str ⟨c.toArray⟩])) := eo
        have hdl : ((strL d).map V.str).length = d.length := by unfold strL; rw [List.length_map, List.length_map]
        have hcl : (⟨c.toArray⟩ : Str).length = c.length := mk_len _
        have hxl : ws[i].length = (TL.tl ws[i]).length := TL.len_tl _
        have ebl : Str.ofString " " ++ ws[i] = ⟨(32 :: TL.tl ws[i]).toArray⟩ := TL.ext_tl (by rw [TL.tl_append, tl_blank]; rfl)
        refine ⟨.ref o, rfl, 1, rfl, o, _, -1, .str ⟨c.toArray⟩, rfl, rfl, .inl (.inl eo), atI_last _ _, _, rfl, by rw [hcl, sizeLine_eq]; have := hfl.1; simp only at this; omega, _, 1, rfl, rfl, .str ws[i], rfl, _, rfl, by rw [sizeLine_eq]; omega, _, _, rfl, rfl, _, 60, rfl, rfl, _, rfl, ?_⟩
        have hdec : decide ((60 : Int) < ((⟨c.toArray⟩ : Str).length : Nat) + 1 + ((ws[i].length : Nat) : Int)) = decide (60 < c.length + 1 + (TL.tl ws[i]).length) := decide_eq_decide.mpr (by rw [hcl, hxl]; omega)
        show (if decide ((60 : Int) < ((⟨c.toArray⟩ : Str).length : Nat) + 1 + ((ws[i].length : Nat) : Int)) = true then _ else _)
        rw [hdec]
        unfold hstep at hst
        refine ite2 (fun hc => ?_) (fun hc => ?_)
        · have hc' := of_decide_eq_true hc
          rw [if_pos hc'] at hst
          refine ⟨.ref o, rfl, .inl ⟨rfl, _, .inl (.inl eo)⟩, o, _, _, rfl, rfl, eo, ?_, ?_⟩
          · rw [List.length_append, hdl, sizeLine_eq]
            have := hfl.2.2
            simp only at this
            show d.length + 1 < 16777216
            omega
          refine ⟨.ref o, rfl, 1, rfl, o, _, -1, .str (Str.ofString ""), rfl, rfl, .inl (.inl upd_same), atI_last _ _, .str ws[i], rfl, Str.ofString " ", ws[i], rfl, rfl, ?_, Str.ofString "", _, rfl, rfl, ?_, o, _, -1, _, rfl, rfl, upd_same, ixN_last _ _, ?_⟩
          · rw [show (Str.ofString " ").length = 1 by decide +kernel, sizeLine_eq]; omega
          · rw [len_app, show (Str.ofString " ").length = 1 by decide +kernel, show (Str.ofString "").length = 0 by decide +kernel, sizeLine_eq]; omega
          · refine ⟨_, rfl, fun b x e => ?_, ?_⟩
            · rw [upd_ne (ne_of_none e no), upd_ne (ne_of_none e no)]
              exact sm _ _ e
            · have ee : Str.ofString "" ++ (Str.ofString " " ++ ws[i]) = ⟨(32 :: TL.tl ws[i]).toArray⟩ := TL.ext_tl (by rw [TL.tl_append, tl_empty, ebl]; rfl)
              rw [upd_same, hst, set_last, ee, strL_app, strL_app, List.map_append, List.map_append]
              rfl
        · have hc' : ¬ 60 < c.length + 1 + (TL.tl ws[i]).length := fun h => hc (decide_eq_true h)
          rw [if_neg hc'] at hst
          refine ⟨.ref o, rfl, 1, rfl, o, _, -1, .str ⟨c.toArray⟩, rfl, rfl, .inl (.inl eo), atI_last _ _, .str ws[i], rfl, Str.ofString " ", ws[i], rfl, rfl, ?_, ⟨c.toArray⟩, _, rfl, rfl, ?_, o, _, -1, _, rfl, rfl, eo, ixN_last _ _, ?_⟩
          · rw [show (Str.ofString " ").length = 1 by decide +kernel, sizeLine_eq]; omega
          · rw [len_app, hcl, show (Str.ofString " ").length = 1 by decide +kernel, sizeLine_eq]; omega
          · refine ⟨_, rfl, fun b x e => ?_, ?_⟩
            · rw [upd_ne (ne_of_none e no)]
              exact sm _ _ e
            · have ee : (⟨c.toArray⟩ : Str) ++ (Str.ofString " " ++ ws[i]) = ⟨(c ++ 32 :: TL.tl ws[i]).toArray⟩ := TL.ext_tl (by rw [TL.tl_append, ebl])
              rw [upd_same, hst, set_last, ee, strL_app, List.map_append]
              rfl
      · obtain ⟨y4, rfl, sm, eo⟩ := hP
        rw [hm, List.take_length] at eo
        exact ⟨.ref o, rfl, q H' o (sA.trans sm) hno eo⟩
end
end K20

namespace K20
open PySem PySem.Spec PyProof.Rows L2 LH
def Bytes (bs : List Int) : Prop := ∀ b ∈ bs, 0 ≤ b ∧ b < 256
section
variable {P : Program} {w : World} {K : PySem.W.Frag} {mg : Str → Option Value} {base : Heap} {tk : Nat → Tok} {ca : Nat → Addr}
def val256 (l : List Int) : Int := l.foldl (fun n b => n * 256 + b) 0
def sgn (n : Int) : Nat := (TL.tl S64).getD n.toNat 0
def fourL (c : List Int) : List Nat :=
  let v := val256 (c ++ List.replicate (3 - c.length) 0)
  (([18, 12, 6, 0] : List Nat).map fun s => sgn (v / 2 ^ s % 64)).take (4 - (3 - c.length)) ++ List.replicate (3 - c.length) 61
theorem S64_len : (TL.tl S64).length = 64 := by decide +kernel
theorem sgn_at {n : Int} (h0 : 0 ≤ n) (h1 : n < 64) : atI (TL.tl S64) n = some (sgn n) := by
  have hl : n.toNat < (TL.tl S64).length := by rw [S64_len]; omega
  obtain ⟨m, rfl⟩ : ∃ m : Nat, n = (m : Int) := ⟨n.toNat, by omega⟩
  refine atI_nat ?_
  unfold sgn
  rw [Int.toNat_natCast] at hl ⊢
  rw [List.getD_eq_getElem?_getD, List.getElem?_eq_getElem hl]
  rfl
theorem val256_snoc (l : List Int) (b : Int) : val256 (l ++ [b]) = val256 l * 256 + b := by
  unfold val256
  rw [List.foldl_append]
  rfl
theorem val256_le (l : List Int) (h : Bytes l) : 0 ≤ val256 l ∧ val256 l < 256 ^ l.length := by
  have key : ∀ r : List Int, Bytes r → 0 ≤ val256 r.reverse ∧ val256 r.reverse < 256 ^ r.length := by
    intro r
    induction r with
    | nil => intro _; exact ⟨by decide, by decide⟩
    | cons b r ih =>
      intro h
      have hb := h b (by simp)
      have ih' := ih fun x hx => h x (by simp [hx])
      rw [List.reverse_cons, val256_snoc, List.length_cons, Int.pow_succ]
      omega
  have := key l.reverse fun x hx => h x (by simpa using hx)
  simpa using this
theorem tl_rep_eq (k : Int) : TL.tl (repS (Str.ofString "=") k) = List.replicate k.toNat 61 := by
  show (List.replicate k.toNat (TL.tl (Str.ofString "="))).flatten = _
  rw [show TL.tl (Str.ofString "=") = [61] by decide +kernel]
  generalize k.toNat = n
  induction n with
  | zero => rfl
  | succ n ih => rw [List.replicate_succ, List.flatten_cons, ih, List.replicate_succ]; rfl
theorem rep_flat (n : Nat) : (List.replicate n [V.int 0]).flatten = (List.replicate n (0 : Int)).map V.int := by
  induction n with
  | zero => rfl
  | succ n ih => rw [List.replicate_succ, List.flatten_cons, ih, List.replicate_succ]; rfl
/-! ### four_of -/
abbrev s_four_of : Stmt := topS 31
abbrev N_four_of : List Str := ["row", "lacking", "number", "byte", "signs", "shift"]
abbrev P_four_of : List Str := ["row"]
theorem sc_four_of : FnScope N_four_of ["row"] (defScope s_four_of) := ⟨rfl, rfl, rfl, by decide +kernel, rfl, by decide +kernel, by decide +kernel⟩
def sp_four_of : Sp := fun vs H Q _ => ∃ (a : Addr) (c : List Int), vs = [.ref a] ∧ H a = some (.lst (c.map V.int)) ∧ Bytes c ∧ 1 ≤ c.length ∧ c.length ≤ 3 ∧ Tell H (.str ⟨(fourL c).toArray⟩) Q
theorem ok_four_of {f : Addr} {fd : FuncData} {k : Nat} (F : Fun K "four_of" "four_of" s_four_of f fd) (T : Tx mg tk) : FnOk P w K mg base CX0 (k + 1) f fd ["row"] sp_four_of := by
  refine F.ok sc_four_of (fun vs H Q E h => ?_) (fun cdv A outer s H vs Q E hr h => ?_)
  · obtain ⟨a, bs, rfl, _⟩ := h
    rfl
  · have nd := sc_four_of.nd
    obtain ⟨a, c, rfl, hS, hb, hl1, hl3, q⟩ := h
    refine ⟨_, (pss_cons (ps_set (i := 1) nd rfl (.inl rfl) (pe_op op_sub pe_int (pe_callB (cLen K) (by rfl) T.n_len (by decide +kernel) (pa_cons (pv 0) pa_nil))))
      (pss_cons (ps_set (i := 2) nd rfl (.inr rfl) pe_int)
      (pss_cons (ps_for PassesOwn.never rfl (pi_list (pe_op op_cat (pv 0) (pe_op op_rep (pe_lst (pa_cons pe_int pa_nil)) (pv 1)))) (pg_name (i := 3) nd rfl (Or.inl rfl))
        (pss_one (ps_set (i := 2) nd rfl (.inr rfl) (pe_op op_or (pe_op op_shl (pv 2) pe_int) (pv 3)))))
      (pss_cons (ps_set (i := 4) nd rfl (.inl rfl) (pe_join pe_str (pe_lc (own := [("shift", 5)]) (g := gName 5) (by rfl) nd (pi_tup (pe_tup (pa_cons pe_int (pa_cons pe_int (pa_cons pe_int (pa_cons pe_int pa_nil)))))) (blkOk_by (N := N_four_of) (sc := defScope s_four_of) (by decide +kernel)) (fun _ _ _ _ _ => (pg_name (i := 5) nd rfl (Or.inl rfl))) (fun _ _ _ _ _ => pts_nil) (fun _ _ _ _ _ => (pe_ix ix_str (pe_glob (v := .str S64) (by rfl) T.m_SIXTY_FOUR ⟨_, rfl⟩) (pe_op op_and (pe_op op_shr (pv 2) (pv 5)) pe_int) (fun _ _ => rfl))))))
      (pss_one (ps_ret (pe_op op_add_str (pe_slice sl_str (pv 4) po_none (po_some (pe_op op_sub pe_int (pv 1)))) (pe_op op_mul_str pe_str (pv 1))))))))), ?_⟩
    have hlm : (c.map V.int).length = c.length := List.length_map ..
    refine ⟨.ref a, rfl, a, _, rfl, .inl (.inl (.inl hS)), 3, _, rfl, rfl, ?_⟩
    rw [hlm]
    have hL0 : 0 ≤ (3 : Int) - (c.length : Nat) ∧ (3 : Int) - (c.length : Nat) ≤ 2 := by omega
    have hLn : ((3 : Int) - (c.length : Nat)).toNat = 3 - c.length := by omega
    refine ⟨.ref a, rfl, Nat.le_of_lt (small1000 (show 1 ≤ 1000 by decide)), fun p np => ⟨.int (3 - (c.length : Nat)), rfl, p, 3 - (c.length : Nat), _, rfl, rfl, upd_same, by omega, by omega, ?_, fun p2 np2 => ?_⟩⟩
    · rw [List.length_singleton, sizeLine_eq]
      omega
    have s1 := same_upd (o := .lst [V.int 0]) np
    have e2 : (List.replicate ((3 : Int) - (c.length : Nat)).toNat [V.int 0]).flatten = (List.replicate (3 - c.length) (0 : Int)).map V.int := by rw [hLn, rep_flat]
    rw [e2]
    have s2 := same_upd (o := .lst ((List.replicate (3 - c.length) (0 : Int)).map V.int)) np2
    refine ⟨a, p2, _, _, rfl, rfl, s2 _ _ (s1 _ _ hS), upd_same, ?_, fun p3 np3 => ?_⟩
    · rw [List.length_map, List.length_map, List.length_replicate, sizeLine_eq]
      omega
    rw [← List.map_append]
    have hb3 : Bytes (c ++ List.replicate (3 - c.length) (0 : Int)) := fun x hx => by
      rcases List.mem_append.mp hx with h | h
      · exact hb x h
      · rw [(List.mem_replicate.mp h).2]
        decide
    have hl : (c ++ List.replicate (3 - c.length) (0 : Int)).length = 3 := by
      rw [List.length_append, List.length_replicate]
      omega
    have ev : fourL c = (([18, 12, 6, 0] : List Nat).map fun s => sgn (val256 (c ++ List.replicate (3 - c.length) 0) / 2 ^ s % 64)).take (4 - (3 - c.length)) ++ List.replicate (3 - c.length) 61 := rfl
    generalize c ++ List.replicate (3 - c.length) (0 : Int) = l at *
    have s3 := same_upd (o := .lst (l.map V.int)) np3
    have s13 := (s1.trans s2).trans s3
    generalize hH3 : upd _ p3 (.lst (l.map V.int)) = H3 at *
    have e3 : H3 p3 = some (.lst (l.map V.int)) := by rw [← hH3, upd_same]
    refine ⟨p3, rfl, ⟨_, .inl (.inl e3)⟩, for_it walk_list (fun i σ H' => ∃ y3, σ = [some (.ref a), some (.int (3 - (c.length : Nat))), some (.int (val256 (l.take i))), y3, none, none] ∧ H' = H3) ⟨none, rfl, rfl⟩
      (fun i σ H' _ h => by obtain ⟨y, rfl, rfl⟩ := h; exact .inl (.inl e3)) (fun i x σ H' H'' hi hP hy => ?_) (fun σ H' hP => ?_)⟩
    · obtain ⟨y3, rfl, rfl⟩ := hP
      obtain ⟨rfl, hx⟩ := hy
      rw [List.length_map] at hi
      rw [List.getElem?_map, List.getElem?_eq_getElem hi] at hx
      obtain rfl := Option.some.inj hx
      have hv := val256_le (l.take i) fun x hx => hb3 x (List.mem_of_mem_take hx)
      have hli : (l.take i).length = i := by rw [List.length_take]; omega
      rw [hli] at hv
      have hi3 : i = 0 ∨ i = 1 ∨ i = 2 := by omega
      have hv2 : val256 (l.take i) < 65536 := by
        rcases hi3 with rfl | rfl | rfl
        · exact Int.lt_of_lt_of_le hv.2 (by decide)
        · exact Int.lt_of_lt_of_le hv.2 (by decide)
        · exact Int.lt_of_lt_of_le hv.2 (by decide)
      have hbi := hb3 l[i] (List.getElem_mem hi)
      refine ⟨_, rfl, val256 (l.take i), 8, rfl, rfl, ⟨by decide, by decide, by omega⟩, .int l[i], rfl, _, l[i], rfl, rfl, some (.int l[i]), ?_, rfl⟩
      rw [List.take_add_one, List.getElem?_eq_getElem hi]
      show _ = [_, _, some (V.int (val256 (l.take i ++ [l[i]]))), _, _, _]
      rw [val256_snoc]
      have := Bits.bitOr_join' (k := 8) hbi.1 hbi.2 hv.1
      show [_, _, some (V.int (Builtin.bitOr (val256 (l.take i) * 2 ^ 8) l[i])), _, _, _] = _
      rw [this, Int.add_comm]
      rfl
    · obtain ⟨y3, rfl, rfl⟩ := hP
      rw [List.length_map, List.take_length]
      have hv := val256_le l hb3
      generalize val256 l = v at *
      refine ⟨⟨_, rfl⟩, Nat.le_of_lt (small1000 (show 4 ≤ 1000 by decide)), fun p np => ?_⟩
      have s4 := same_upd (o := .tup [.int 18, .int 12, .int 6, .int 0]) np
      refine ⟨p, rfl, ⟨_, .inl (.inl upd_same)⟩, fun D hD => lc_pure (n := 4) (fun i => ([.int 18, .int 12, .int 6, .int 0] : List V).getD i .non) (fun i => .str ⟨#[sgn (v / 2 ^ (([18, 12, 6, 0] : List Nat).getD i 0) % 64)]⟩) (walk_tupF (xs := [.int 18, .int 12, .int 6, .int 0])) (fun H1 sm => seqT sm (.inl (.inl upd_same))) hD (Nat.le_of_lt (small1000 (by decide))) (fun i H1 Q1 hi sm q1 => ?_) (fun H1 sm e => ?_)⟩
      · have key : ∀ t : Nat, atI S64.cps.toList (Builtin.bitAnd (v / 2 ^ t) 63) = some (sgn (v / 2 ^ t % 64)) := fun t => by
          rw [bitAnd_m6]
          exact sgn_at (Int.emod_nonneg _ (by decide)) (Int.emod_lt_of_pos _ (by decide))
        have hz : S64.length ≤ sizeLine := Nat.le_of_lt (small1000 (by decide +kernel))
        have hi4 : i = 0 ∨ i = 1 ∨ i = 2 ∨ i = 3 := by omega
        rcases hi4 with rfl | rfl | rfl | rfl
        · exact ⟨.int v, rfl, .int 18, rfl, v, 18, rfl, rfl, (show (0 : Int) ≤ 18 by decide), _, 63, rfl, rfl, S64, _, _, rfl, rfl, hz, key 18, q1 _ (Same.refl _)⟩
        · exact ⟨.int v, rfl, .int 12, rfl, v, 12, rfl, rfl, (show (0 : Int) ≤ 12 by decide), _, 63, rfl, rfl, S64, _, _, rfl, rfl, hz, key 12, q1 _ (Same.refl _)⟩
        · exact ⟨.int v, rfl, .int 6, rfl, v, 6, rfl, rfl, (show (0 : Int) ≤ 6 by decide), _, 63, rfl, rfl, S64, _, _, rfl, rfl, hz, key 6, q1 _ (Same.refl _)⟩
        · exact ⟨.int v, rfl, .int 0, rfl, v, 0, rfl, rfl, (show (0 : Int) ≤ 0 by decide), _, 63, rfl, rfl, S64, _, _, rfl, rfl, hz, key 0, q1 _ (Same.refl _)⟩
      · refine ⟨Str.ofString "", D, ([18, 12, 6, 0] : List Nat).map fun s => ⟨#[sgn (v / 2 ^ s % 64)]⟩, rfl, rfl, .inl (.inl (.inl e)), ?_, ?_⟩
        · show 4 ≤ 16777216
          decide
        have ej : TL.tl (Txt.join (Str.ofString "") (([18, 12, 6, 0] : List Nat).map fun s => (⟨#[sgn (v / 2 ^ s % 64)]⟩ : Str))) = ([18, 12, 6, 0] : List Nat).map fun s => sgn (v / 2 ^ s % 64) := by
          rw [TL.join_eq, TL.tl_join]
          rfl
        generalize Txt.join (Str.ofString "") (([18, 12, 6, 0] : List Nat).map fun s => (⟨#[sgn (v / 2 ^ s % 64)]⟩ : Str)) = J at ej
        have hJ : J.length = 4 := by rw [TL.len_tl, ej]; rfl
        refine ⟨.str J, rfl, .int (3 - (c.length : Nat)), rfl, 4, 3 - (c.length : Nat), rfl, rfl, 4 - (3 - (c.length : Nat)), rfl, J, rfl, by rw [hJ]; exact Nat.le_of_lt (small1000 (by decide)), ?_⟩
        refine ⟨.int (3 - (c.length : Nat)), rfl, Str.ofString "=", 3 - (c.length : Nat), rfl, rfl, by omega, by omega, by decide +kernel, _, _, rfl, rfl, ?_, ?_⟩
        · rw [TL.len_tl (repS _ _), tl_rep_eq, List.length_replicate, hLn, sizeLine_eq]
          have := cutS_length J none (some (4 - (3 - (c.length : Int))))
          omega
        · have ef : cutS J none (some (4 - (3 - (c.length : Int)))) ++ repS (Str.ofString "=") (3 - (c.length : Int)) = ⟨(fourL c).toArray⟩ := by
            refine TL.ext_tl ?_
            rw [TL.tl_append, tl_rep_eq, hLn, show (4 - (3 - (c.length : Int))) = ((4 - (3 - c.length) : Nat) : Int) by omega, cutS_to]
            show (TL.tl J).take (4 - (3 - c.length)) ++ List.replicate (3 - c.length) 61 = fourL c
            rw [ej, ev]
          rw [ef]
          refine q _ (s13.trans (s4.trans ?_))
          exact sm
end
def rowsV (t : List Nat) : List V := (chunks 60 t).map fun l => .str ⟨l.toArray⟩
def ptext (bs : List Int) : List Nat := ((chunks 3 bs).map fourL).flatten
theorem joinL_nil (l : List (List Nat)) : TL.joinL [] l = l.flatten := by
  induction l with
  | nil => rfl
  | cons x r ih =>
    cases r with
    | nil => simp [TL.joinL]
    | cons y r => rw [TL.joinL, ih]; simp
theorem tl_empty : TL.tl (Str.ofString "") = [] := by decide +kernel
theorem tl_join0 (ys : List Str) : TL.tl (Txt.join (Str.ofString "") ys) = (ys.map TL.tl).flatten := by
  rw [TL.join_eq, TL.tl_join, tl_empty, joinL_nil]
theorem flatten_le {α : Type} {k : Nat} : ∀ l : List (List α), (∀ x ∈ l, x.length ≤ k) → l.flatten.length ≤ k * l.length
  | [], _ => Nat.le_refl _
  | x :: r, h => by
    have ih := flatten_le r fun y hy => h y (List.mem_cons_of_mem _ hy)
    have hx := h x (by simp)
    rw [List.flatten_cons, List.length_append, List.length_cons, Nat.mul_succ]
    omega
theorem fourL_le (c : List Int) : (fourL c).length ≤ 7 := by
  unfold fourL
  simp only [List.length_append, List.length_take, List.length_map, List.length_replicate]
  omega
theorem chunks_len {α : Type} (k : Nat) (t : List α) : (chunks k t).length = (t.length + (k - 1)) / k := by
  unfold chunks
  rw [List.length_map, List.length_range]
theorem ptext_le (bs : List Int) : (ptext bs).length ≤ 7 * bs.length := by
  unfold ptext
  refine Nat.le_trans (flatten_le (k := 7) _ fun x hx => ?_) ?_
  · obtain ⟨c, _, rfl⟩ := List.mem_map.mp hx
    exact fourL_le c
  · rw [List.length_map, chunks_len]
    omega
theorem sum_len (ys : List Str) : (ys.map (·.length)).sum = ((ys.map TL.tl).flatten).length := by
  rw [List.length_flatten, List.map_map]
  rfl
section
variable {P : Program} {w : World} {K : PySem.W.Frag} {mg : Str → Option Value} {base : Heap} {tk : Nat → Tok} {ca : Nat → Addr}
/-! ### sixty_of -/
abbrev s_sixty_of : Stmt := topS 30
abbrev N_sixty_of : List Str := ["row", "text", "at"]
abbrev P_sixty_of : List Str := ["row"]
theorem sc_sixty_of : FnScope N_sixty_of ["row"] (defScope s_sixty_of) := ⟨rfl, rfl, rfl, by decide +kernel, rfl, by decide +kernel, by decide +kernel⟩
def sp_sixty_of (g : List Int → List Nat) : Sp := fun vs H Q _ => ∃ (a : Addr) (bs : List Int), vs = [.ref a] ∧ H a = some (.lst (bs.map V.int)) ∧ Bytes bs ∧ bs.length ≤ 4040 ∧ New H (rowsV (g bs)) Q
theorem ok_sixty_of {f fB fF : Addr} {fd fdB fdF : FuncData} (F : Fun K "sixty_of" "sixty_of" s_sixty_of f fd) (T : Tx mg tk) (D_is_bytes : Def P w K mg base "is_bytes" 2 fB fdB P_is_bytes (sp_is_bytesG K)) (D_four_of : Def P w K mg base "four_of" 1 fF fdF P_four_of sp_four_of) :
    FnOk P w K mg base CX0 3 f fd P_sixty_of (sp_sixty_of ptext) := by
  refine F.ok sc_sixty_of (fun vs H Q E h => ?_) (fun cdv A outer s H vs Q E hr h => ?_)
  · obtain ⟨a, bs, rfl, _⟩ := h
    rfl
  · have nd := sc_sixty_of.nd
    obtain ⟨a, bs, rfl, hS, hb, hlen, q⟩ := h
    refine ⟨_, (pss_cons (ps_if (pt_not (pt_val (pe_def D_is_bytes (hr.mono (by decide)) (pa_cons (pv 0) pa_nil))))
        (pss_one ps_never)
        pss_nil)
      (pss_cons (ps_set (i := 1) nd rfl (.inr rfl) (pe_join pe_str (pe_lc (own := [("at", 2)]) (g := gName 2) (by rfl) nd (pi_range3 (by rfl) T.n_range (pa_cons pe_int (pa_cons (pe_callB (cLen K) (by rfl) T.n_len (by decide +kernel) (pa_cons (pv 0) pa_nil)) (pa_cons pe_int pa_nil)))) (blkOk_by (N := N_sixty_of) (sc := defScope s_sixty_of) (by decide +kernel)) (fun _ _ _ _ _ => (pg_name (i := 2) nd rfl (Or.inl rfl))) (fun _ _ _ _ _ => pts_nil) (fun _ _ _ _ _ => (pe_def D_four_of (hr.mono (by decide)) (pa_cons (pe_slice (slL K) (pv 0) (po_some (pv 2)) (po_some (pe_op op_add (pv 2) pe_int))) pa_nil))))))
      (pss_one (ps_ret (pe_lc (own := [("at", 2)]) (g := gName 2) (by rfl) nd (pi_range3 (by rfl) T.n_range (pa_cons pe_int (pa_cons (pe_callB call_len_str (by rfl) T.n_len (by decide +kernel) (pa_cons (pv 1) pa_nil)) (pa_cons (pe_glob (v := .int 60) (by rfl) T.m_ROW_SIGNS ⟨_, rfl⟩) pa_nil)))) (blkOk_by (N := N_sixty_of) (sc := defScope s_sixty_of) (by decide +kernel)) (fun _ _ _ _ _ => (pg_name (i := 2) nd rfl (Or.inl rfl))) (fun _ _ _ _ _ => pts_nil) (fun _ _ _ _ _ => (pe_slice sl_str (pv 1) (po_some (pv 2)) (po_some (pe_op op_add (pv 2) (pe_glob (v := .int 60) (by rfl) T.m_ROW_SIGNS ⟨_, rfl⟩)))))))))), ?_⟩
    have hlm : (bs.map V.int).length = bs.length := List.length_map ..
    have hel : ∀ v ∈ bs.map V.int, ElemB H v := fun v hv => by
      obtain ⟨i, _, rfl⟩ := List.mem_map.mp hv
      exact .inl ⟨_, rfl⟩
    have hall : true = (bs.map V.int).all okV := by
      symm
      rw [List.all_eq_true]
      intro v hv
      obtain ⟨i, hi, rfl⟩ := List.mem_map.mp hv
      have := hb i hi
      show (decide (0 ≤ i) && decide (i ≤ 255)) = true
      rw [decide_eq_true (by omega), decide_eq_true (by omega)]
      rfl
    refine ⟨.ref a, rfl, .ref a, true, rfl, .inr ⟨a, _, rfl, hS, by rw [hlm]; omega, hel, hall⟩, fun H1 s1 => ⟨true, rfl, iteF ?_⟩⟩
    refine ⟨⟨_, rfl⟩, .ref a, rfl, a, _, rfl, .inl (.inl (.inl (s1 _ _ hS))), 0, _, 3, (bs.length + 2) / 3, rfl, by rw [hlm]; exact rgC bs.length 3 (by decide) (by decide) (by omega), fun D hD => ?_⟩
    refine lc_pure (fun i => .int (0 + ((i : Nat) : Int) * 3)) (fun i => .str ⟨(fourL ((bs.drop (i * 3)).take 3)).toArray⟩) walk_rangeC (fun _ _ => trivial) hD (by rw [sizeLine_eq]; omega) (fun i H2 Q2 hi s2 q2 => ?_) (fun H2 s2 e => ?_)
    · refine ⟨.ref a, rfl, .int (0 + ((i : Nat) : Int) * 3), rfl, _, rfl, .int (0 + ((i : Nat) : Int) * 3), rfl, _, 3, rfl, rfl, 0 + ((i : Nat) : Int) * 3 + 3, rfl, a, _, rfl, .inl (.inl (s2 _ _ (s1 _ _ hS))), fun p np => ?_⟩
      have hl2 : ((bs.drop (i * 3)).take 3).length = min 3 (bs.length - i * 3) := by rw [List.length_take, List.length_drop]
      refine ⟨p, (bs.drop (i * 3)).take 3, rfl, ?_, fun x hx => hb x (List.mem_of_mem_drop (List.mem_of_mem_take hx)), by omega, by omega, fun H3 s3 => q2 _ ((same_upd np).trans s3)⟩
      rw [upd_same, show (0 : Int) + ((i : Nat) : Int) * 3 = ((i * 3 : Nat) : Int) by omega, show ((i * 3 : Nat) : Int) + 3 = ((i * 3 + 3 : Nat) : Int) by omega, cutV_at, Nat.add_sub_cancel_left, List.map_take, List.map_drop]
    · have e2 : (List.range ((bs.length + 2) / 3)).map (fun i => V.str ⟨(fourL ((bs.drop (i * 3)).take 3)).toArray⟩) = (((chunks 3 bs).map fun c => (⟨(fourL c).toArray⟩ : Str))).map V.str := by
        unfold chunks
        rw [List.map_map, List.map_map]
        rfl
      rw [e2] at e
      have e3 : ((((chunks 3 bs).map fun c => (⟨(fourL c).toArray⟩ : Str))).map TL.tl).flatten = ptext bs := by
        unfold ptext
        rw [List.map_map]
        rfl
      have hp := ptext_le bs
      refine ⟨Str.ofString "", D, _, rfl, rfl, .inl (.inl (.inl e)), ?_, ?_⟩
      · rw [sum_len, e3]
        show (ptext bs).length + _ * 0 ≤ 16777216
        omega
      have eJ := tl_join0 ((chunks 3 bs).map fun c => (⟨(fourL c).toArray⟩ : Str))
      rw [e3] at eJ
      generalize Txt.join (Str.ofString "") ((chunks 3 bs).map fun c => (⟨(fourL c).toArray⟩ : Str)) = J at eJ
      have hJ : J.length = (ptext bs).length := by rw [TL.len_tl, eJ]
      refine ⟨.str J, rfl, J, rfl, by rw [hJ]; exact Nat.le_of_lt (by rw [sizeLine_eq]; omega), 0, _, 60, (J.length + 59) / 60, rfl, rgC J.length 60 (by decide) (by decide) (by omega), fun D2 hD2 => ?_⟩
      refine lc_pure (fun i => .int (0 + ((i : Nat) : Int) * 60)) (fun i => .str ⟨(((ptext bs).drop (i * 60)).take 60).toArray⟩) walk_rangeC (fun _ _ => trivial) hD2 (by rw [sizeLine_eq]; omega) (fun i H3 Q3 hi s3 q3 => ?_) (fun H3 s3 e => ?_)
      · refine ⟨.str J, rfl, .int (0 + ((i : Nat) : Int) * 60), rfl, _, rfl, .int (0 + ((i : Nat) : Int) * 60), rfl, _, 60, rfl, rfl, 0 + ((i : Nat) : Int) * 60 + 60, rfl, J, rfl, by rw [hJ, sizeLine_eq]; omega, ?_⟩
        rw [show (0 : Int) + ((i : Nat) : Int) * 60 = ((i * 60 : Nat) : Int) by omega, show ((i * 60 : Nat) : Int) + 60 = ((i * 60 + 60 : Nat) : Int) by omega, cutS_at, Nat.add_sub_cancel_left, eJ]
        exact q3 _ (Same.refl _)
      · refine q H3 D2 (s1.trans (s2.trans s3)) ((s1.trans s2).free hD2) ?_
        rw [e, hJ]
        unfold rowsV chunks
        rw [List.map_map]
        rfl
end
end K20

namespace K20
open PySem PySem.Spec PyProof.Rows L2 LH
/-! ### headers and pieces as they stand -/
def hdF (n v : Str) : List (Str × V) := [("name", .str n), ("_said", .str v)]
def HdR (H : Hp) (C a : Addr) (n v : Str) : Prop := ∃ dx, H a = some (.ins C dx (hdF n v))
def pcF (h : Addr) (r p : V) : List (Str × V) := [("headers", .ref h), ("row", r), ("pieces", p)]
structure Hc (K : PySem.W.Frag) (mg : Str → Option Value) (C : Addr) : Prop where
  i : ClsI K C
  mg : mg "Header" = some (.ref C)
  n_name : NoAttr K C "name"
  n_said : NoAttr K C "_said"
structure Pc (K : PySem.W.Frag) (mg : Str → Option Value) (C : Addr) : Prop where
  i : ClsI K C
  mg : mg "Piece" = some (.ref C)
  n_headers : NoAttr K C "headers"
  n_row : NoAttr K C "row"
  n_pieces : NoAttr K C "pieces"
section
variable {P : Program} {w : World} {K : PySem.W.Frag} {mg : Str → Option Value} {base : Heap} {tk : Nat → Tok} {ca : Nat → Addr} {CH CP : Addr}
/-! ### Header___init__ -/
abbrev s_Header___init__ : Stmt := clsS 33 0
abbrev N_Header___init__ : List Str := ["self", "name", "text"]
abbrev P_Header___init__ : List Str := ["self", "name", "text"]
theorem sc_Header___init__ : FnScope N_Header___init__ ["self", "name", "text"] (defScope s_Header___init__) := ⟨rfl, rfl, rfl, by decide +kernel, rfl, by decide +kernel, by decide +kernel⟩
def sp_hinit (C : Addr) : Sp := fun vs H Q _ => ∃ (a dx : Addr) (n v : Str), vs = [.ref a, .str n, .str v] ∧ H a = some (.ins C dx []) ∧ ∀ H', SameBut a H H' → H' a = some (.ins C dx (hdF n v)) → Q .non H'
theorem ok_hinit {f : Addr} {fd : FuncData} (F : Fun K "__init__" "Header.__init__" s_Header___init__ f fd) (R_Header : Hc K mg CH) : FnOk P w K mg base CX0 1 f fd P_Header___init__ (sp_hinit CH) := by
  refine F.ok sc_Header___init__ (fun vs H Q E h => ?_) (fun cdv A outer s H vs Q E hr h => ?_)
  · obtain ⟨a, dx, n, v, rfl, _⟩ := h
    rfl
  · have nd := sc_Header___init__.nd
    obtain ⟨a, dx, n, v, rfl, e, q⟩ := h
    refine ⟨_, (pss_cons (ps_fld (pv 0) (pv 1) rfl)
      (pss_one (ps_fld (pv 0) (pv 2) rfl))), ?_⟩
    refine ⟨.str n, rfl, .ref a, rfl, a, CH, dx, [], rfl, e, R_Header.i.c, R_Header.n_name, (by show 0 < 1000; decide), ?_⟩
    refine ⟨.str v, rfl, .ref a, rfl, a, CH, dx, _, rfl, upd_same, R_Header.i.c, R_Header.n_said, (by show 1 < 1000; decide), ?_⟩
    exact q _ (SameBut.trans (SameBut.upd _ _ _) (SameBut.upd _ _ _)) upd_same
/-! ### Header_value -/
abbrev s_Header_value : Stmt := clsS 33 1
abbrev N_Header_value : List Str := ["self"]
abbrev P_Header_value : List Str := ["self"]
theorem sc_Header_value : FnScope N_Header_value ["self"] (defScope s_Header_value) := ⟨rfl, rfl, rfl, by decide +kernel, rfl, by decide +kernel, by decide +kernel⟩
def sp_hvalue (C : Addr) : Sp := fun vs H Q _ => ∃ (a : Addr) (n v : Str), vs = [.ref a] ∧ HdR H C a n v ∧ Tell H (.str v) Q
theorem ok_hvalue {f : Addr} {fd : FuncData} (F : Fun K "value" "Header.value" s_Header_value f fd) (R_Header : Hc K mg CH) : FnOk P w K mg base CX0 1 f fd P_Header_value (sp_hvalue CH) := by
  refine F.ok sc_Header_value (fun vs H Q E h => ?_) (fun cdv A outer s H vs Q E hr h => ?_)
  · obtain ⟨a, n, v, rfl, _⟩ := h
    rfl
  · have nd := sc_Header_value.nd
    obtain ⟨a, n, v, rfl, ⟨dx, e⟩, q⟩ := h
    refine ⟨_, (pss_one (ps_ret (pe_fld (pv 0) rfl))), ?_⟩
    exact ⟨.ref a, rfl, a, CH, dx, _, _, rfl, e, R_Header.i.c, R_Header.n_said, rfl, q _ (Same.refl _)⟩
/-! ### own_list -/
abbrev s_own_list : Stmt := topS 54
abbrev N_own_list : List Str := ["thing"]
abbrev P_own_list : List Str := ["thing"]
theorem sc_own_list : FnScope N_own_list ["thing"] (defScope s_own_list) := ⟨rfl, rfl, rfl, by decide +kernel, rfl, by decide +kernel, by decide +kernel⟩
def sp_own : Sp := fun vs H Q _ => (vs = [.non] ∧ Tell H .non Q) ∨ ∃ (a : Addr) (xs : List V), vs = [.ref a] ∧ H a = some (.lst xs) ∧ New H xs Q
theorem ok_own {f : Addr} {fd : FuncData} (F : Fun K "own_list" "own_list" s_own_list f fd) (T : Tx mg tk) : FnOk P w K mg base CX0 1 f fd P_own_list sp_own := by
  refine F.ok sc_own_list (fun vs H Q E h => ?_) (fun cdv A outer s H vs Q E hr h => ?_)
  · rcases h with ⟨rfl, _⟩ | ⟨a, xs, rfl, _⟩ <;> rfl
  · have nd := sc_own_list.nd
    rcases h with ⟨rfl, q⟩ | ⟨a, xs, rfl, e, q⟩
    · refine ⟨_, (pss_one (ps_ret (pe_ifExp (pt_val (pe_callB (cIsi K) (by rfl) T.n_isinstance (by decide +kernel) (pa_cons (pv 0) (pa_cons (pe_bltn (v := .ty "list") (by rfl) T.n_list (by decide +kernel) rfl) pa_nil)))) (pe_callTy call_list_of (by rfl) T.n_list (by decide +kernel) (pa_cons (pv 0) pa_nil)) (pv 0)))), ?_⟩
      exact ⟨.non, rfl, .non, .ty "list", _, _, false, rfl, .ty _, .base .non, kit_ty (by decide +kernel), false, rfl, iteF ⟨.non, rfl, q _ (Same.refl _)⟩⟩
    · refine ⟨_, (pss_one (ps_ret (pe_ifExp (pt_val (pe_callB (cIsi K) (by rfl) T.n_isinstance (by decide +kernel) (pa_cons (pv 0) (pa_cons (pe_bltn (v := .ty "list") (by rfl) T.n_list (by decide +kernel) rfl) pa_nil)))) (pe_callTy call_list_of (by rfl) T.n_list (by decide +kernel) (pa_cons (pv 0) pa_nil)) (pv 0)))), ?_⟩
      exact ⟨.ref a, rfl, .ref a, .ty "list", _, _, true, rfl, .ty _, .base (.lst e), kit_ty (by decide +kernel), true, rfl, iteT ⟨.ref a, rfl, a, xs, rfl, .inl (.inl (.inl e)), fun l hl => q _ l (same_upd hl) hl upd_same⟩⟩
/-! ### Piece___init__ -/
abbrev s_Piece___init__ : Stmt := clsS 53 0
abbrev N_Piece___init__ : List Str := ["self", "headers", "row", "pieces"]
abbrev P_Piece___init__ : List Str := ["self", "headers", "row", "pieces"]
theorem sc_Piece___init__ : FnScope N_Piece___init__ ["self", "headers", "row", "pieces"] (defScope s_Piece___init__) := ⟨rfl, rfl, rfl, by decide +kernel, rfl, by decide +kernel, by decide +kernel⟩
def sp_pinit (C : Addr) : Sp := fun vs H Q _ => ∃ (a dx hl rl : Addr) (hs rs : List V), vs = [.ref a, .ref hl, .ref rl, .non] ∧ H a = some (.ins C dx []) ∧ H hl = some (.lst hs) ∧ H rl = some (.lst rs) ∧ hl ≠ a ∧ rl ≠ a ∧
  ∀ H' h2 r2, SameBut a H H' → H' a = some (.ins C dx (pcF h2 (.ref r2) .non)) → H h2 = none → H r2 = none → H' h2 = some (.lst hs) → H' r2 = some (.lst rs) → Q .non H'
theorem ok_pinit {f f1 : Addr} {fd fd1 : FuncData} (F : FunD K "__init__" "Piece.__init__" (defArgs s_Piece___init__) (defBody s_Piece___init__) (defScope s_Piece___init__) [.non, .non] [] f fd) (R_Piece : Pc K mg CP) (D_own_list : Def P w K mg base "own_list" 1 f1 fd1 P_own_list sp_own) : FnOk P w K mg base CX0 2 f fd P_Piece___init__ (sp_pinit CP) := by
  refine okD F sc_Piece___init__ (fun vs H Q E h => ?_) (fun cdv A outer s H vs Q E hr h => ?_)
  · obtain ⟨a, dx, hl, rl, hs, rs, rfl, _⟩ := h
    rfl
  · have nd := sc_Piece___init__.nd
    obtain ⟨a, dx, hl, rl, hs, rs, rfl, e, eh, er, hn, rn, q⟩ := h
    refine ⟨_, (pss_cons (ps_fld (pv 0) (pe_def D_own_list (hr.mono (by decide)) (pa_cons (pv 1) pa_nil)) rfl)
      (pss_cons (ps_fld (pv 0) (pe_def D_own_list (hr.mono (by decide)) (pa_cons (pv 2) pa_nil)) rfl)
      (pss_one (ps_fld (pv 0) (pe_def D_own_list (hr.mono (by decide)) (pa_cons (pv 3) pa_nil)) rfl)))), ?_⟩
    refine ⟨.ref hl, rfl, .inr ⟨hl, hs, rfl, eh, fun H1 h2 s1 nh2 eh2 => ⟨.ref a, rfl, a, CP, dx, [], rfl, s1 _ _ e, R_Piece.i.c, R_Piece.n_headers, (by show 0 < 1000; decide), ?_⟩⟩⟩
    have h2a : h2 ≠ a := fun x => by rw [x, e] at nh2; exact nomatch nh2
    have b1 := (SameBut.of (a := a) s1).trans (SameBut.upd a H1 (.ins CP dx (putF "headers" (.ref h2) [])))
    refine ⟨.ref rl, rfl, .inr ⟨rl, rs, rfl, b1 _ _ rn er, fun H3 r2 s3 nr2 er2 => ⟨.ref a, rfl, a, CP, dx, _, rfl, s3 _ _ upd_same, R_Piece.i.c, R_Piece.n_row, (by show 1 < 1000; decide), ?_⟩⟩⟩
    have nr : H r2 = none := by
      cases hh : H r2 with
      | none => rfl
      | some o =>
        by_cases hra : r2 = a
        · rw [hra, upd_same] at nr2; exact nomatch nr2
        · rw [b1 _ _ hra hh] at nr2; exact nomatch nr2
    have r2a : r2 ≠ a := fun x => by rw [x, e] at nr; exact nomatch nr
    refine ⟨.non, rfl, .inl ⟨rfl, fun H4 s4 => ⟨.ref a, rfl, a, CP, dx, _, rfl, s4 _ _ upd_same, R_Piece.i.c, R_Piece.n_pieces, (by show 2 < 1000; decide), ?_⟩⟩⟩
    refine q _ h2 r2 ((b1.trans (SameBut.of s3)).trans ((SameBut.upd _ _ _).trans ((SameBut.of s4).trans (SameBut.upd _ _ _)))) upd_same nh2 nr ?_ ?_
    · rw [upd_ne h2a]
      refine s4 _ _ ?_
      rw [upd_ne h2a]
      refine s3 _ _ ?_
      rw [upd_ne h2a]
      exact eh2
    · rw [upd_ne r2a]
      refine s4 _ _ ?_
      rw [upd_ne r2a]
      exact er2
end
end K20

namespace K20
open PySem PySem.Spec PyProof.Rows L2 LH
/-! ### is it a piece -/
/-- headers: told by name and value -/
def HdsR (H : Hp) (C : Addr) : List Addr → List (Str × Str) → Prop
  | [], [] => True
  | a :: as, p :: ps => HdR H C a p.1 p.2 ∧ HdsR H C as ps
  | _, _ => False
def PcR (H : Hp) (CP CH a : Addr) (hs : List (Str × Str)) (l : List Nat) : Prop := ∃ dx h r as, H a = some (.ins CP dx (pcF h (.ref r) .non)) ∧ H h = some (.lst (as.map V.ref)) ∧ HdsR H CH as hs ∧ H r = some (.lst (nb l))
theorem HdsR.same {H H' : Hp} {C : Addr} (sm : Same H H') : ∀ {as : List Addr} {hs : List (Str × Str)}, HdsR H C as hs → HdsR H' C as hs
  | [], [], _ => trivial
  | _ :: _, _ :: _, h => ⟨let ⟨dx, e⟩ := h.1; ⟨dx, sm _ _ e⟩, HdsR.same sm h.2⟩
  | [], _ :: _, h => h.elim
  | _ :: _, [], h => h.elim
theorem HdsR.len {H : Hp} {C : Addr} : ∀ {as : List Addr} {hs : List (Str × Str)}, HdsR H C as hs → as.length = hs.length
  | [], [], _ => rfl
  | _ :: _, _ :: _, h => congrArg (· + 1) (HdsR.len h.2)
  | [], _ :: _, h => h.elim
  | _ :: _, [], h => h.elim
theorem HdsR.at {H : Hp} {C : Addr} : ∀ {as : List Addr} {hs : List (Str × Str)}, HdsR H C as hs → ∀ i, i < hs.length → HdR H C (as.getD i 0) (hs.getD i (Str.empty, Str.empty)).1 (hs.getD i (Str.empty, Str.empty)).2
  | [], [], _, i, hi => absurd hi (Nat.not_lt_zero i)
  | _ :: _, _ :: _, h, 0, _ => h.1
  | _ :: as, _ :: hs, h, i + 1, hi => HdsR.at (as := as) (hs := hs) h.2 i (Nat.lt_of_succ_lt_succ hi)
  | [], _ :: _, h, _, _ => h.elim
  | _ :: _, [], h, _, _ => h.elim
theorem PcR.same {H H' : Hp} {CP CH a : Addr} {hs : List (Str × Str)} {l : List Nat} (sm : Same H H') (h : PcR H CP CH a hs l) : PcR H' CP CH a hs l := by
  obtain ⟨dx, p, r, as, h1, h2, h3, h4⟩ := h
  exact ⟨dx, p, r, as, sm _ _ h1, sm _ _ h2, h3.same sm, sm _ _ h4⟩
theorem ref_at (as : List Addr) (i : Nat) (hi : i < as.length) : (as.map V.ref).getD i .non = .ref (as.getD i 0) := by
  rw [List.getD_eq_getElem?_getD, List.getElem?_map, List.getElem?_eq_getElem hi, List.getD_eq_getElem?_getD, List.getElem?_eq_getElem hi]
  rfl
section
variable {P : Program} {w : World} {K : PySem.W.Frag} {mg : Str → Option Value} {base : Heap} {tk : Nat → Tok} {ca : Nat → Addr} {CH CP : Addr}
/-! ### are_headers -/
abbrev s_are_headers : Stmt := topS 58
abbrev N_are_headers : List Str := ["thing", "header"]
abbrev P_are_headers : List Str := ["thing"]
theorem sc_are_headers : FnScope N_are_headers ["thing"] (defScope s_are_headers) := ⟨rfl, rfl, rfl, by decide +kernel, rfl, by decide +kernel, by decide +kernel⟩
def NoBody (hs : List (Str × Str)) : Prop := ∀ p ∈ hs, p.1 ≠ Str.ofString "body"
def sp_are (C : Addr) : Sp := fun vs H Q _ => ∃ (h : Addr) (as : List Addr) (hs : List (Str × Str)), vs = [.ref h] ∧ H h = some (.lst (as.map V.ref)) ∧ HdsR H C as hs ∧ NoBody hs ∧ hs.length ≤ 100 ∧ Tell H (.bl true) Q
theorem ok_are {f : Addr} {fd : FuncData} (F : Fun K "are_headers" "are_headers" s_are_headers f fd) (T : Tx mg tk) (R_Header : Hc K mg CH) : FnOk P w K mg base CX0 1 f fd P_are_headers (sp_are CH) := by
  refine F.ok sc_are_headers (fun vs H Q E h => ?_) (fun cdv A outer s H vs Q E hr h => ?_)
  · obtain ⟨a, as, hs, rfl, _⟩ := h
    rfl
  · have nd := sc_are_headers.nd
    obtain ⟨a, as, hs, rfl, ea, hh, hb, hl, q⟩ := h
    refine ⟨_, (pss_one (ps_ret (pe_and (pe_callB (cIsi K) (by rfl) T.n_isinstance (by decide +kernel) (pa_cons (pv 0) (pa_cons (pe_bltn (v := .ty "list") (by rfl) T.n_list (by decide +kernel) rfl) pa_nil))) (pe_one (pe_callB (cAll K) (by rfl) T.n_all (by decide +kernel) (pa_cons (pe_lc (own := [("header", 1)]) (g := gName 1) (by rfl) nd (pi_list (pv 0)) (blkOk_by (N := N_are_headers) (sc := defScope s_are_headers) (by decide +kernel)) (fun _ _ _ _ _ => (pg_name (i := 1) nd rfl (Or.inl rfl))) (fun _ _ _ _ _ => pts_nil) (fun _ _ _ _ _ => (pe_and (pe_callB (cIsi K) (by rfl) T.n_isinstance (by decide +kernel) (pa_cons (pv 1) (pa_cons (pe_glob (v := .ref CH) (by rfl) R_Header.mg rfl) pa_nil))) (pe_one (pe_cmpR op_ne (pe_fldK K (pv 1) rfl) (pe_glob (v := .str (Str.ofString "body")) (by rfl) T.m_BODY ⟨_, rfl⟩) (nomark _)))))) pa_nil)))))), ?_⟩
    have hal := hh.len
    have hm : (as.map V.ref).length = as.length := List.length_map ..
    refine andV true true (fun Q' q' => ⟨.ref a, rfl, .ref a, .ty "list", _, _, true, rfl, .ty _, .base (.lst ea), kit_ty (by decide +kernel), q' _ (Same.refl _)⟩) (fun _ H1 Q' s1 q' => ?_) (fun H2 s2 => q H2 s2)
    refine ⟨.ref a, rfl, a, rfl, ⟨_, .inl (.inl (s1 _ _ ea))⟩, fun D hD => lc_pure (fun i => (as.map V.ref).getD i .non) (fun _ => .bl true) walk_listF (fun H2 s2 => s2.seq (.inl (.inl (s1 _ _ ea)))) hD (by rw [hm, sizeLine_eq]; omega) (fun i H2 Q2 hi s2 q2 => ?_) (fun H2 s2 e => ⟨D, (List.range (as.map V.ref).length).map fun _ => true, rfl, .inl (.inl (by rw [e, List.map_map]; rfl)), ?_⟩)⟩
    · rw [hm] at hi
      rw [ref_at as i hi]
      obtain ⟨dx, e⟩ := (hh.same (s1.trans s2)).at i (by omega)
      have hne := hb (hs.getD i (Str.empty, Str.empty)) (by
        rw [List.getD_eq_getElem?_getD, List.getElem?_eq_getElem (by omega)]
        exact List.getElem_mem _)
      refine andV true true (fun Q' q' => ⟨.ref _, rfl, .ref _, .ref CH, _, _, true, rfl, .own CH, R_Header.i.ty e, R_Header.i.me, q' _ (Same.refl _)⟩) (fun _ H3 Q3 s3 q3 => ⟨.ref _, rfl, _, CH, dx, _, _, rfl, s3 _ _ e, R_Header.i.c, R_Header.n_name, rfl, rfl, ?_⟩) q2
      rw [decide_eq_false (fun h => hne (V.str.inj h))]
      exact q3 _ (Same.refl _)
    · rw [show (List.map (fun _ => true) (List.range (as.map V.ref).length)).all id = true by rw [List.all_map, List.all_eq_true]; exact fun _ _ => rfl]
      exact q' _ s2
/-! ### is_piece_at -/
abbrev s_is_piece_at : Stmt := topS 57
abbrev N_is_piece_at : List Str := ["thing", "deep", "piece"]
abbrev P_is_piece_at : List Str := ["thing", "deep"]
theorem sc_is_piece_at : FnScope N_is_piece_at ["thing", "deep"] (defScope s_is_piece_at) := ⟨rfl, rfl, rfl, by decide +kernel, rfl, by decide +kernel, by decide +kernel⟩
def sp_piece_at (CP CH : Addr) : Sp := fun vs H Q _ => ∃ (a : Addr) (d : Nat) (hs : List (Str × Str)) (l : List Nat), vs = [.ref a, .int (d : Nat)] ∧ d ≤ 4 ∧ PcR H CP CH a hs l ∧ NoBody hs ∧ hs.length ≤ 100 ∧ BytesN l ∧ l.length ≤ 100000 ∧ Tell H (.bl true) Q
theorem ok_piece_at {f f1 f2 f3 : Addr} {fd fd1 fd2 fd3 : FuncData} (F : Fun K "is_piece_at" "is_piece_at" s_is_piece_at f fd) (T : Tx mg tk) (R_Piece : Pc K mg CP) (D_are_headers : Def P w K mg base "are_headers" 1 f1 fd1 P_are_headers (sp_are CH)) (D_is_bytes : Def P w K mg base "is_bytes" 2 f2 fd2 P_is_bytes sp_is_bytes) (D_is_piece_at : Def P w K mg base "is_piece_at" 1 f3 fd3 P_is_piece_at sp_never) : FnOk P w K mg base CX0 3 f fd P_is_piece_at (sp_piece_at CP CH) := by
  refine F.ok sc_is_piece_at (fun vs H Q E h => ?_) (fun cdv A outer s H vs Q E hr h => ?_)
  · obtain ⟨a, d, hs, l, rfl, _⟩ := h
    rfl
  · have nd := sc_is_piece_at.nd
    obtain ⟨a, d, hs, l, rfl, hd, hp, hb, hl, hby, hll, q⟩ := h
    refine ⟨_, (pss_cons (ps_if (PW.pt (pw_or (pt_cmpR op_gt (pv 1) (pe_glob (v := .int 4) (by rfl) T.m_MOST_DEEP ⟨_, rfl⟩) (nomark _)) (pw_or (pt_not (pt_val (pe_callB (cIsi K) (by rfl) T.n_isinstance (by decide +kernel) (pa_cons (pv 0) (pa_cons (pe_glob (v := .ref CP) (by rfl) R_Piece.mg rfl) pa_nil))))) (pw_or1 (pt_not (pt_val (pe_def D_are_headers (hr.mono (by decide)) (pa_cons (pe_fld (pv 0) rfl) pa_nil))))))))
        (pss_one (ps_ret pe_bl))
        pss_nil)
      (pss_cons (ps_if (pt_cmpR op_isN (pe_fld (pv 0) rfl) pe_non (nomark _))
        (pss_one (ps_ret (pe_def D_is_bytes (hr.mono (by decide)) (pa_cons (pe_fld (pv 0) rfl) pa_nil))))
        pss_nil)
      (pss_cons (ps_if (PW.pt (pw_or (pt_cmpR op_notN (pe_fld (pv 0) rfl) pe_non (nomark _)) (pw_or (pt_not (pt_val (pe_callB (cIsi K) (by rfl) T.n_isinstance (by decide +kernel) (pa_cons (pe_fld (pv 0) rfl) (pa_cons (pe_bltn (v := .ty "list") (by rfl) T.n_list (by decide +kernel) rfl) pa_nil))))) (pw_or1 (pt_not (pt_chain op_le op_le pe_int (pe_callB (cLen K) (by rfl) T.n_len (by decide +kernel) (pa_cons (pe_fld (pv 0) rfl) pa_nil)) (pe_glob (v := .int 8) (by rfl) T.m_MOST_PIECES ⟨_, rfl⟩)))))))
        (pss_one (ps_ret pe_bl))
        pss_nil)
      (pss_one (ps_ret (pe_callB (cAll K) (by rfl) T.n_all (by decide +kernel) (pa_cons (pe_lc (own := [("piece", 2)]) (g := gName 2) (by rfl) nd (pi_list (pe_fld (pv 0) rfl)) (blkOk_by (N := N_is_piece_at) (sc := defScope s_is_piece_at) (by decide +kernel)) (fun _ _ _ _ _ => (pg_name (i := 2) nd rfl (Or.inl rfl))) (fun _ _ _ _ _ => pts_nil) (fun _ _ _ _ _ => (pe_def D_is_piece_at (hr.mono (by decide)) (pa_cons (pv 2) (pa_cons (pe_op op_add (pv 1) pe_int) pa_nil))))) pa_nil))))))), ?_⟩
    obtain ⟨dx, p, r, as, h1, h2, h3, h4⟩ := hp
    have hdd : decide (((4 : Int)) < (d : Nat)) = false := decide_eq_false (by omega)
    refine ifT false (fun k q1 => orT false false (fun k q2 => ⟨.int (d : Nat), rfl, _, 4, rfl, rfl, _, rfl, TellB.eq hdd q2 _ (Same.refl _)⟩) (fun _ H1 k s1 q2 => orT false false (fun k q3 => notT true (fun k q4 => ⟨.ref a, rfl, .ref a, .ref CP, _, _, true, rfl, .own CP, R_Piece.i.ty (s1 _ _ h1), R_Piece.i.me, true, rfl, q4 _ (Same.refl _)⟩) q3) (fun _ H2 k s2 q3 => notT true (fun k q4 => ⟨.ref a, rfl, a, CP, dx, _, _, rfl, s2 _ _ (s1 _ _ h1), R_Piece.i.c, R_Piece.n_headers, rfl, p, as, hs, rfl, s2 _ _ (s1 _ _ h2), (h3.same s1).same s2, hb, hl, fun H3 s3 => ⟨true, rfl, q4 _ s3⟩⟩) q3) q2) q1) (fun h => nomatch h) (fun _ H1 s1 => ?_)
    dsimp only [tNext, tSeq]
    refine ifT true (fun k q1 => ⟨.ref a, rfl, a, CP, dx, _, _, rfl, s1 _ _ h1, R_Piece.i.c, R_Piece.n_pieces, rfl, rfl, _, rfl, q1 _ (Same.refl _)⟩) (fun _ H2 s2 => ⟨.ref a, rfl, a, CP, dx, _, _, rfl, s2 _ _ (s1 _ _ h1), R_Piece.i.c, R_Piece.n_row, rfl, r, l, rfl, s2 _ _ (s1 _ _ h4), hby, hll, fun H3 s3 => q _ (s1.trans (s2.trans s3))⟩) (fun h => nomatch h)
/-! ### is_piece -/
abbrev s_is_piece : Stmt := topS 56
abbrev N_is_piece : List Str := ["thing"]
abbrev P_is_piece : List Str := ["thing"]
theorem sc_is_piece : FnScope N_is_piece ["thing"] (defScope s_is_piece) := ⟨rfl, rfl, rfl, by decide +kernel, rfl, by decide +kernel, by decide +kernel⟩
def sp_is_piece (CP CH : Addr) : Sp := fun vs H Q _ => ∃ (a : Addr) (hs : List (Str × Str)) (l : List Nat), vs = [.ref a] ∧ PcR H CP CH a hs l ∧ NoBody hs ∧ hs.length ≤ 100 ∧ BytesN l ∧ l.length ≤ 100000 ∧ Tell H (.bl true) Q
theorem ok_is_piece {f f1 : Addr} {fd fd1 : FuncData} (F : Fun K "is_piece" "is_piece" s_is_piece f fd) (T : Tx mg tk) (D_is_piece_at : Def P w K mg base "is_piece_at" 3 f1 fd1 P_is_piece_at (sp_piece_at CP CH)) : FnOk P w K mg base CX0 4 f fd P_is_piece (sp_is_piece CP CH) := by
  refine F.ok sc_is_piece (fun vs H Q E h => ?_) (fun cdv A outer s H vs Q E hr h => ?_)
  · obtain ⟨a, hs, l, rfl, _⟩ := h
    rfl
  · have nd := sc_is_piece.nd
    obtain ⟨a, hs, l, rfl, hp, hb, hl, hby, hll, q⟩ := h
    refine ⟨_, (pss_one (ps_ret (pe_def D_is_piece_at (hr.mono (by decide)) (pa_cons (pv 0) (pa_cons pe_int pa_nil))))), ?_⟩
    exact ⟨.ref a, rfl, a, 1, hs, l, rfl, by decide, hp, hb, hl, hby, hll, q⟩
end
end K20

namespace K20
open PySem PySem.Spec PyProof.Rows L2 LH
/-! ### bytes written -/
theorem unit_last {b : Nat} (h : b < 256) : uL b = [32] ∨ (uL b).getLast? ≠ some 32 := by
  have : ∀ d : Fin 256, uL d.val = [32] ∨ (uL d.val).getLast? ≠ some 32 := by decide +kernel
  exact this ⟨b, h⟩
theorem fix_units_last {l : List Nat} (h : BytesN l) : ∀ u ∈ fixL (l.map uL), u = [32] ∨ u.getLast? ≠ some 32 := fun u hu => by
  unfold fixL at hu
  split at hu
  · rcases List.mem_append.mp hu with hu | hu
    · obtain ⟨b, hb, rfl⟩ := List.mem_map.mp (List.dropLast_subset _ hu)
      exact unit_last (h b hb)
    · rw [List.mem_singleton.mp hu]
      exact .inr (by decide +kernel)
  · obtain ⟨b, hb, rfl⟩ := List.mem_map.mp hu
    exact unit_last (h b hb)
theorem rows16_good {l : List Nat} (h : BytesN l) : ∀ x ∈ rows16 l, (x.length ≤ 60 ∧ x.getLast? ≠ some 32) ∧ ∀ c ∈ x, c < 128 := fun x hx => by
  unfold rows16 at hx
  obtain ⟨p, hp, hx⟩ := List.mem_flatten.mp hx
  obtain ⟨q, hq, rfl⟩ := List.mem_map.mp hp
  have hb := (parts_ok h q hq).1
  have hU := units_fix (units_map hb)
  refine ⟨cutR_good _ [] hU (.inl (by decide)) (fun _ => by simp) (fun _ => fix_last _) (fix_units_last hb) x hx, cutR_low _ [] hU (fun _ h => by cases h) x hx⟩
theorem rows16_okS {l : List Nat} (h : BytesN l) : ∀ x ∈ strL (rows16 l), OkS x := fun x hx => by
  obtain ⟨u, hu, rfl⟩ := List.mem_map.mp hx
  intro c hc
  have := (rows16_good h u hu).2 c hc
  omega

theorem dp_nbs {K : PySem.W.Frag} {H : Hp} {a : Addr} {l : List Nat} (h : H a = some (.lst (nb l))) : Dp K H (.ref a) (.list ((l.map fun b => ((b : Nat) : Int)).map PyData.int)) := dp_ints (.inl (.inl (by rw [h]; unfold nb; rw [List.map_map]; rfl)))
theorem strL_at (us : List (List Nat)) (i : Nat) (h : i < us.length) : ((strL us).map V.str).getD i .non = .str ⟨(us.getD i []).toArray⟩ := by
  rw [List.getD_eq_getElem?_getD, List.getElem?_map]
  unfold strL
  rw [List.getElem?_map, List.getElem?_eq_getElem h, List.getD_eq_getElem?_getD, List.getElem?_eq_getElem h]
  rfl
def zl (l : List Nat) : List Int := l.map fun b => ((b : Nat) : Int)
theorem nb_zl (l : List Nat) : nb l = (zl l).map V.int := by unfold nb zl; rw [List.map_map]; rfl
theorem zl_bytes {l : List Nat} (h : BytesN l) : Bytes (zl l) := fun b hb => by
  obtain ⟨x, hx, rfl⟩ := List.mem_map.mp hb
  have := h x hx
  omega
theorem zl_len (l : List Nat) : (zl l).length = l.length := List.length_map ..
theorem zl_inj {a b : List Nat} (h : zl a = zl b) : a = b := by
  unfold zl at h
  exact (List.map_inj_right (fun x y e => by omega)).mp h
def rows60 (l : List Nat) : List (List Nat) := chunks 60 (ptext (zl l))
theorem rowsV_60 (l : List Nat) : rowsV (ptext (zl l)) = (strL (rows60 l)).map V.str := by
  unfold rowsV rows60 strL
  rw [List.map_map]
  rfl
theorem rows60_len (l : List Nat) : ∀ x ∈ rows60 l, x.length ≤ 60 := fun x hx => by
  obtain ⟨i, _, rfl⟩ := List.mem_map.mp hx
  rw [List.length_take]
  omega
def plainLn (x : List Nat) : Bool := decide (x.length ≤ 60) && (x.all isSgn && !decide (x.getLast? = some 32))
def manyL (rows : List (List Nat)) : Nat := (rows.map fun r => r.length + 1).sum
def bodyW (l : List Nat) : Str × List (List Nat) :=
  if (splitL 10 l).all plainLn = true then (Str.ofString "plain", splitL 10 l)
  else if manyL (rows16 l) ≤ manyL (rows60 l) then (Str.ofString "sixteens", rows16 l) else (Str.ofString "sixty", rows60 l)
theorem splitL_sum (s : Nat) : ∀ l : List Nat, ((splitL s l).map fun p => p.length + 1).sum = l.length + 1
  | [] => rfl
  | c :: r => by
    have ih := splitL_sum s r
    have hne := splitL_ne s r
    unfold splitL
    split
    · rw [List.map_cons, List.sum_cons, ih, List.length_cons]
      simp only [List.length_nil]
      omega
    · obtain ⟨x, y, e⟩ := List.exists_cons_of_ne_nil hne
      rw [e] at ih ⊢
      rw [List.map_cons, List.sum_cons] at ih
      show (((c :: x) :: y).map fun p => p.length + 1).sum = _
      rw [List.map_cons, List.sum_cons, List.length_cons, List.length_cons]
      omega
theorem rows16_count (l : List Nat) : (rows16 l).length ≤ l.length + 1 := by
  unfold rows16
  rw [List.length_flatten, List.map_map, ← splitL_sum 10 l]
  generalize splitL 10 l = ps
  induction ps with
  | nil => exact Nat.le_refl _
  | cons p r ih =>
    rw [List.map_cons, List.map_cons, List.sum_cons, List.sum_cons]
    have := lineR_many p
    show (lineR p).length + _ ≤ _
    omega
theorem Tell.eq {H : Hp} {v v' : V} {Q : VK} (h : v = v') (q : Tell H v' Q) : Tell H v Q := h ▸ q
theorem sum_nat {α : Type} (l : List α) (f : α → Nat) : (l.map fun x => ((f x : Nat) : Int)).sum = (((l.map f).sum : Nat) : Int) := by
  induction l with
  | nil => rfl
  | cons x r ih => rw [List.map_cons, List.sum_cons, List.map_cons, List.sum_cons, ih]; omega
theorem map_range {α β : Type} (l : List α) (d : α) (f : α → β) : (List.range l.length).map (fun i => f (l.getD i d)) = l.map f := by
  have := congrArg (List.map f) (LH.range_getD l d)
  rw [List.map_map] at this
  exact this
theorem splitL_plain {l : List Nat} (h : BytesN l) : ∀ x ∈ splitL 10 l, BytesN x ∧ x.length ≤ l.length := parts_ok h
theorem plain_sgn {x : List Nat} (h : plainLn x = true) : ∀ c ∈ x, isSgn c = true := by
  have h2 : (decide (x.length ≤ 60) && (x.all isSgn && !decide (x.getLast? = some 32))) = true := h
  rw [Bool.and_eq_true, Bool.and_eq_true] at h2
  exact List.all_eq_true.mp h2.2.1
theorem plain_len {x : List Nat} (h : plainLn x = true) : x.length ≤ 60 := by
  have h2 : (decide (x.length ≤ 60) && (x.all isSgn && !decide (x.getLast? = some 32))) = true := h
  rw [Bool.and_eq_true] at h2
  exact of_decide_eq_true h2.1
theorem flat_ones (x : List Nat) : (x.map (TL.tl ∘ fun c => (⟨#[c]⟩ : Str))).flatten = x := by
  induction x with
  | nil => rfl
  | cons c r ih => rw [List.map_cons, List.flatten_cons, ih]; rfl
theorem rows60_many (l : List Nat) : (rows60 l).length ≤ l.length + 1 := by
  unfold rows60
  rw [chunks_len]
  have := ptext_le (zl l)
  rw [zl_len] at this
  omega
section
variable {P : Program} {w : World} {K : PySem.W.Frag} {mg : Str → Option Value} {base : Heap} {tk : Nat → Tok} {ca : Nat → Addr} {CH CP : Addr}
/-! ### many_signs -/
abbrev s_many_signs : Stmt := topS 62
abbrev N_many_signs : List Str := ["rows", "row"]
abbrev P_many_signs : List Str := ["rows"]
theorem sc_many_signs : FnScope N_many_signs ["rows"] (defScope s_many_signs) := ⟨rfl, rfl, rfl, by decide +kernel, rfl, by decide +kernel, by decide +kernel⟩
def sp_many : Sp := fun vs H Q _ => ∃ (a : Addr) (R : List (List Nat)), vs = [.ref a] ∧ H a = some (.lst ((strL R).map V.str)) ∧ (∀ x ∈ R, x.length ≤ 60) ∧ R.length ≤ 100000 ∧ Tell H (.int (manyL R : Nat)) Q
theorem ok_many {f : Addr} {fd : FuncData} (F : Fun K "many_signs" "many_signs" s_many_signs f fd) (T : Tx mg tk) : FnOk P w K mg base CX0 1 f fd P_many_signs sp_many := by
  refine F.ok sc_many_signs (fun vs H Q E h => ?_) (fun cdv A outer s H vs Q E hr h => ?_)
  · obtain ⟨a, R, rfl, _⟩ := h
    rfl
  · have nd := sc_many_signs.nd
    obtain ⟨a, R, rfl, ea, hx, hR, q⟩ := h
    refine ⟨_, (pss_one (ps_ret (pe_callB (cr_sum rfl) (by rfl) T.n_sum (by decide +kernel) (pa_cons (pe_lc (own := [("row", 1)]) (g := gName 1) (by rfl) nd (pi_list (pv 0)) (blkOk_by (N := N_many_signs) (sc := defScope s_many_signs) (by decide +kernel)) (fun _ _ _ _ _ => (pg_name (i := 1) nd rfl (Or.inl rfl))) (fun _ _ _ _ _ => pts_nil) (fun _ _ _ _ _ => (pe_op op_add (pe_callB call_len_str (by rfl) T.n_len (by decide +kernel) (pa_cons (pv 1) pa_nil)) pe_int))) pa_nil)))), ?_⟩
    have hm : ((strL R).map V.str).length = R.length := by rw [List.length_map, strL_len]
    refine ⟨.ref a, rfl, a, rfl, ⟨_, .inl (.inl ea)⟩, fun D hD => lc_pure (fun i => ((strL R).map V.str).getD i .non) (fun i => .int (((R.getD i []).length + 1 : Nat) : Int)) walk_listF (fun H2 s2 => s2.seq (.inl (.inl ea))) hD (by rw [hm, sizeLine_eq]; omega) (fun i H2 Q2 hi s2 q2 => ?_) (fun H2 s2 e => ?_)⟩
    · rw [hm] at hi
      rw [strL_at R i hi]
      have := hx _ (getD_mem R [] hi)
      refine ⟨_, rfl, _, rfl, by rw [mk_len, sizeLine_eq]; omega, _, _, rfl, rfl, ?_⟩
      have he : ((⟨(R.getD i []).toArray⟩ : Str).length : Int) + 1 = (((R.getD i []).length + 1 : Nat) : Int) := by rw [mk_len]; omega
      exact Tell.eq (congrArg V.int he) q2 _ (Same.refl _)
    · refine ⟨D, R.map fun r => ((r.length + 1 : Nat) : Int), rfl, .inl (.inl ?_), ?_⟩
      · rw [e, hm]
        have := congrArg (List.map fun r => V.int ((r.length + 1 : Nat) : Int)) (LH.range_getD R [])
        rw [List.map_map] at this
        rw [List.map_map]
        exact congrArg (fun x => some (HO.lst x)) this
      · rw [sum_nat R (fun r => r.length + 1)]
        exact q _ s2
/-! ### is_plain_line -/
abbrev s_is_plain_line : Stmt := topS 61
abbrev N_is_plain_line : List Str := ["line", "byte"]
abbrev P_is_plain_line : List Str := ["line"]
theorem sc_is_plain_line : FnScope N_is_plain_line ["line"] (defScope s_is_plain_line) := ⟨rfl, rfl, rfl, by decide +kernel, rfl, by decide +kernel, by decide +kernel⟩
def sp_plain : Sp := fun vs H Q _ => ∃ (a : Addr) (l : List Nat), vs = [.ref a] ∧ H a = some (.lst (nb l)) ∧ BytesN l ∧ l.length ≤ 100000 ∧ Tell H (.bl (plainLn l)) Q
theorem ok_plain {f f1 : Addr} {fd fd1 : FuncData} (F : Fun K "is_plain_line" "is_plain_line" s_is_plain_line f fd) (T : Tx mg tk) (D_is_sign_byte : Def P w K mg base "is_sign_byte" 1 f1 fd1 P_is_sign_byte sp_sign_byte) : FnOk P w K mg base CX0 2 f fd P_is_plain_line sp_plain := by
  refine F.ok sc_is_plain_line (fun vs H Q E h => ?_) (fun cdv A outer s H vs Q E hr h => ?_)
  · obtain ⟨a, l, rfl, _⟩ := h
    rfl
  · have nd := sc_is_plain_line.nd
    obtain ⟨a, l, rfl, ea, hb, hl, q⟩ := h
    refine ⟨_, (pss_one (ps_ret (pe_and (pe_cmpR op_le (pe_callB (cLen K) (by rfl) T.n_len (by decide +kernel) (pa_cons (pv 0) pa_nil)) (pe_glob (v := .int 60) (by rfl) T.m_ROW_SIGNS ⟨_, rfl⟩) (nomark _)) (pe_and (pe_callB (cAll K) (by rfl) T.n_all (by decide +kernel) (pa_cons (pe_lc (own := [("byte", 1)]) (g := gName 1) (by rfl) nd (pi_list (pv 0)) (blkOk_by (N := N_is_plain_line) (sc := defScope s_is_plain_line) (by decide +kernel)) (fun _ _ _ _ _ => (pg_name (i := 1) nd rfl (Or.inl rfl))) (fun _ _ _ _ _ => pts_nil) (fun _ _ _ _ _ => (pe_def D_is_sign_byte (hr.mono (by decide)) (pa_cons (pv 1) pa_nil)))) pa_nil)) (pe_one (pe_cmpR (oNeD K hr.units) (pe_slice (slL K) (pv 0) (po_some (pe_un un_neg pe_int)) po_none) (pe_lst (pa_cons (pe_callB call_ord (by rfl) T.n_ord (by decide +kernel) (pa_cons pe_str pa_nil)) pa_nil)) (nomark _))))))), ?_⟩
    have e60 : decide (((nb l).length : Int) ≤ 60) = decide (l.length ≤ 60) := by rw [nb_len]; exact decide_eq_decide.mpr (by omega)
    have eq : plainLn l = (decide (l.length ≤ 60) && (l.all isSgn && !decide (l.getLast? = some 32))) := rfl
    rw [eq] at q
    refine andV (decide (l.length ≤ 60)) (l.all isSgn && !decide (l.getLast? = some 32)) (fun Q' q' => ⟨.ref a, rfl, a, nb l, rfl, .inl (.inl (.inl ea)), _, _, rfl, rfl, Tell.eq (congrArg V.bl e60) q' _ (Same.refl _)⟩) (fun _ H1 Q' s1 q' => ?_) q
    refine andV (l.all isSgn) (!decide (l.getLast? = some 32)) (fun Q2 q2 => ?_) (fun _ H2 Q2 s2 q2 => ?_) q'
    · refine ⟨.ref a, rfl, a, rfl, ⟨_, .inl (.inl (s1 _ _ ea))⟩, fun D hD => lc_pure (fun i => (nb l).getD i .non) (fun i => .bl (isSgn (l.getD i 0))) walk_listF (fun H2 s2 => s2.seq (.inl (.inl (s1 _ _ ea)))) hD (by rw [nb_len, sizeLine_eq]; omega) (fun i H2 Q2 hi s2 q2 => ?_) (fun H2 s2 e => ⟨D, (List.range l.length).map fun i => isSgn (l.getD i 0), rfl, .inl (.inl (by rw [e, List.map_map, nb_len]; rfl)), ?_⟩)⟩
      · rw [nb_len] at hi
        rw [nb_at l hi]
        exact ⟨_, rfl, _, rfl, q2⟩
      · rw [lall_range]
        exact q2 _ s2
    · have s3 := s1.trans s2
      refine ⟨.ref a, rfl, 1, rfl, _, rfl, a, _, rfl, .inl (.inl (s3 _ _ ea)), fun g ng => ⟨Str.ofString " ", rfl, by decide +kernel, ⟨Nat.le_of_lt (small1000 (show 1 ≤ 1000 by decide)), fun g2 ng2 => ?_⟩⟩⟩
      have t1 := same_upd (o := .lst (cutV (nb l) (some (-1)) none)) ng
      have ecut : cutV (nb l) (some (-1)) none = (((zl l).drop (l.length - 1)).map V.int) := by rw [cutV_last, nb_len, nb_zl, List.map_drop]
      rw [ecut] at t1 ng2 ⊢
      refine ⟨_, _, dp_ints (.inl (.inl (same_upd ng2 _ _ upd_same))), dp_ints (bs := [32]) (.inl (.inl upd_same)), shaped_intsL _, shaped_intsL _, ?_⟩
      refine Tell.eq (congrArg V.bl (congrArg not ?_)) q2 _ (t1.trans (same_upd ng2))
      rw [eqv_intsL]
      refine decide_eq_decide.mpr ?_
      rw [show ([32] : List Int) = zl [32] from rfl, ← drop_last_eq, show (zl l).drop (l.length - 1) = zl (l.drop (l.length - 1)) from (List.map_drop ..).symm]
      exact ⟨zl_inj, congrArg _⟩
/-! ### written_bytes -/
abbrev s_written_bytes : Stmt := topS 60
abbrev N_written_bytes : List Str := ["row", "lines", "sixteens", "sixty", "line", "byte"]
abbrev P_written_bytes : List Str := ["row"]
theorem sc_written_bytes : FnScope N_written_bytes ["row"] (defScope s_written_bytes) := ⟨rfl, rfl, rfl, by decide +kernel, rfl, by decide +kernel, by decide +kernel⟩
def NewBody (H : Hp) (b : Str × List (List Nat)) (Q : VK) : Prop := ∀ H' t p, Same H H' → H' t = some (.tup [.str b.1, .ref p]) → H' p = some (.lst ((strL b.2).map V.str)) → Q (.ref t) H'
def sp_wbytes : Sp := fun vs H Q _ => ∃ (a : Addr) (l : List Nat), vs = [.ref a] ∧ H a = some (.lst (nb l)) ∧ BytesN l ∧ l.length ≤ 4040 ∧ NewBody H (bodyW l) Q
theorem ok_wbytes {f f1 f2 f3 f4 f5 f6 : Addr} {fd fd1 fd2 fd3 fd4 fd5 fd6 : FuncData} (F : Fun K "written_bytes" "written_bytes" s_written_bytes f fd) (T : Tx mg tk) (D_lines_of : Def P w K mg base "lines_of" 1 f1 fd1 P_lines_of sp_lines) (D_is_plain_line : Def P w K mg base "is_plain_line" 2 f2 fd2 P_is_plain_line sp_plain) (D_sign_of_byte : Def P w K mg base "sign_of_byte" 1 f3 fd3 P_sign_of_byte sp_sign_of)
    (D_sixteens_of : Def P w K mg base "sixteens_of" 4 f4 fd4 P_sixteens_of sp_sixteens) (D_sixty_of : Def P w K mg base "sixty_of" 3 f5 fd5 P_sixty_of (sp_sixty_of ptext)) (D_many_signs : Def P w K mg base "many_signs" 1 f6 fd6 P_many_signs sp_many) : FnOk P w K mg base CX0 5 f fd P_written_bytes sp_wbytes := by
  refine F.ok sc_written_bytes (fun vs H Q E h => ?_) (fun cdv A outer s H vs Q E hr h => ?_)
  · obtain ⟨a, l, rfl, _⟩ := h
    rfl
  · have nd := sc_written_bytes.nd
    obtain ⟨a, l, rfl, ea, hb, hl, q⟩ := h
    refine ⟨_, (pss_cons (ps_set (i := 1) nd rfl (.inl rfl) (pe_def D_lines_of (hr.mono (by decide)) (pa_cons (pv 0) pa_nil)))
      (pss_cons (ps_if (pt_val (pe_callB (cAll K) (by rfl) T.n_all (by decide +kernel) (pa_cons (pe_lc (own := [("line", 4)]) (g := gName 4) (by rfl) nd (pi_list (pv 1)) (blkOk_by (N := N_written_bytes) (sc := defScope s_written_bytes) (by decide +kernel)) (fun _ _ _ _ _ => (pg_name (i := 4) nd rfl (Or.inl rfl))) (fun _ _ _ _ _ => pts_nil) (fun _ _ _ _ _ => (pe_def D_is_plain_line (hr.mono (by decide)) (pa_cons (pv 4) pa_nil)))) pa_nil)))
        (pss_one (ps_ret (pe_tup (pa_cons (pe_glob (v := .str (Str.ofString "plain")) (by rfl) T.m_PLAIN ⟨_, rfl⟩) (pa_cons (pe_lc (own := [("line", 4)]) (g := gName 4) (by rfl) nd (pi_list (pv 1)) (blkOk_by (N := N_written_bytes) (sc := defScope s_written_bytes) (by decide +kernel)) (fun _ _ _ _ _ => (pg_name (i := 4) nd rfl (Or.inl rfl))) (fun _ _ _ _ _ => pts_nil) (fun _ _ _ _ _ => (pe_joinK K pe_str (pe_lc (own := [("byte", 5)]) (g := gName 5) (by rfl) nd (pi_listK K (pv 4)) (blkOk_by (N := N_written_bytes) (by rfl)) (fun _ _ _ _ _ => (pg_name (i := 5) nd rfl (Or.inl rfl))) (fun _ _ _ _ _ => pts_nil) (fun _ _ _ _ _ => (pe_def D_sign_of_byte (hr.mono (by decide)) (pa_cons (pv 5) pa_nil))))))) pa_nil)))))
        pss_nil)
      (pss_cons (ps_set (i := 2) nd rfl (.inl rfl) (pe_def D_sixteens_of (hr.mono (by decide)) (pa_cons (pv 0) pa_nil)))
      (pss_cons (ps_set (i := 3) nd rfl (.inl rfl) (pe_def D_sixty_of (hr.mono (by decide)) (pa_cons (pv 0) pa_nil)))
      (pss_cons (ps_if (pt_cmpR op_le (pe_def D_many_signs (hr.mono (by decide)) (pa_cons (pv 2) pa_nil)) (pe_def D_many_signs (hr.mono (by decide)) (pa_cons (pv 3) pa_nil)) (nomark _))
        (pss_one (ps_ret (pe_tup (pa_cons (pe_glob (v := .str (Str.ofString "sixteens")) (by rfl) T.m_SIXTEENS ⟨_, rfl⟩) (pa_cons (pv 2) pa_nil)))))
        pss_nil)
      (pss_one (ps_ret (pe_tup (pa_cons (pe_glob (v := .str (Str.ofString "sixty")) (by rfl) T.m_SIXTY ⟨_, rfl⟩) (pa_cons (pv 3) pa_nil)))))))))), ?_⟩
    dsimp only [gName, tSeq, tAsg]
    refine ⟨.ref a, rfl, a, l, rfl, ea, by omega, fun H1 p ts s1 np ep htl hts => ?_⟩
    have hpo := parts_ok hb
    have hpl := splitL_len 10 l
    unfold bodyW at q
    generalize hps : splitL 10 l = ps at *
    have hm : (ts.map V.ref).length = ps.length := by rw [List.length_map, htl]
    have hx : ∀ i, i < ps.length → (ts.map V.ref).getD i .non = .ref (ts.getD i 0) := fun i hi => ref_at ts i (by omega)
    refine ifT (ps.all plainLn) (fun k q1 => ?_) (fun hc H2 s2 => ?_) (fun hc H2 s2 => ?_)
    · refine ⟨.ref p, rfl, p, rfl, ⟨_, .inl (.inl ep)⟩, fun D hD => lc_pure (fun i => (ts.map V.ref).getD i .non) (fun i => .bl (plainLn (ps.getD i []))) walk_listF (fun H2 s2 => s2.seq (.inl (.inl ep))) hD (by rw [hm, sizeLine_eq]; omega) (fun i H2 Q2 hi s2 q2 => ?_) (fun H2 s2 e => ⟨D, (List.range ps.length).map fun i => plainLn (ps.getD i []), rfl, .inl (.inl (by rw [e, List.map_map, hm]; rfl)), ?_⟩)⟩
      · rw [hm] at hi
        rw [hx i hi]
        have hpi := hpo _ (getD_mem ps [] hi)
        exact ⟨_, rfl, _, _, rfl, s2 _ _ (hts i hi).1, hpi.1, by omega, q2⟩
      · rw [lall_range]
        exact ⟨_, rfl, q1 _ s2⟩
    · rw [if_pos hc] at q
      have s12 := s1.trans s2
      refine ⟨.ref p, rfl, p, rfl, ⟨_, .inl (.inl (s2 _ _ ep))⟩, fun D hD => lc_pure (fun i => (ts.map V.ref).getD i .non) (fun i => .str ⟨(ps.getD i []).toArray⟩) walk_listF (fun H3 s3 => s3.seq (.inl (.inl (s2 _ _ ep)))) hD (by rw [hm, sizeLine_eq]; omega) (fun i H3 Q2 hi s3 q2 => ?_) (fun H3 s3 e => ?_)⟩
      · rw [hm] at hi
        rw [hx i hi]
        have hpi := hpo _ (getD_mem ps [] hi)
        have hpl2 : plainLn (ps.getD i []) = true := List.all_eq_true.mp hc _ (getD_mem ps [] hi)
        have et := (s2.trans s3) _ _ (hts i hi).1
        generalize ps.getD i [] = x at hpi hpl2 et q2
        refine ⟨⟨_, rfl⟩, .ref (ts.getD i 0), rfl, ts.getD i 0, rfl, ⟨_, .inl (.inl et)⟩, fun D2 hD2 => lc_pure (fun j => (nb x).getD j .non) (fun j => .str ⟨#[x.getD j 0]⟩) walk_listF (fun H4 s4 => s4.seq (.inl (.inl et))) hD2 (by rw [nb_len, sizeLine_eq]; omega) (fun j H4 Q4 hj s4 q4 => ?_) (fun H4 s4 e4 => ?_)⟩
        · rw [nb_len] at hj
          rw [nb_at x hj]
          exact ⟨_, rfl, _, rfl, plain_sgn hpl2 _ (getD_mem x 0 hj), q4⟩
        · refine ⟨_, D2, x.map fun c => ⟨#[c]⟩, rfl, rfl, .inl (.inl (.inl ?_)), ?_, ?_⟩
          · rw [e4, nb_len]
            have := map_range x 0 (fun c => V.str ⟨#[c]⟩)
            rw [this, List.map_map]
            rfl
          · have := plain_len hpl2
            rw [sum_len, List.length_map, show (Str.ofString "").length = 0 by decide +kernel]
            have h3 := flatten_le (k := 1) ((x.map fun c => (⟨#[c]⟩ : Str)).map TL.tl) (fun y hy => by
              obtain ⟨z, hz, rfl⟩ := List.mem_map.mp hy
              obtain ⟨c, _, rfl⟩ := List.mem_map.mp hz
              exact Nat.le_refl _)
            rw [List.length_map, List.length_map] at h3
            omega
          · refine Tell.eq (congrArg V.str (TL.ext_tl ?_)) q2 _ s4
            rw [tl_join0, List.map_map]
            exact flat_ones x
      · refine ⟨by show 2 ≤ sizeLine; rw [sizeLine_eq]; omega, fun t nt => q _ t D (s12.trans (s3.trans (same_upd nt))) upd_same (same_upd nt _ _ ?_)⟩
        rw [e, hm]
        have := map_range ps [] (fun x => V.str ⟨x.toArray⟩)
        rw [this]
        unfold strL
        rw [List.map_map]
        rfl
    · rw [if_neg (by rw [hc]; exact Bool.false_ne_true)] at q
      dsimp only [tNext]
      have s12 := s1.trans s2
      refine ⟨.ref a, rfl, a, l, rfl, s12 _ _ ea, hb, by omega, fun H3 p3 s3 n3 e3 => ⟨.ref a, rfl, a, zl l, rfl, by rw [s3 _ _ (s12 _ _ ea), nb_zl], zl_bytes hb, by rw [zl_len]; omega, fun H4 p4 s4 n4 e4 => ?_⟩⟩
      dsimp only [tSeq]
      rw [rowsV_60] at e4
      have h16 := rows16_good hb
      have h16c := rows16_count l
      refine ifT (decide (manyL (rows16 l) ≤ manyL (rows60 l))) (fun k q1 => ⟨.ref p3, rfl, p3, rows16 l, rfl, s4 _ _ e3, fun x hx => (h16 x hx).1.1, by omega, fun H5 s5 => ⟨.ref p4, rfl, p4, rows60 l, rfl, s5 _ _ e4, rows60_len l, ?_, fun H6 s6 => ?_⟩⟩) (fun hc2 H5 s5 => ?_) (fun hc2 H5 s5 => ?_)
      · have := rows60_many l
        omega
      · exact ⟨_, _, rfl, rfl, _, rfl, TellB.eq (decide_eq_decide.mpr (by omega)) q1 _ (s5.trans s6)⟩
      · rw [if_pos (of_decide_eq_true hc2)] at q
        exact ⟨.ref p3, rfl, by show 2 ≤ sizeLine; rw [sizeLine_eq]; omega, fun t nt => q _ t p3 (s12.trans (s3.trans (s4.trans (s5.trans (same_upd nt))))) upd_same (same_upd nt _ _ (s5 _ _ (s4 _ _ e3)))⟩
      · rw [if_neg (of_decide_eq_false hc2)] at q
        exact ⟨.ref p4, rfl, by show 2 ≤ sizeLine; rw [sizeLine_eq]; omega, fun t nt => q _ t p4 (s12.trans (s3.trans (s4.trans (s5.trans (same_upd nt))))) upd_same (same_upd nt _ _ (s5 _ _ e4))⟩
end
end K20

namespace K20
open PySem PySem.Spec PyProof.Rows L2 LH
/-! ### the classes of refusals -/
/-- what isinstance says of its objects, class by class -/
def KitRow (K : PySem.W.Frag) (ca : Nat → Addr) (C : Addr) (row : List Bool) : Prop := row.length = 7 ∧ ∀ j, j < 7 → PySem.W.kitOne K (.ref C) (.ref (ca (j + 1))) = some (row.getD j false)
structure Ex (K : PySem.W.Frag) (mg : Str → Option Value) (ca : Nat → Addr) : Prop where
  m_HouseError : mg "HouseError" = some (.ref (ca 0))
  m_BadBytes : mg "BadBytes" = some (.ref (ca 1))
  m_BadName : mg "BadName" = some (.ref (ca 2))
  m_BadValue : mg "BadValue" = some (.ref (ca 3))
  m_TooLong : mg "TooLong" = some (.ref (ca 4))
  m_BadPiece : mg "BadPiece" = some (.ref (ca 5))
  m_Wrong : mg "Wrong" = some (.ref (ca 6))
  m_BadRow : mg "BadRow" = some (.ref (ca 7))
  r_BadName : RaiseH K (ca 0) (ca 2)
  t_BadName : KitRow K ca (ca 2) [false, true, false, false, false, false, false]
  r_BadValue : RaiseH K (ca 0) (ca 3)
  t_BadValue : KitRow K ca (ca 3) [false, false, true, false, false, false, false]
  r_TooLong : RaiseH K (ca 0) (ca 4)
  t_TooLong : KitRow K ca (ca 4) [false, false, false, true, false, false, false]
  r_BadPiece : RaiseH K (ca 0) (ca 5)
  t_BadPiece : KitRow K ca (ca 5) [false, false, false, false, true, false, false]
section
variable {P : Program} {w : World} {K : PySem.W.Frag} {mg : Str → Option Value} {base : Heap} {tk : Nat → Tok} {ca : Nat → Addr}
/-- a def that may raise, as its callers see it -/
structure DefX (P : Program) (w : World) (K : PySem.W.Frag) (mg : Str → Option Value) (base : Heap) (x : Str) (k : Nat) (f : Addr) (fd : FuncData) (ps : List Str) (sp : Sp) : Prop where
  ok : FnOk P w K mg base (L2.CX P w) k f fd ps sp
  mg : mg x = some (.ref f)
  kp : PySem.W.keepIn K (.ref f) = true
  bd : Binds K fd ps []
/-- a refusal by the class at C -/
def Refuse (H : Hp) (C : Addr) (kd : Str) (E : XK) : Prop := ∀ H1 d, Same H H1 → H1 d = none → E (.ref C) (some d) (upd H1 d (.xd (heFields kd)))
/-- a text that is none by its signs, or no text at all -/
def BadBy (g : List Nat → Bool) (H : Hp) (x : V) : Prop := (∃ z : Str, x = .str z ∧ z.length ≤ 100000 ∧ g (TL.tl z) = false) ∨ Odd H x
theorem BadBy.same {g : List Nat → Bool} {H H' : Hp} {x : V} (s : Same H H') (h : BadBy g H x) : BadBy g H' x := h.imp (fun h => h) fun h => h.same s
def sp_foldedX (ca : Nat → Addr) : Sp := fun vs H Q E => ∃ x y : V, vs = [x, y] ∧
  ((BadBy isHN H x ∧ Refuse H (ca 2) "badname" E) ∨ ∃ z : Str, x = .str z ∧ isHN (TL.tl z) = true ∧ z.length ≤ 1000 ∧
    ((BadBy isVal H y ∧ Refuse H (ca 3) "badvalue" E) ∨ ∃ ws : List Str, y = .str (Txt.join (Str.ofString " ") ws) ∧ (∀ u ∈ ws, WordL (TL.tl u) ∧ u.length ≤ 600) ∧ ws.length ≤ 100 ∧
      (∃ u ∈ ws, 60 ≤ u.length) ∧ Refuse H (ca 4) "toolong" E))
theorem val_lenX {ws : List Str} (h : ∀ u ∈ ws, WordL (TL.tl u) ∧ u.length ≤ 600) (hl : ws.length ≤ 100) : (Txt.join (Str.ofString " ") ws).length ≤ 60100 ∧ (ws.map (·.length)).sum + ws.length * (Str.ofString " ").length ≤ 60100 := by
  have hb := join_len_le (sep := Str.ofString " ") (k := 600) (n := 100) (fun x hx => (h x hx).2) hl
  have hb2 : 100 * (600 + (Str.ofString " ").length) = 60100 := by decide +kernel
  have := joined_len (Str.ofString " ") ws
  exact ⟨by omega, by omega⟩
theorem val_okX {ws : List Str} (h : ∀ u ∈ ws, WordL (TL.tl u)) : isVal (TL.tl (Txt.join (Str.ofString " ") ws)) = true := by
  rw [TL.join_eq, TL.tl_join, tl_blank]
  unfold isVal
  rw [Bool.and_eq_true]
  constructor
  · rw [List.all_eq_true]
    intro c hc
    rcases joinL_mem _ _ c hc with h1 | ⟨p, hp, hc⟩
    · rw [List.mem_singleton.mp h1]; rfl
    · obtain ⟨x, hx, rfl⟩ := List.mem_map.mp hp
      have := (h x hx).2 c hc
      unfold isSign
      simp only [Bool.and_eq_true, decide_eq_true_eq, Bool.not_eq_true', decide_eq_false_iff_not]
      omega
  · cases ws with
    | nil => rfl
    | cons x r =>
      rw [splitL_join 32 _ (by simp) fun p hp => ?_]
      · rw [Bool.or_eq_true]
        right
        have : ¬ ([] : List Nat) ∈ (x :: r).map TL.tl := fun hm => by
          obtain ⟨y, hy, e⟩ := List.mem_map.mp hm
          exact (h y hy).1 e
        rw [decide_eq_false this]
        rfl
      · obtain ⟨y, hy, rfl⟩ := List.mem_map.mp hp
        intro hm
        have := (h y hy).2 32 hm
        omega
theorem ok_foldedX {f fH fV fG fR fI cc cda : Addr} {fd fdH fdV fdG fdR : FuncData} (F : Fun K "folded" "folded" s_folded f fd) (T : Tx mg tk) (W_BadName : HeC P K mg "BadName" (ca 2) (ca 0) fI cc cda "badname") (W_BadValue : HeC P K mg "BadValue" (ca 3) (ca 0) fI cc cda "badvalue") (W_TooLong : HeC P K mg "TooLong" (ca 4) (ca 0) fI cc cda "toolong") (D_is_header_name : Def P w K mg base "is_header_name" 2 fH fdH ["thing"] (sp_header_name K)) (D_is_value : Def P w K mg base "is_value" 2 fV fdV ["thing"] (sp_value K)) (D_great_name : Def P w K mg base "great_name" 1 fG fdG P_great_name sp_great) (D_goes_into_rows : Def P w K mg base "goes_into_rows" 1 fR fdR P_goes_into_rows sp_goes) : FnOk P w K mg base (L2.CX P w) 3 f fd P_folded (sp_foldedX ca) := by
  refine F.okX sc_folded (fun vs H Q Ex h => ?_) (fun cdv A outer s H vs Q Ex hr h => ?_)
  · obtain ⟨x, y, rfl, _⟩ := h
    rfl
  · have nd := sc_folded.nd
    obtain ⟨x, y, rfl, h⟩ := h
    refine ⟨_, (pss_cons (ps_if (pt_not (pt_val (pe_def D_is_header_name (hr.mono (by decide)) (pa_cons (pv 0) pa_nil))))
        (pss_one (ps_raiseH rfl W_BadName hr (takes_of rfl rfl rfl rfl) (by exact (pa_cons pe_str pa_nil))))
        pss_nil)
      (pss_cons (ps_if (pt_not (pt_val (pe_def D_is_value (hr.mono (by decide)) (pa_cons (pv 1) pa_nil))))
        (pss_one (ps_raiseH rfl W_BadValue hr (takes_of rfl rfl rfl rfl) (by exact (pa_cons pe_str pa_nil))))
        pss_nil)
      (pss_cons (ps_set (i := 2) nd rfl (.inl rfl) (pe_words (pv 1)))
      (pss_cons (ps_if (pt_not (pt_val (pe_callB (cAll K) (by rfl) T.n_all (by decide +kernel) (pa_cons (pe_lc (own := [("word", 4)]) (g := gName 4) (by rfl) nd (pi_list (pv 2)) (blkOk_by (N := N_folded) (sc := defScope s_folded) (by decide +kernel)) (fun _ _ _ _ _ => (pg_name (i := 4) nd rfl (Or.inl rfl))) (fun _ _ _ _ _ => pts_nil) (fun _ _ _ _ _ => (pe_def D_goes_into_rows (hr.mono (by decide)) (pa_cons (pv 4) pa_nil)))) pa_nil))))
        (pss_one (ps_raiseH rfl W_TooLong hr (takes_of rfl rfl rfl rfl) (by exact (pa_cons pe_str pa_nil))))
        pss_nil)
      (PSs.nox (pss_cons (ps_set (i := 3) nd rfl (.inl rfl) (pe_lst (pa_cons (pe_op op_add_str (pe_def D_great_name (hr.mono (by decide)) (pa_cons (pv 0) pa_nil)) pe_str) pa_nil)))
      (pss_cons (ps_for PassesOwn.never rfl (pi_list (pv 2)) (pg_name (i := 4) nd rfl (Or.inl rfl))
        (pss_cons (ps_if (pt_cmpR op_gt (pe_op op_add (pe_op op_add (pe_callB call_len_str (by rfl) T.n_len (by decide +kernel) (pa_cons (pe_ix (ixL K) (pv 3) (pe_un un_neg pe_int) (fun _ _ => rfl)) pa_nil)) pe_int) (pe_callB call_len_str (by rfl) T.n_len (by decide +kernel) (pa_cons (pv 4) pa_nil))) (pe_glob (v := .int 60) (by rfl) T.m_ROW_SIGNS ⟨_, rfl⟩) (nomark _))
          (pss_one (ps_expr (pe_bm PySem.F.plainAttrs_list PySem.F.slot_list_append PySem.F.type_list_append mt_append (pv 3) (pa_cons pe_str pa_nil))))
          pss_nil)
        (pss_one (ps_augS (pv 3) (pe_un un_neg pe_int) (get_listK K) (pe_op op_add_str pe_str (pv 4)) iop_add_str set_list))))
      (pss_one (ps_ret (pv 3)))))))))), ?_⟩
    have test : ∀ (g : List Nat → Bool) (H : Hp) (x : V) (Q' : VK), BadBy g H x → Tell H (.bl false) Q' → ((∃ z : Str, x = .str z ∧ z.length ≤ 100000 ∧ Tell H (.bl (g (TL.tl z))) Q') ∨ (NoStr K H x ∧ Tell H (.bl false) Q')) := fun g H x Q' hb hq => by
      rcases hb with ⟨z, rfl, hz, hg⟩ | ho
      · exact .inl ⟨z, rfl, hz, by rw [hg]; exact hq⟩
      · exact .inr ⟨ho.ty, hq⟩
    rcases h with ⟨hb, r⟩ | ⟨z, rfl, hn, hz, h⟩
    · exact ⟨x, rfl, x, rfl, test isHN H x _ hb fun H1 s1 => ⟨false, rfl, iteT ⟨_, rfl, fun d hd => r H1 d s1 hd⟩⟩⟩
    refine ⟨.str z, rfl, _, rfl, .inl ⟨z, rfl, by omega, fun H1 s1 => ⟨_, rfl, ?_⟩⟩⟩
    rw [hn]
    rcases h with ⟨hb, r⟩ | ⟨ws, rfl, hw, hwl, h⟩
    · exact iteF ⟨y, rfl, y, rfl, test isVal H1 y _ (hb.same s1) fun H2 s2 => ⟨false, rfl, iteT ⟨_, rfl, fun d hd => r H2 d (s1.trans s2) hd⟩⟩⟩
    have hvl := val_lenX hw hwl
    refine iteF ⟨_, rfl, _, rfl, .inl ⟨_, rfl, by omega, fun H2 s2 => ⟨_, rfl, ?_⟩⟩⟩
    rw [val_okX fun u hu => (hw u hu).1]
    refine iteF ⟨_, rfl, ⟨_, rfl⟩, _, rfl, rfl, by rw [sizeLine_eq]; omega, fun p np => ?_⟩
    rw [words_join ws (fun x hx => (hw x hx).1) _ tl_blank]
    have s3 := same_upd (o := .lst (ws.map V.str)) np
    have hm : (ws.map V.str).length = ws.length := List.length_map ..
    generalize hH3 : upd H2 p (.lst (ws.map V.str)) = H3 at *
    have e3 : H3 p = some (.lst (ws.map V.str)) := by rw [← hH3, upd_same]
    refine ⟨.ref p, rfl, p, rfl, ⟨_, .inl (.inl e3)⟩, fun D hD => lc_pure (fun i => (ws.map V.str).getD i .non) (fun i => .bl (decide ((ws.getD i Str.empty).length < 60))) walk_listF (fun H4 sm => sm.seq (.inl (.inl e3))) hD (by rw [hm, sizeLine_eq]; omega) (fun i H4 Q4 hi sm q4 => ?_) (fun H4 s4 e4 => ?_)⟩
    · rw [hm] at hi
      rw [getD_str ws i hi]
      have hxm : ws.getD i Str.empty ∈ ws := by
        rw [List.getD_eq_getElem?_getD, List.getElem?_eq_getElem hi]
        exact List.getElem_mem hi
      have := (hw _ hxm).2
      exact ⟨.str (ws.getD i Str.empty), rfl, _, rfl, by omega, fun H5 s5 => q4 _ s5⟩
    · rw [hm] at e4
      refine ⟨D, (List.range ws.length).map fun i => decide ((ws.getD i Str.empty).length < 60), rfl, .inl (.inl (by rw [e4, List.map_map]; rfl)), _, rfl, ?_⟩
      have ea : ((List.range ws.length).map fun i => decide ((ws.getD i Str.empty).length < 60)).all id = ws.all fun u => decide (u.length < 60) := by
        conv => rhs; rw [← LH.range_getD ws Str.empty]
        rw [List.all_map, List.all_map]
        rfl
      rw [ea]
      have sA := s1.trans (s2.trans (s3.trans s4))
      obtain ⟨⟨u, hu, hu60⟩, r⟩ := h
      rw [show (ws.all fun u => decide (u.length < 60)) = false from List.all_eq_false.mpr ⟨u, hu, by rw [decide_eq_true_eq]; omega⟩]
      exact iteT ⟨_, rfl, fun d hd => r _ d sA hd⟩
/-- all that folded promises -/
def sp_foldedA (ca : Nat → Addr) : Sp := fun vs H Q E => sp_foldedX ca vs H Q E ∨ sp_folded vs H Q E
end
end K20

namespace K20
open PySem PySem.Spec PyProof.Rows L2 LH
/-! ### a piece of bytes written -/
def hv (p : Str × List Str) : Str × Str := (p.1, Txt.join (Str.ofString " ") p.2)
def HdOk (p : Str × List Str) : Prop := isHN (TL.tl p.1) = true ∧ p.1.length ≤ 1000 ∧ WsOk p.2 ∧ p.2.length ≤ 100
def hdRows (p : Str × List Str) : List (List Nat) := hrows (TL.tl p.1) (p.2.map TL.tl)
def rowsW (hs : List (Str × List Str)) : List (List Nat) := (hs.map hdRows).flatten
def bodyN : Str := Str.ofString "body"
def pieceR (hs : List (Str × List Str)) (l : List Nat) : List (List Nat) := rowsW hs ++ (hrows (TL.tl bodyN) [TL.tl (bodyW l).1] ++ ([] :: (bodyW l).2))
theorem join_one (x : Str) : Txt.join (Str.ofString " ") [x] = x := TL.ext_tl (by
  rw [TL.join_eq, TL.tl_join]
  rfl)
theorem hdRows_many (p : Str × List Str) (h : HdOk p) : (hdRows p).length ≤ 101 := by
  have hl := great_len h.1
  have := (hfold_len (TL.tl p.1) (by omega) (p.2.map TL.tl) (fun x hx => by
    obtain ⟨y, hy, rfl⟩ := List.mem_map.mp hx
    rw [← TL.len_tl]
    exact (h.2.2.1 y hy).2)).2.2
  unfold hdRows hrows
  rw [List.length_append, List.length_singleton]
  rw [List.length_map] at this
  have := h.2.2.2
  omega
theorem rowsW_many (hs : List (Str × List Str)) (h : ∀ p ∈ hs, HdOk p) : (rowsW hs).length ≤ hs.length * 101 := by
  unfold rowsW
  have := flat_le (hs.map hdRows) 101 fun x hx => by
    obtain ⟨p, hp, rfl⟩ := List.mem_map.mp hx
    exact hdRows_many p (h p hp)
  rw [List.length_map] at this
  exact this
theorem rowsW_snoc (hs : List (Str × List Str)) (p : Str × List Str) : rowsW (hs ++ [p]) = rowsW hs ++ hdRows p := by
  unfold rowsW
  rw [List.map_append, List.flatten_append]
  simp
theorem bodyN_ok : isHN (TL.tl bodyN) = true ∧ bodyN.length ≤ 1000 := ⟨by decide +kernel, by decide +kernel⟩
theorem way_ok (l : List Nat) : WsOk [(bodyW l).1] := fun x hx => by
  rw [List.mem_singleton.mp hx]
  have key : ∀ z : Str, z = Str.ofString "plain" ∨ z = Str.ofString "sixteens" ∨ z = Str.ofString "sixty" → WordL (TL.tl z) ∧ z.length ≤ 59 := by
    rintro z (rfl | rfl | rfl)
    · exact ⟨⟨by decide +kernel, by decide +kernel⟩, by decide +kernel⟩
    · exact ⟨⟨by decide +kernel, by decide +kernel⟩, by decide +kernel⟩
    · exact ⟨⟨by decide +kernel, by decide +kernel⟩, by decide +kernel⟩
  refine key _ ?_
  unfold bodyW
  split
  · exact .inl rfl
  · split
    · exact .inr (.inl rfl)
    · exact .inr (.inr rfl)
theorem body_many {l : List Nat} (hl : l.length ≤ 4040) : (bodyW l).2.length ≤ 4041 := by
  unfold bodyW
  split
  · have := splitL_len 10 l
    show (splitL 10 l).length ≤ _
    omega
  · split
    · have := rows16_count l
      show (rows16 l).length ≤ _
      omega
    · have := rows60_many l
      show (rows60 l).length ≤ _
      omega
section
variable {P : Program} {w : World} {K : PySem.W.Frag} {mg : Str → Option Value} {base : Heap} {tk : Nat → Tok} {ca : Nat → Addr} {CH CP : Addr}
/-! ### written_pieces -/
abbrev s_written_pieces : Stmt := topS 63
abbrev N_written_pieces : List Str := ["pieces", "parts", "border", "rows", "part", "piece", "row"]
abbrev P_written_pieces : List Str := ["pieces"]
theorem sc_written_pieces : FnScope N_written_pieces ["pieces"] (defScope s_written_pieces) := ⟨rfl, rfl, rfl, by decide +kernel, rfl, by decide +kernel, by decide +kernel⟩
theorem ok_wpieces {f : Addr} {fd : FuncData} (F : Fun K "written_pieces" "written_pieces" s_written_pieces f fd) : FnOk P w K mg base CX0 1 f fd P_written_pieces sp_never := by
  exact fn_never
/-! ### written_rows -/
abbrev s_written_rows : Stmt := topS 59
abbrev N_written_rows : List Str := ["piece", "rows", "header", "way", "body"]
abbrev P_written_rows : List Str := ["piece"]
theorem sc_written_rows : FnScope N_written_rows ["piece"] (defScope s_written_rows) := ⟨rfl, rfl, rfl, by decide +kernel, rfl, by decide +kernel, by decide +kernel⟩
def sp_written (CP CH : Addr) : Sp := fun vs H Q _ => ∃ (a : Addr) (hs : List (Str × List Str)) (l : List Nat), vs = [.ref a] ∧ PcR H CP CH a (hs.map hv) l ∧ (∀ p ∈ hs, HdOk p) ∧ hs.length ≤ 100 ∧ BytesN l ∧ l.length ≤ 4040 ∧ New H ((strL (pieceR hs l)).map V.str) Q
theorem ok_written {f f1 f2 f3 fV : Addr} {fd fd1 fd2 fd3 fdV : FuncData} (F : Fun K "written_rows" "written_rows" s_written_rows f fd) (T : Tx mg tk) (R_Header : Hc K mg CH) (R_Piece : Pc K mg CP) (D_folded : Def P w K mg base "folded" 3 f1 fd1 P_folded sp_folded) (M_Header_value : DefM P w K mg base CH "value" 1 fV fdV P_Header_value (sp_hvalue CH)) (D_written_bytes : Def P w K mg base "written_bytes" 5 f2 fd2 P_written_bytes sp_wbytes) (D_written_pieces : Def P w K mg base "written_pieces" 1 f3 fd3 P_written_pieces sp_never) : FnOk P w K mg base CX0 6 f fd P_written_rows (sp_written CP CH) := by
  refine F.ok sc_written_rows (fun vs H Q E h => ?_) (fun cdv A outer s H vs Q E hr h => ?_)
  · obtain ⟨a, hs, l, rfl, _⟩ := h
    rfl
  · have nd := sc_written_rows.nd
    obtain ⟨a, hs, l, rfl, hp, hok, hhl, hb, hl, q⟩ := h
    refine ⟨_, (pss_cons (ps_set (i := 1) nd rfl (.inl rfl) (pe_lst pa_nil))
      (pss_cons (ps_for PassesOwn.never rfl (pi_list (pe_fldK K (pv 0) rfl)) (pg_name (i := 2) nd rfl (Or.inl rfl))
        (pss_one (ps_expr (pe_bm PySem.F.plainAttrs_list PySem.F.slot_list_extend PySem.F.type_list_extend mt_extend (pv 1) (pa_cons (pe_def D_folded (hr.mono (by decide)) (pa_cons (pe_fldK K (pv 2) rfl) (pa_cons (pe_meth0 (pv 2) M_Header_value.c M_Header_value.hm M_Header_value.ok (hr.mono (by decide)) M_Header_value.bd .nil pass0) pa_nil))) pa_nil)))))
      (pss_cons (ps_asg (pe_ifExp (pt_cmpR op_isN (pe_fldK K (pv 0) rfl) pe_non (nomark _)) (pe_def D_written_bytes (hr.mono (by decide)) (pa_cons (pe_fldK K (pv 0) rfl) pa_nil)) (pe_def D_written_pieces (hr.mono (by decide)) (pa_cons (pe_fldK K (pv 0) rfl) pa_nil))) (pg_tup rfl (pgs_cons (pg_name (i := 3) nd rfl (Or.inl rfl)) (pgs_cons (pg_name (i := 4) nd rfl (Or.inl rfl)) pgs_nil))))
      (pss_one (ps_ret (pe_op op_cat (pe_op op_cat (pe_op op_cat (pv 1) (pe_def D_folded (hr.mono (by decide)) (pa_cons (pe_glob (v := .str (Str.ofString "body")) (by rfl) T.m_BODY ⟨_, rfl⟩) (pa_cons (pv 3) pa_nil)))) (pe_lst (pa_cons pe_str pa_nil))) (pv 4))))))), ?_⟩
    dsimp only [gName, tSeq, tAsg]
    obtain ⟨dx, h, r, as, e1, e2, e3, e4⟩ := hp
    refine ⟨by show 0 ≤ _; exact Nat.zero_le _, fun p np => ?_⟩
    have s0 := same_upd (o := .lst []) np
    have hal : as.length = hs.length := by rw [e3.len, List.length_map]
    refine ⟨.ref a, rfl, a, CP, dx, _, _, rfl, s0 _ _ e1, R_Piece.i.c, R_Piece.n_headers, rfl, h, rfl, ⟨_, .inl (.inl (s0 _ _ e2))⟩, for_it walk_list (fun i σ H' => ∃ y2, σ = [some (.ref a), some (.ref p), y2, none, none] ∧ Same H H' ∧ H' p = some (.lst ((strL (rowsW (hs.take i))).map V.str)))
      ⟨none, rfl, s0, upd_same⟩ (fun i σ H' _ h => by obtain ⟨y, rfl, sm, _⟩ := h; exact .inl (.inl (sm _ _ e2))) (fun i x σ H' H'' hi hP hy => ?_) (fun σ H' hP => ?_)⟩
    · obtain ⟨y2, rfl, sm, ep⟩ := hP
      obtain ⟨rfl, hx⟩ := hy
      rw [List.length_map] at hi
      rw [List.getElem?_map, List.getElem?_eq_getElem hi] at hx
      obtain rfl := Option.some.inj hx
      have hi2 : i < hs.length := by omega
      have ha := (e3.same sm).at i (by rw [List.length_map]; exact hi2)
      rw [show as.getD i 0 = as[i] by rw [List.getD_eq_getElem?_getD, List.getElem?_eq_getElem hi]; rfl, show (hs.map hv).getD i (Str.empty, Str.empty) = hv hs[i] by rw [List.getD_eq_getElem?_getD, List.getElem?_map, List.getElem?_eq_getElem hi2]; rfl] at ha
      have hoki := hok hs[i] (List.getElem_mem hi2)
      have htk : hs.take (i + 1) = hs.take i ++ [hs[i]] := by rw [List.take_add_one, List.getElem?_eq_getElem hi2]; rfl
      have hrm := rowsW_many (hs.take i) fun p hp => hok p (List.mem_of_mem_take hp)
      have htl : (hs.take i).length ≤ 100 := by rw [List.length_take]; omega
      have hrm2 := hdRows_many hs[i] hoki
      obtain ⟨dh, eh⟩ := ha
      refine ⟨.ref p, rfl, .inl ⟨rfl, _, .inl (.inl ep)⟩, .ref as[i], rfl, as[i], CH, dh, _, _, rfl, eh, R_Header.i.c, R_Header.n_name, rfl, .ref as[i], rfl, as[i], dh, _, rfl, eh, rfl, as[i], _, _, rfl, ⟨dh, eh⟩, fun H2 s2 => ⟨_, _, rfl, hoki.1, hoki.2.1, hoki.2.2.1, hoki.2.2.2, fun H3 q3 s3 n3 e3 => ⟨p, q3, _, _, rfl, rfl, s3 _ _ (s2 _ _ ep), e3, ?_, ?_⟩⟩⟩
      · unfold rowsH
        rw [List.length_map, List.length_map, strL_len, strL_len, sizeLine_eq]
        have : (hrows (TL.tl (hv hs[i]).fst) (List.map TL.tl hs[i].snd)).length ≤ 101 := hrm2
        omega
      · refine ⟨_, rfl, fun b o e => ?_, ?_⟩
        · rw [upd_ne (ne_of_none e np)]
          exact s3 _ _ (s2 _ _ (sm _ _ e))
        · rw [upd_same, htk, rowsW_snoc, strL_app, List.map_append]
          rfl
    · obtain ⟨y2, rfl, sm, ep⟩ := hP
      rw [List.length_map, hal, List.take_length] at ep
      refine ⟨.ref a, rfl, a, CP, dx, _, _, rfl, sm _ _ e1, R_Piece.i.c, R_Piece.n_pieces, rfl, rfl, _, rfl, ?_⟩
      rw [decide_eq_true rfl]
      refine iteT ⟨.ref a, rfl, a, CP, dx, _, _, rfl, sm _ _ e1, R_Piece.i.c, R_Piece.n_row, rfl, r, l, rfl, sm _ _ e4, hb, hl, fun H5 t pb s5 et eb => ⟨t, _, rfl, .inl (.inl et), rfl, ?_⟩⟩
      have hbm := body_many hl
      have hrm := rowsW_many hs hok
      have hw := way_ok l
      have hfm := hdRows_many (bodyN, [(bodyW l).1]) ⟨bodyN_ok.1, bodyN_ok.2, hw, by show 1 ≤ 100; decide⟩
      refine ⟨_, _, rfl, _, _, rfl, rfl, ?_⟩
      refine ⟨.ref p, rfl, .str (bodyW l).1, rfl, bodyN, [(bodyW l).1], congrArg (fun z => [V.str bodyN, V.str z]) (join_one _).symm, by decide +kernel, by decide +kernel, hw, by show 1 ≤ 100; decide, fun H6 q6 s6 n6 e6 => ?_⟩
      have l6 : (rowsH (TL.tl bodyN) [(bodyW l).1]).length ≤ 101 := by
        unfold rowsH
        rw [List.length_map, strL_len]
        exact hfm
      have l5 : ((strL (rowsW hs)).map V.str).length ≤ 10100 := by
        rw [List.length_map, strL_len]
        omega
      have lb : ((strL (bodyW l).2).map V.str).length ≤ 4041 := by
        rw [List.length_map, strL_len]
        omega
      generalize hR6 : rowsH (TL.tl bodyN) [(bodyW l).1] = R6 at *
      generalize hR5 : (strL (rowsW hs)).map V.str = R5 at *
      generalize hRb : (strL (bodyW l).2).map V.str = Rb at *
      refine ⟨p, q6, _, _, rfl, rfl, s6 _ _ (s5 _ _ ep), e6, by rw [sizeLine_eq]; omega, fun p7 n7 => ⟨by show 1 ≤ _; rw [sizeLine_eq]; omega, fun p8 n8 => ?_⟩⟩
      have h87 : p7 ≠ p8 := fun e => by rw [e, upd_same] at n8; exact nomatch n8
      refine ⟨p7, p8, _, _, rfl, rfl, by rw [upd_ne h87, upd_same], upd_same, by rw [List.length_append, sizeLine_eq]; simp only [List.length_singleton]; omega, fun p9 n9 => ?_⟩
      have s9 := (same_upd (o := .lst (R5 ++ R6)) n7).trans ((same_upd (o := .lst [V.str (Str.ofString "")]) n8).trans (same_upd (o := .lst (R5 ++ R6 ++ [V.str (Str.ofString "")])) n9))
      refine ⟨.ref pb, rfl, p9, pb, _, _, rfl, rfl, upd_same, s9 _ _ (s6 _ _ eb), by rw [List.length_append, List.length_append, sizeLine_eq]; simp only [List.length_singleton]; omega, fun p10 n10 => ?_⟩
      have sA := sm.trans (s5.trans (s6.trans s9))
      refine q _ p10 (sA.trans (same_upd n10)) (sA.free n10) ?_
      rw [upd_same]
      unfold pieceR
      rw [strL_app, strL_app, List.map_append, List.map_append, ← hRb, ← hR5, ← hR6, List.append_assoc, List.append_assoc]
      rfl
end
end K20

namespace K20
open PySem PySem.Spec PyProof.Rows L2 LH
/-! ### a piece's rows, and a word too long -/
def HdLong (p : Str × List Str) : Prop := isHN (TL.tl p.1) = true ∧ p.1.length ≤ 1000 ∧ (∀ u ∈ p.2, WordL (TL.tl u) ∧ u.length ≤ 600) ∧ p.2.length ≤ 100 ∧ ∃ u ∈ p.2, 60 ≤ u.length
section
variable {P : Program} {w : World} {K : PySem.W.Frag} {mg : Str → Option Value} {base : Heap} {tk : Nat → Tok} {ca : Nat → Addr} {CH CP : Addr}
def sp_writtenX (ca : Nat → Addr) (CP CH : Addr) : Sp := fun vs H Q E => ∃ (a : Addr) (pre : List (Str × List Str)) (p : Str × List Str) (post : List (Str × List Str)) (l : List Nat), vs = [.ref a] ∧ PcR H CP CH a ((pre ++ p :: post).map hv) l ∧ (∀ q ∈ pre, HdOk q) ∧ HdLong p ∧ pre.length + post.length < 100 ∧ Refuse H (ca 4) "toolong" E
theorem ok_writtenX {f f1 f2 f3 fV : Addr} {fd fd1 fd2 fd3 fdV : FuncData} (F : Fun K "written_rows" "written_rows" s_written_rows f fd) (T : Tx mg tk) (R_Header : Hc K mg CH) (R_Piece : Pc K mg CP) (D_folded : DefX P w K mg base "folded" 3 f1 fd1 P_folded (sp_foldedA ca)) (M_Header_value : DefM P w K mg base CH "value" 1 fV fdV P_Header_value (sp_hvalue CH)) (D_written_bytes : Def P w K mg base "written_bytes" 5 f2 fd2 P_written_bytes sp_wbytes) (D_written_pieces : Def P w K mg base "written_pieces" 1 f3 fd3 P_written_pieces sp_never) : FnOk P w K mg base (L2.CX P w) 6 f fd P_written_rows (sp_writtenX ca CP CH) := by
  refine F.okX sc_written_rows (fun vs H Q Ex h => ?_) (fun cdv A outer s H vs Q Ex hr h => ?_)
  · obtain ⟨a, pre, p, post, l, rfl, _⟩ := h
    rfl
  · have nd := sc_written_rows.nd
    obtain ⟨a, pre, p0, post, l, rfl, hp, hok, hL, hhl, rf⟩ := h
    refine ⟨_, (pss_cons (ps_set (i := 1) nd rfl (.inl rfl) (pe_lst pa_nil))
      (pss_cons (ps_for (passes_of rfl) rfl (pi_list (pe_fldK K (pv 0) rfl)) (pg_name (i := 2) nd rfl (Or.inl rfl))
        (pss_one (ps_expr (pe_bm PySem.F.plainAttrs_list PySem.F.slot_list_extend PySem.F.type_list_extend mt_extend (pv 1) (pa_cons (pe_callS D_folded.ok (hr.mono (by decide)) (by rfl) D_folded.mg D_folded.kp D_folded.bd (fun σ => L2.passAt (takes_of rfl rfl rfl rfl) σ) (pa_cons (pe_fldK K (pv 2) rfl) (pa_cons (pe_meth0 (pv 2) M_Header_value.c M_Header_value.hm M_Header_value.ok (hr.mono (by decide)) M_Header_value.bd .nil pass0) pa_nil))) pa_nil)))))
      (pss_cons (ps_asg (pe_ifExp (pt_cmpR op_isN (pe_fldK K (pv 0) rfl) pe_non (nomark _)) (pe_def D_written_bytes (hr.mono (by decide)) (pa_cons (pe_fldK K (pv 0) rfl) pa_nil)) (pe_def D_written_pieces (hr.mono (by decide)) (pa_cons (pe_fldK K (pv 0) rfl) pa_nil))) (pg_tup rfl (pgs_cons (pg_name (i := 3) nd rfl (Or.inl rfl)) (pgs_cons (pg_name (i := 4) nd rfl (Or.inl rfl)) pgs_nil))))
      (pss_one (ps_ret (pe_op op_cat (pe_op op_cat (pe_op op_cat (pv 1) (pe_callS D_folded.ok (hr.mono (by decide)) (by rfl) D_folded.mg D_folded.kp D_folded.bd (fun σ => L2.passAt (takes_of rfl rfl rfl rfl) σ) (pa_cons (pe_glob (v := .str (Str.ofString "body")) (by rfl) T.m_BODY ⟨_, rfl⟩) (pa_cons (pv 3) pa_nil)))) (pe_lst (pa_cons pe_str pa_nil))) (pv 4))))))), ?_⟩
    dsimp only [gName, tSeq, tAsg]
    obtain ⟨dx, h, r, as, e1, e2, e3, e4⟩ := hp
    refine ⟨by show 0 ≤ _; exact Nat.zero_le _, fun p np => ?_⟩
    have s0 := same_upd (o := .lst []) np
    have hal : as.length = (pre ++ p0 :: post).length := by rw [e3.len, List.length_map]
    have hal2 : as.length = pre.length + post.length + 1 := by rw [hal, List.length_append, List.length_cons]; omega
    refine ⟨.ref a, rfl, a, CP, dx, _, _, rfl, s0 _ _ e1, R_Piece.i.c, R_Piece.n_headers, rfl, h, rfl, ⟨_, .inl (.inl (s0 _ _ e2))⟩, for_it walk_list (fun i σ H' => i ≤ pre.length ∧ ∃ y2, σ = [some (.ref a), some (.ref p), y2, none, none] ∧ Same H H' ∧ H' p = some (.lst ((strL (rowsW (pre.take i))).map V.str)))
      ⟨Nat.zero_le _, none, rfl, s0, upd_same⟩ (fun i σ H' _ h => by obtain ⟨_, y, rfl, sm, _⟩ := h; exact .inl (.inl (sm _ _ e2))) (fun i x σ H' H'' hi hP hy => ?_) (fun σ H' hP => ?_)⟩
    · obtain ⟨hil, y2, rfl, sm, ep⟩ := hP
      obtain ⟨rfl, hx⟩ := hy
      rw [List.length_map] at hi
      rw [List.getElem?_map, List.getElem?_eq_getElem hi] at hx
      obtain rfl := Option.some.inj hx
      have hi2 : i < (pre ++ p0 :: post).length := by omega
      have ha := (e3.same sm).at i (by rw [List.length_map]; exact hi2)
      rw [show as.getD i 0 = as[i] by rw [List.getD_eq_getElem?_getD, List.getElem?_eq_getElem hi]; rfl, show ((pre ++ p0 :: post).map hv).getD i (Str.empty, Str.empty) = hv (pre ++ p0 :: post)[i] by rw [List.getD_eq_getElem?_getD, List.getElem?_map, List.getElem?_eq_getElem hi2]; rfl] at ha
      obtain ⟨dh, eh⟩ := ha
      by_cases hlt : i < pre.length
      · have hpi : (pre ++ p0 :: post)[i] = pre[i] := List.getElem_append_left hlt
        rw [hpi] at eh
        have hoki := hok pre[i] (List.getElem_mem hlt)
        have htk : pre.take (i + 1) = pre.take i ++ [pre[i]] := by rw [List.take_add_one, List.getElem?_eq_getElem hlt]; rfl
        have hrm := rowsW_many (pre.take i) fun p hp => hok p (List.mem_of_mem_take hp)
        have htl : (pre.take i).length ≤ 100 := by rw [List.length_take]; omega
        have hrm2 := hdRows_many pre[i] hoki
        refine ⟨.ref p, rfl, .inl ⟨rfl, _, .inl (.inl ep)⟩, .ref as[i], rfl, as[i], CH, dh, _, _, rfl, eh, R_Header.i.c, R_Header.n_name, rfl, .ref as[i], rfl, as[i], dh, _, rfl, eh, rfl, as[i], _, _, rfl, ⟨dh, eh⟩, fun H2 s2 => .inr ⟨_, _, rfl, hoki.1, hoki.2.1, hoki.2.2.1, hoki.2.2.2, fun H3 q3 s3 n3 e3 => ⟨p, q3, _, _, rfl, rfl, s3 _ _ (s2 _ _ ep), e3, ?_, ?_⟩⟩⟩
        · unfold rowsH
          rw [List.length_map, List.length_map, strL_len, strL_len, sizeLine_eq]
          have : (hrows (TL.tl (hv pre[i]).fst) (List.map TL.tl pre[i].snd)).length ≤ 101 := hrm2
          omega
        · refine ⟨by omega, _, rfl, fun b o e => ?_, ?_⟩
          · rw [upd_ne (ne_of_none e np)]
            exact s3 _ _ (s2 _ _ (sm _ _ e))
          · rw [upd_same, htk, rowsW_snoc, strL_app, List.map_append]
            rfl
      · obtain rfl : i = pre.length := by omega
        have hpi : (pre ++ p0 :: post)[pre.length] = p0 := by
          rw [List.getElem_append_right (Nat.le_refl _)]
          simp
        rw [hpi] at eh
        exact ⟨.ref p, rfl, .inl ⟨rfl, _, .inl (.inl ep)⟩, .ref as[pre.length], rfl, as[pre.length], CH, dh, _, _, rfl, eh, R_Header.i.c, R_Header.n_name, rfl, .ref as[pre.length], rfl, as[pre.length], dh, _, rfl, eh, rfl, as[pre.length], _, _, rfl, ⟨dh, eh⟩, fun H2 s2 => .inl ⟨_, _, rfl, .inr ⟨_, rfl, hL.1, hL.2.1, .inr ⟨_, rfl, hL.2.2.1, hL.2.2.2.1, hL.2.2.2.2, fun H3 d s3 hd => rf H3 d (sm.trans (s2.trans s3)) hd⟩⟩⟩⟩
    · obtain ⟨hil, _⟩ := hP
      rw [List.length_map] at hil
      omega
/-! ### piece_rows -/
abbrev s_piece_rows : Stmt := topS 55
abbrev N_piece_rows : List Str := ["piece"]
abbrev P_piece_rows : List Str := ["piece"]
theorem sc_piece_rows : FnScope N_piece_rows ["piece"] (defScope s_piece_rows) := ⟨rfl, rfl, rfl, by decide +kernel, rfl, by decide +kernel, by decide +kernel⟩
def sp_piece_rows (CP CH : Addr) : Sp := fun vs H Q _ => ∃ (a : Addr) (hs : List (Str × List Str)) (l : List Nat), vs = [.ref a] ∧ PcR H CP CH a (hs.map hv) l ∧ NoBody (hs.map hv) ∧ (∀ p ∈ hs, HdOk p) ∧ hs.length ≤ 100 ∧ BytesN l ∧ l.length ≤ 4040 ∧ New H ((strL (pieceR hs l)).map V.str) Q
theorem ok_piece_rows {f f1 f2 : Addr} {fd fd1 fd2 : FuncData} (F : Fun K "piece_rows" "piece_rows" s_piece_rows f fd) (D_is_piece : Def P w K mg base "is_piece" 4 f1 fd1 P_is_piece (sp_is_piece CP CH)) (D_written_rows : Def P w K mg base "written_rows" 6 f2 fd2 P_written_rows (sp_written CP CH)) : FnOk P w K mg base CX0 7 f fd P_piece_rows (sp_piece_rows CP CH) := by
  refine F.ok sc_piece_rows (fun vs H Q E h => ?_) (fun cdv A outer s H vs Q E hr h => ?_)
  · obtain ⟨a, hs, l, rfl, _⟩ := h
    rfl
  · have nd := sc_piece_rows.nd
    obtain ⟨a, hs, l, rfl, hp, hnb, hok, hhl, hb, hl, q⟩ := h
    refine ⟨_, (pss_cons (ps_if (pt_not (pt_val (pe_def D_is_piece (hr.mono (by decide)) (pa_cons (pv 0) pa_nil))))
        (pss_one ps_never)
        pss_nil)
      (pss_one (ps_ret (pe_def D_written_rows (hr.mono (by decide)) (pa_cons (pv 0) pa_nil))))), ?_⟩
    refine ifT false (fun k q1 => notT true (fun k q2 => ⟨.ref a, rfl, a, hs.map hv, l, rfl, hp, hnb, by rw [List.length_map]; exact hhl, hb, by omega, fun H1 s1 => ⟨true, rfl, q2 _ s1⟩⟩) q1) (fun h => nomatch h) (fun _ H1 s1 => ?_)
    exact ⟨.ref a, rfl, a, hs, l, rfl, hp.same s1, hok, hhl, hb, hl, fun H2 p s2 n2 e2 => q H2 p (s1.trans s2) (s1.free n2) e2⟩
def sp_piece_rowsX (ca : Nat → Addr) (CP CH : Addr) : Sp := fun vs H Q E => ∃ (a : Addr) (pre : List (Str × List Str)) (p : Str × List Str) (post : List (Str × List Str)) (l : List Nat), vs = [.ref a] ∧ PcR H CP CH a ((pre ++ p :: post).map hv) l ∧ NoBody ((pre ++ p :: post).map hv) ∧ (∀ q ∈ pre, HdOk q) ∧ HdLong p ∧ pre.length + post.length < 100 ∧ BytesN l ∧ l.length ≤ 4040 ∧ Refuse H (ca 4) "toolong" E
theorem ok_piece_rowsX {f f1 f2 fI cc cda : Addr} {fd fd1 fd2 : FuncData} (F : Fun K "piece_rows" "piece_rows" s_piece_rows f fd) (W_BadPiece : HeC P K mg "BadPiece" (ca 5) (ca 0) fI cc cda "badpiece") (D_is_piece : Def P w K mg base "is_piece" 4 f1 fd1 P_is_piece (sp_is_piece CP CH)) (D_written_rows : DefX P w K mg base "written_rows" 6 f2 fd2 P_written_rows (sp_writtenX ca CP CH)) : FnOk P w K mg base (L2.CX P w) 7 f fd P_piece_rows (sp_piece_rowsX ca CP CH) := by
  refine F.okX sc_piece_rows (fun vs H Q Ex h => ?_) (fun cdv A outer s H vs Q Ex hr h => ?_)
  · obtain ⟨a, pre, p, post, l, rfl, _⟩ := h
    rfl
  · have nd := sc_piece_rows.nd
    obtain ⟨a, pre, p, post, l, rfl, hp, hnb, hok, hL, hhl, hb, hl, rf⟩ := h
    refine ⟨_, (pss_cons (ps_if (pt_not (pt_val (pe_def D_is_piece (hr.mono (by decide)) (pa_cons (pv 0) pa_nil))))
        (pss_one (ps_raiseH rfl W_BadPiece hr (takes_of rfl rfl rfl rfl) (by exact (pa_cons pe_str pa_nil))))
        pss_nil)
      (pss_one (ps_ret (pe_callS D_written_rows.ok (hr.mono (by decide)) (by rfl) D_written_rows.mg D_written_rows.kp D_written_rows.bd (fun σ => L2.passAt (takes_of rfl rfl rfl rfl) σ) (pa_cons (pv 0) pa_nil))))), ?_⟩
    refine ifT false (fun k q1 => notT true (fun k q2 => ⟨.ref a, rfl, a, (pre ++ p :: post).map hv, l, rfl, hp, hnb, by rw [List.length_map, List.length_append, List.length_cons]; omega, hb, by omega, fun H1 s1 => ⟨true, rfl, q2 _ s1⟩⟩) q1) (fun h => nomatch h) (fun _ H1 s1 => ?_)
    exact ⟨.ref a, rfl, a, pre, p, post, l, rfl, hp.same s1, hok, hL, hhl, fun H2 d s2 hd => rf H2 d (s1.trans s2) hd⟩
/-! ### words of classes -/
def tWord (K : PySem.W.Frag) (z : Str) (j : Nat) (cls : V) : TE := tOp rRep (tLst (tCons (tC (.str z)) tNil)) (tCB (fun xs H Q => (∃ i, xs = [V.int i] ∧ Q (V.int i) H) ∨ ∃ k, xs = [V.bl k] ∧ Q (V.int (if k = true then 1 else 0)) H) (tCons (tCB (rIsD K) (tCons (tVar j) (tCons (tC cls) tNil))) tNil))
theorem repK {z : Str} {j : Nat} {cls : V} {cv : Value} {b : Bool} {σ : L2.St} {H : Hp} {Q : VK} {e D dd : Addr} {kd : Str} (h1 : σ[j]? = some (some (.ref e))) (hE : HeldD H D dd e (heFields kd)) (X : ExcC K D) (hcv : ∀ u, RelV cls u → u = cv) (hk : PySem.W.kitOne K (.ref D) cv = some b) (q : New H (if b = true then [.str z] else []) Q) : tWord K z j cls σ H Q := by
  refine ⟨by show 1 ≤ _; rw [sizeLine_eq]; omega, fun p1 n1 => ⟨.ref e, h1, e, D, dd, _, cls, cv, b, rfl, hE.same (same_upd n1), X, hcv, hk, .inr ⟨b, rfl, p1, _, _, rfl, rfl, upd_same, ?_, ?_, ?_, fun p2 n2 => q _ p2 ((same_upd n1).trans (same_upd n2)) ((same_upd n1).free n2) ?_⟩⟩⟩
  · cases b <;> decide
  · cases b <;> decide
  · rw [sizeLine_eq]; cases b <;> simp
  · rw [upd_same]
    cases b <;> rfl
/-- a list, new or not -/
def Lst (H : Hp) (xs : List V) (Q : VK) : Prop := ∀ H' p, Same H H' → H' p = some (.lst xs) → Q (.ref p) H'
theorem Lst.new {H : Hp} {xs : List V} {Q : VK} (h : Lst H xs Q) : New H xs Q := fun H' p s _ e => h H' p s e
theorem catN {ta tb : TE} {σ : L2.St} {H : Hp} {Q : VK} (xs ys : List V) (ha : ∀ Q', Lst H xs Q' → ta σ H Q') (hb : ∀ H1 Q', Same H H1 → Lst H1 ys Q' → tb σ H1 Q') (hl : xs.length + ys.length ≤ 1000) (q : New H (xs ++ ys) Q) : tOp rCat ta tb σ H Q :=
  ha _ fun H1 p1 s1 e1 => hb H1 _ s1 fun H2 p2 s2 e2 => ⟨p1, p2, xs, ys, rfl, rfl, s2 _ _ e1, e2, by rw [sizeLine_eq]; omega, fun p3 n3 => q _ p3 (s1.trans (s2.trans (same_upd n3))) ((s1.trans s2).free n3) upd_same⟩
/-! ### _law_word_of -/
abbrev s__law_word_of : Stmt := topS 81
abbrev N__law_word_of : List Str := ["_law_piece", "_law_error", "e", "_law_found"]
abbrev P__law_word_of : List Str := ["_law_piece"]
theorem sc__law_word_of : FnScope N__law_word_of ["_law_piece"] (defScope s__law_word_of) := ⟨rfl, rfl, rfl, by decide +kernel, rfl, by decide +kernel, by decide +kernel⟩
def sp_lwordof (CP CH : Addr) : Sp := fun vs H Q _ => ∃ (a : Addr) (pre : List (Str × List Str)) (p : Str × List Str) (post : List (Str × List Str)) (l : List Nat), vs = [.ref a] ∧ PcR H CP CH a ((pre ++ p :: post).map hv) l ∧ NoBody ((pre ++ p :: post).map hv) ∧ (∀ q ∈ pre, HdOk q) ∧ HdLong p ∧ pre.length + post.length < 100 ∧ BytesN l ∧ l.length ≤ 4040 ∧ New H [.str (Str.ofString "long"), .str (Str.ofString "error")] Q
theorem ok_lwordof {f f1 : Addr} {fd fd1 : FuncData} (F : Fun K "_law_word_of" "_law_word_of" s__law_word_of f fd) (T : Tx mg tk) (E : Ex K mg ca) (D_piece_rows : DefX P w K mg base "piece_rows" 7 f1 fd1 P_piece_rows (sp_piece_rowsX ca CP CH)) : FnOk P w K mg base CX0 8 f fd P__law_word_of (sp_lwordof CP CH) := by
  refine F.ok sc__law_word_of (fun vs H Q _ h => ?_) (fun cdv A outer s H vs Q _ hr h => ?_)
  · obtain ⟨a, pre, p, post, l, rfl, _⟩ := h
    rfl
  · have nd := sc__law_word_of.nd
    obtain ⟨a, pre, p, post, l, rfl, hp, hnb, hok, hL, hhl, hb, hl, q⟩ := h
    refine ⟨_, (pss_cons (ps_set (i := 1) nd rfl (.inl rfl) pe_non)
      (pss_cons (ps_try_hold (i := 2) rfl rfl rfl nd rfl rfl ⟨rfl, by decide, .inl E.m_HouseError⟩ (fun W pn xe tk _ => (pss_one (ps_expr (pe_callS D_piece_rows.ok (hr.mono (by decide)) (by rfl) D_piece_rows.mg D_piece_rows.kp D_piece_rows.bd (fun σ => L2.passAt tk σ) (pa_cons (pv 0) pa_nil))))) (fun a oe pn => (pss_one (ps_set (i := 1) nd rfl (.inl rfl) (pv 2)))))
      (pss_cons (ps_if (pt_cmpR op_isN (pv 1) pe_non (nomark _))
        (pss_one (ps_ret (pe_lst pa_nil)))
        pss_nil)
      (pss_cons (ps_set (i := 3) nd rfl (.inl rfl) (pe_op op_cat (pe_op op_rep (pe_lst (pa_cons pe_str pa_nil)) (pe_callTy call_int1 (by rfl) T.n_int (by decide +kernel) (pa_cons (pe_callB (cIsD K) (by rfl) T.n_isinstance (by decide +kernel) (pa_cons (pv 1) (pa_cons (pe_glob (v := .ref (ca 4)) (by rfl) E.m_TooLong rfl) pa_nil))) pa_nil))) (pe_op op_rep (pe_lst (pa_cons pe_str pa_nil)) (pe_callTy call_int1 (by rfl) T.n_int (by decide +kernel) (pa_cons (pe_callB (cIsD K) (by rfl) T.n_isinstance (by decide +kernel) (pa_cons (pv 1) (pa_cons (pe_glob (v := .ref (ca 5)) (by rfl) E.m_BadPiece rfl) pa_nil))) pa_nil)))))
      (pss_cons (ps_set (i := 3) nd rfl (.inl rfl) (pe_op op_cat (pe_op op_cat (pv 3) (pe_op op_rep (pe_lst (pa_cons pe_str pa_nil)) (pe_callTy call_int1 (by rfl) T.n_int (by decide +kernel) (pa_cons (pe_callB (cIsD K) (by rfl) T.n_isinstance (by decide +kernel) (pa_cons (pv 1) (pa_cons (pe_glob (v := .ref (ca 2)) (by rfl) E.m_BadName rfl) pa_nil))) pa_nil)))) (pe_op op_rep (pe_lst (pa_cons pe_str pa_nil)) (pe_callTy call_int1 (by rfl) T.n_int (by decide +kernel) (pa_cons (pe_callB (cIsD K) (by rfl) T.n_isinstance (by decide +kernel) (pa_cons (pv 1) (pa_cons (pe_glob (v := .ref (ca 3)) (by rfl) E.m_BadValue rfl) pa_nil))) pa_nil)))))
      (pss_cons (ps_set (i := 3) nd rfl (.inl rfl) (pe_op op_cat (pe_op op_cat (pv 3) (pe_op op_rep (pe_lst (pa_cons pe_str pa_nil)) (pe_callTy call_int1 (by rfl) T.n_int (by decide +kernel) (pa_cons (pe_callB (cIsD K) (by rfl) T.n_isinstance (by decide +kernel) (pa_cons (pv 1) (pa_cons (pe_glob (v := .ref (ca 7)) (by rfl) E.m_BadRow rfl) pa_nil))) pa_nil)))) (pe_op op_rep (pe_lst (pa_cons pe_str pa_nil)) (pe_callTy call_int1 (by rfl) T.n_int (by decide +kernel) (pa_cons (pe_callB (cIsD K) (by rfl) T.n_isinstance (by decide +kernel) (pa_cons (pv 1) (pa_cons (pe_bltn (v := .ty "ValueError") (by rfl) T.n_ValueError (by decide +kernel) rfl) pa_nil))) pa_nil)))))
      (pss_one (ps_ret (pv 3))))))))), ?_⟩
    have held : ∀ (H1 : Hp) (d a C : Addr) (kd : Str), H1 d = none → (upd H1 d (.xd (heFields kd))) a = none → HeldD (upd (upd H1 d (.xd (heFields kd))) a (ExH (.ref C) (some d) a)) C d a (heFields kd) := fun H1 d a C kd hd ha => by
      refine ⟨upd_same, ?_⟩
      have : d ≠ a := fun e => by
        rw [← e, upd_same] at ha
        exact nomatch ha
      rw [upd_ne this, upd_same]
    refine ⟨.ref a, rfl, a, pre, p, post, l, rfl, hp, hnb, hok, hL, hhl, hb, hl, fun H1 d s1 hd => ⟨E.r_TooLong.fits, fun e na => ⟨.ref e, rfl, fun n1 => ⟨.ref e, rfl, rfl, _, rfl, ?_⟩⟩⟩⟩
    rw [decide_eq_false (fun h => nomatch h)]
    have hE := held H1 d e (ca 4) "toolong" hd n1
    have sE := s1.trans ((same_upd (o := .xd (heFields "toolong")) hd).trans (same_upd (o := ExH (.ref (ca 4)) (some d) e) n1))
    generalize upd (upd H1 d (.xd (heFields "toolong"))) e (ExH (.ref (ca 4)) (some d) e) = HE at hE sE ⊢
    have kk := E.t_TooLong.2
    have rr : ∀ (c : Addr) (u : Value), RelV (.ref c) u → u = .ref c := fun _ _ h => h
    have rt : ∀ (u : Value), RelV (.ty "ValueError") u → u = .type "ValueError" := fun _ h => h
    refine iteF ?_
    refine catN [.str (Str.ofString "long")] [] (fun Q' q' => repK (b := true) rfl hE E.r_TooLong.xc (rr _) (kk 3 (by decide)) q'.new) (fun H2 Q' s2 q' => repK (b := false) rfl (hE.same s2) E.r_TooLong.xc (rr _) (kk 4 (by decide)) q'.new) (by decide) (fun H3 p3 s3 n3 e3 => ?_)
    have hE3 := hE.same s3
    dsimp only [gName, tSeq, tAsg]
    refine catN [.str (Str.ofString "long")] [] (fun Q' q' => catN [.str (Str.ofString "long")] [] (fun Q2 q2 => ⟨.ref p3, rfl, q2 H3 p3 (Same.refl _) e3⟩) (fun H4 Q2 s4 q2 => repK (b := false) rfl (hE3.same s4) E.r_TooLong.xc (rr _) (kk 1 (by decide)) q2.new) (by decide) q'.new) (fun H4 Q' s4 q' => repK (b := false) rfl (hE3.same s4) E.r_TooLong.xc (rr _) (kk 2 (by decide)) q'.new) (by decide) (fun H5 p5 s5 n5 e5 => ?_)
    have hE5 := hE3.same s5
    refine catN [.str (Str.ofString "long")] [.str (Str.ofString "error")] (fun Q' q' => catN [.str (Str.ofString "long")] [] (fun Q2 q2 => ⟨.ref p5, rfl, q2 H5 p5 (Same.refl _) e5⟩) (fun H4 Q2 s4 q2 => repK (b := false) rfl (hE5.same s4) E.r_TooLong.xc (rr _) (kk 6 (by decide)) q2.new) (by decide) q'.new) (fun H4 Q' s4 q' => repK (b := true) rfl (hE5.same s4) E.r_TooLong.xc rt E.r_TooLong.base q'.new) (by decide) (fun H6 p6 s6 n6 e6 => ?_)
    exact ⟨.ref p6, rfl, q H6 p6 (sE.trans (s3.trans (s5.trans s6))) ((sE.trans (s3.trans s5)).free n6) e6⟩
end
end K20

namespace K20
open PySem PySem.Spec PyProof.Rows L2 LH
/-! ### what the law draws -/
def S' (l : List Nat) : Str := ⟨l.toArray⟩
theorem pick_list {α : Type} (f : α → V) (Pa : α → Prop) : ∀ vs : List V, (∀ j, j < vs.length → ∃ x, Pa x ∧ vs.getD j .non = f x) → ∃ u : List α, u.length = vs.length ∧ (∀ x ∈ u, Pa x) ∧ vs = u.map f
  | [], _ => ⟨[], rfl, (fun _ h => by cases h), rfl⟩
  | v :: vs, h => by
    obtain ⟨x, hx, e⟩ := h 0 (Nat.zero_lt_succ _)
    obtain ⟨u, hl, hu, ev⟩ := pick_list f Pa vs fun j hj => h (j + 1) (Nat.succ_lt_succ hj)
    have e : v = f x := e
    refine ⟨x :: u, congrArg (· + 1) hl, fun y hy => ?_, by rw [List.map_cons, ← ev, e]⟩
    rcases List.mem_cons.mp hy with rfl | hy
    · exact hx
    · exact hu y hy
theorem join_ones (u : List Nat) : TL.tl (Txt.join (Str.ofString "") (u.map fun x => (⟨#[x]⟩ : Str))) = u := by
  rw [tl_join0, List.map_map]
  exact flat_ones u
theorem sum_one (u : List Nat) : ((u.map fun x => (⟨#[x]⟩ : Str)).map (·.length)).sum = u.length := by
  induction u with
  | nil => rfl
  | cons x r ih => rw [List.map_cons, List.map_cons, List.sum_cons, ih, List.length_cons]; show 1 + _ = _; omega
/-- "".join of single signs -/
theorem join_rd {K : PySem.W.Frag} {u : List Nat} {D : Addr} {H : Hp} {Q : VK} (e : H D = some (.lst (u.map fun x => V.str ⟨#[x]⟩))) (hu : u.length ≤ 100000) (q : Q (.str (S' u)) H) : ∃ (a : Str) (p : Addr) (ys : List Str), V.str (Str.ofString "") = V.str a ∧ [V.ref D] = [V.ref p] ∧ (SqL K H p (ys.map V.str) ∨ SqT K H p (ys.map V.str)) ∧ (ys.map (·.length)).sum + ys.length * a.length ≤ 16777216 ∧ Q (.str (Txt.join a ys)) H := by
  have e4 : H D = some (.lst ((u.map fun x => (⟨#[x]⟩ : Str)).map V.str)) := by rw [e, List.map_map]; rfl
  have h00 : (Str.ofString "").length = 0 := by decide +kernel
  refine ⟨Str.ofString "", D, _, rfl, rfl, .inl (.inl (.inl e4)), by rw [sum_one, h00]; omega, ?_⟩
  rw [show Txt.join (Str.ofString "") (u.map fun x => (⟨#[x]⟩ : Str)) = S' u from TL.ext_tl (join_ones u)]
  exact q
def BCD : Str := Str.ofString "bcdghjklnpqrvwxz"
theorem bcd_ok : ∀ c ∈ TL.tl BCD, isSmall c = true ∧ c ≠ 111 := by decide +kernel
theorem smallW_of {l : List Nat} {m : Nat} (h : ∀ c ∈ l, isSmall c = true) (h1 : 1 ≤ l.length) (h2 : l.length ≤ m) : smallW l m = true := by
  unfold smallW
  rw [decide_eq_true h1, decide_eq_true h2, List.all_eq_true.mpr h]
  rfl
theorem hn_join {ws : List Str} (hne : ws ≠ []) (hl : ws.length ≤ 3) (h : ∀ x ∈ ws, (∀ c ∈ TL.tl x, isSmall c = true) ∧ 1 ≤ x.length ∧ x.length ≤ 8) : isHN (TL.tl (Txt.join (Str.ofString "-") ws)) = true := by
  rw [TL.join_eq, TL.tl_join, tl_dash]
  unfold isHN
  rw [splitL_join 45 _ (by simpa using hne) fun p hp => ?_]
  · rw [List.length_map, decide_eq_true hl, Bool.true_and, List.all_map, List.all_eq_true]
    intro x hx
    have := h x hx
    exact smallW_of this.1 (by rw [← TL.len_tl]; exact this.2.1) (by rw [← TL.len_tl]; exact this.2.2)
  · obtain ⟨y, hy, rfl⟩ := List.mem_map.mp hp
    intro hm
    have := (isSmall_iff 45).mp ((h y hy).1 45 hm)
    omega
theorem word_sign : ∀ c ∈ TL.tl (cutS SIGNS (some 1) none), 33 ≤ c ∧ c ≤ 126 ∧ c ≠ 37 := by
  rw [show (1 : Int) = ((1 : Nat) : Int) from rfl, cutS_from]
  show ∀ c ∈ (TL.tl SIGNS).drop 1, _
  rw [tl_SIGNS]
  decide +kernel
section
variable {P : Program} {w : World} {K : PySem.W.Frag} {mg : Str → Option Value} {base : Heap} {tk : Nat → Tok} {ca : Nat → Addr} {C : Addr}
/-! ### _law_mixed -/
abbrev s__law_mixed : Stmt := topS 66
abbrev N__law_mixed : List Str := ["_law_cell", "_law_k", "_law_number"]
abbrev P__law_mixed : List Str := ["_law_cell", "_law_k"]
theorem sc__law_mixed : FnScope N__law_mixed ["_law_cell", "_law_k"] (defScope s__law_mixed) := ⟨rfl, rfl, rfl, by decide +kernel, rfl, by decide +kernel, by decide +kernel⟩
def sp_mixed : Sp := fun vs H Q _ => ∃ (c k : Int), vs = [.int c, .int k] ∧ 0 ≤ k ∧ k < 1000 ∧ ∀ m : Nat, m < 100000000 → Tell H (.int (m : Nat)) Q
theorem ok_mixed {f : Addr} {fd : FuncData} {k : Nat} (F : Fun K "_law_mixed" "_law_mixed" s__law_mixed f fd) : FnOk P w K mg base CX0 (k + 1) f fd P__law_mixed sp_mixed := by
  refine F.ok sc__law_mixed (fun vs H Q E h => ?_) (fun cdv A outer s H vs Q E hr h => ?_)
  · obtain ⟨c, j, rfl, _⟩ := h
    rfl
  · have nd := sc__law_mixed.nd
    obtain ⟨c, j, rfl, h0, h1, q⟩ := h
    refine ⟨_, (pss_cons (ps_set (i := 2) nd rfl (.inl rfl) (pe_op op_add (pe_op op_add (pe_op op_mod (pv 0) pe_int) (pe_op op_mul pe_int (pv 1))) pe_int))
      (pss_one (ps_ret (pe_op op_fdiv (pe_op op_mod (pe_op op_mul (pe_op op_mod (pe_op op_mul (pv 2) (pv 2)) pe_int) (pv 2)) pe_int) pe_int)))), ?_⟩
    dsimp only [tSeq, tAsg]
    refine ⟨.int c, rfl, c, 1000000007, rfl, rfl, (show (0 : Int) < 1000000007 by decide), .int j, rfl, 7919, j, rfl, rfl, .inl ⟨by decide, by decide⟩, _, _, rfl, rfl, _, 13, rfl, rfl, ?_⟩
    dsimp only [gName]
    have hm0 : 0 ≤ c % 1000000007 := Int.emod_nonneg _ (by decide)
    have hm1 : c % 1000000007 < 1000000007 := Int.emod_lt_of_pos _ (by decide)
    have hn : ∃ n, c % 1000000007 + 7919 * j + 13 = n ∧ 0 ≤ n ∧ n < 2000000000 := ⟨_, rfl, by omega, by omega⟩
    obtain ⟨n, e, hn0, hn1⟩ := hn
    rw [e]
    refine ⟨_, rfl, _, rfl, n, n, rfl, rfl, .inl ⟨by omega, by omega⟩, _, 1000000007, rfl, rfl, (show (0 : Int) < 1000000007 by decide), _, rfl, _, _, rfl, rfl, .inr ⟨by omega, by omega⟩, _, 998244353, rfl, rfl, (show (0 : Int) < 998244353 by decide), _, 11, rfl, rfl, ⟨by decide, by decide⟩, ?_⟩
    have g0 : 0 ≤ n * n % 1000000007 * n % 998244353 := Int.emod_nonneg _ (by decide)
    have g1 : n * n % 1000000007 * n % 998244353 < 998244353 := Int.emod_lt_of_pos _ (by decide)
    generalize n * n % 1000000007 * n % 998244353 = r at *
    have := q (r / 11).toNat (by omega) _ (Same.refl _)
    rw [show (((r / 11).toNat : Nat) : Int) = r / 11 from Int.toNat_of_nonneg (by omega)] at this
    exact this
/-! ### _law_word -/
abbrev s__law_word : Stmt := topS 68
abbrev N__law_word : List Str := ["_law_n", "_law_size", "_law_some", "_law_k"]
abbrev P__law_word : List Str := ["_law_n", "_law_size"]
theorem sc__law_word : FnScope N__law_word ["_law_n", "_law_size"] (defScope s__law_word) := ⟨rfl, rfl, rfl, by decide +kernel, rfl, by decide +kernel, by decide +kernel⟩
def sp_lword : Sp := fun vs H Q _ => ∃ (n : Int) (m : Nat), vs = [.int n, .int (m : Int)] ∧ 1 ≤ m ∧ m ≤ 500 ∧ ∀ z : Str, WordL (TL.tl z) → z.length = m → Tell H (.str z) Q
theorem ok_lword {f fN fS : Addr} {fd fdN fdS : FuncData} (F : Fun K "_law_word" "_law_word" s__law_word f fd) (T : Tx mg tk) (D__law_mixed : Def P w K mg base "_law_mixed" 1 fN fdN P__law_mixed sp_mixed) (D__law_signs : Def P w K mg base "_law_signs" 1 fS fdS P__law_signs sp_signs) : FnOk P w K mg base CX0 2 f fd P__law_word sp_lword := by
  refine F.ok sc__law_word (fun vs H Q E h => ?_) (fun cdv A outer s H vs Q E hr h => ?_)
  · obtain ⟨n, m, rfl, _⟩ := h
    rfl
  · have nd := sc__law_word.nd
    obtain ⟨n, m, rfl, hm1, hm, q⟩ := h
    refine ⟨_, (pss_cons (ps_set (i := 2) nd rfl (.inr rfl) (pe_slice sl_str (pe_def0 D__law_signs (hr.mono (by decide))) (po_some pe_int) po_none))
      (pss_one (ps_ret (pe_join pe_str (pe_lc (own := [("_law_k", 3)]) (g := gName 3) (by rfl) nd (pi_range1 (by rfl) T.n_range (pa_cons (pv 1) pa_nil)) (blkOk_by (N := N__law_word) (sc := defScope s__law_word) (by decide +kernel)) (fun _ _ _ _ _ => (pg_name (i := 3) nd rfl (Or.inl rfl))) (fun _ _ _ _ _ => pts_nil) (fun _ _ _ _ _ => (pe_ix ix_str (pv 2) (pe_op op_mod (pe_def D__law_mixed (hr.mono (by decide)) (pa_cons (pv 0) (pa_cons (pv 3) pa_nil))) pe_int) (fun _ _ => rfl)))))))), ?_⟩
    have hcl : (cutS SIGNS (some 1) none).length = 93 := by decide +kernel
    refine ⟨rfl, 1, rfl, SIGNS, rfl, by rw [SIGNS_len]; exact Nat.le_of_lt (small1000 (by decide)), ?_⟩
    have hcl2 : (TL.tl (cutS SIGNS (some 1) none)).length = 93 := by rw [← TL.len_tl]; exact hcl
    have hws := word_sign
    generalize cutS SIGNS (some 1) none = SG at *
    refine ⟨⟨_, rfl⟩, .int m, rfl, m, rfl, by omega, by omega, fun D hD => lc_dem (n := m) (fun i => .int (0 + (i : Int))) (fun _ v => ∃ x, x ∈ TL.tl SG ∧ v = .str ⟨#[x]⟩) walk_range (fun _ _ => trivial) hD (by rw [sizeLine_eq]; omega) (fun i H1 Q1 hi sm q1 => ?_) (fun H1 vs sm hl hv e => ?_)⟩
    · refine ⟨_, rfl, .int n, rfl, .int (0 + (i : Int)), rfl, n, 0 + (i : Int), rfl, by omega, by omega, fun r hr H2 s2 => ?_⟩
      obtain ⟨x, hx, ex⟩ := pickL (TL.tl SG) ((r : Int) % 93) (by omega) (by omega)
      exact ⟨_, 93, rfl, rfl, (show (0 : Int) < 93 by decide), _, _, _, rfl, rfl, by rw [hcl, sizeLine_eq]; omega, ex, q1 _ _ s2 ⟨x, hx, rfl⟩⟩
    · obtain ⟨u, hu, hus, rfl⟩ := pick_list (fun x => V.str ⟨#[x]⟩) (fun x => x ∈ TL.tl SG) vs fun j hj => hv j (by omega)
      refine join_rd e (by omega) (q _ ⟨fun h => ?_, fun c hc => hws c (hus c hc)⟩ ?_ _ sm)
      · have h : u = [] := h
        have h2 : u.length = 0 := by rw [h]; rfl
        omega
      · show (S' u).length = m
        rw [TL.len_tl]
        show u.length = m
        omega
/-! ### _law_name -/
abbrev s__law_name : Stmt := topS 69
abbrev N__law_name : List Str := ["_law_n", "_law_letters", "_law_words", "_law_k", "_law_more", "_law_j"]
abbrev P__law_name : List Str := ["_law_n"]
theorem sc__law_name : FnScope N__law_name ["_law_n"] (defScope s__law_name) := ⟨rfl, rfl, rfl, by decide +kernel, rfl, by decide +kernel, by decide +kernel⟩
def sp_lname : Sp := fun vs H Q _ => ∃ (n : Int), vs = [.int n] ∧ ∀ z : Str, isHN (TL.tl z) = true → z.length ≤ 30 → 111 ∉ TL.tl z → Tell H (.str z) Q
theorem ok_lname {f fN : Addr} {fd fdN : FuncData} (F : Fun K "_law_name" "_law_name" s__law_name f fd) (T : Tx mg tk) (D__law_mixed : Def P w K mg base "_law_mixed" 1 fN fdN P__law_mixed sp_mixed) : FnOk P w K mg base CX0 2 f fd P__law_name sp_lname := by
  refine F.ok sc__law_name (fun vs H Q E h => ?_) (fun cdv A outer s H vs Q E hr h => ?_)
  · obtain ⟨n, rfl, _⟩ := h
    rfl
  · have nd := sc__law_name.nd
    obtain ⟨n, rfl, q⟩ := h
    refine ⟨_, (pss_cons (ps_set (i := 1) nd rfl (.inr rfl) pe_str)
      (pss_cons (ps_set (i := 2) nd rfl (.inl rfl) (pe_lst pa_nil))
      (pss_cons (ps_for PassesOwn.never rfl (pi_range1 (by rfl) T.n_range (pa_cons (pe_op op_add pe_int (pe_op op_mod (pv 0) pe_int)) pa_nil)) (pg_name (i := 3) nd rfl (Or.inl rfl))
        (pss_cons (ps_set (i := 4) nd rfl (.inr rfl) (pe_def D__law_mixed (hr.mono (by decide)) (pa_cons (pv 0) (pa_cons (pe_op op_add pe_int (pv 3)) pa_nil))))
        (pss_one (ps_expr (pe_bm PySem.F.plainAttrs_list PySem.F.slot_list_append PySem.F.type_list_append mt_append (pv 2) (pa_cons (pe_join pe_str (pe_lc (own := [("_law_j", 5)]) (g := gName 5) (by rfl) nd (pi_range1 (by rfl) T.n_range (pa_cons (pe_op op_add pe_int (pe_op op_mod (pv 4) pe_int)) pa_nil)) (blkOk_by (N := N__law_name) (sc := defScope s__law_name) (by decide +kernel)) (fun _ _ _ _ _ => (pg_name (i := 5) nd rfl (Or.inl rfl))) (fun _ _ _ _ _ => pts_nil) (fun _ _ _ _ _ => (pe_ix ix_str (pv 1) (pe_op op_mod (pe_def D__law_mixed (hr.mono (by decide)) (pa_cons (pv 4) (pa_cons (pv 5) pa_nil))) pe_int) (fun _ _ => rfl))))) pa_nil))))))
      (pss_one (ps_ret (pe_join pe_str (pv 2))))))), ?_⟩
    have hm : 0 ≤ n % 3 ∧ n % 3 < 3 := ⟨Int.emod_nonneg _ (by decide), Int.emod_lt_of_pos _ (by decide)⟩
    refine ⟨Nat.zero_le _, fun o no => ?_⟩
    refine ⟨.int n, rfl, n, 3, rfl, rfl, (show (0 : Int) < 3 by decide), 1, _, rfl, rfl, 1 + n % 3, rfl, by omega, by omega, for_it walk_range (fun i σ H' => ∃ (y3 y4 y5 : Option V) (ws : List Str), σ = [some (.int n), some (.str BCD), some (.ref o), y3, y4, y5] ∧ Same H H' ∧ H' o = some (.lst (ws.map V.str)) ∧ ws.length = i ∧ ∀ x ∈ ws, (∀ c ∈ TL.tl x, isSmall c = true ∧ c ≠ 111) ∧ 1 ≤ x.length ∧ x.length ≤ 8)
      ⟨none, none, none, [], rfl, same_upd no, upd_same, rfl, (fun _ h => by cases h)⟩ (fun _ _ _ _ _ => trivial) (fun i x σ H' H'' hi hP hy => ?_) (fun σ H' hP => ?_)⟩
    · obtain ⟨y3, y4, y5, ws, rfl, sm, eo, hl, hw⟩ := hP
      obtain ⟨rfl, rfl⟩ := hy
      refine ⟨_, rfl, _, rfl, 40, _, rfl, rfl, n, 40 + (0 + (i : Int)), rfl, by omega, by omega, fun r hr H2 s2 => ?_⟩
      have hr8 : ((r : Int) % 8).toNat + 1 ≤ 8 := by omega
      have hre : 1 + (r : Int) % 8 = ((((r : Int) % 8).toNat + 1 : Nat) : Int) := by omega
      generalize ((r : Int) % 8).toNat + 1 = m at hr8 hre
      refine ⟨_, rfl, .inl ⟨rfl, _, .inl (.inl (s2 _ _ eo))⟩, ⟨_, rfl⟩, _, rfl, _, 8, rfl, rfl, (show (0 : Int) < 8 by decide), 1, _, rfl, rfl, 1 + (r : Int) % 8, rfl, by omega, by omega, fun D hD => lc_dem (n := m) (fun i => .int (0 + (i : Int))) (fun _ v => ∃ x, x ∈ TL.tl BCD ∧ v = .str ⟨#[x]⟩) ?_ (fun _ _ => trivial) hD (by rw [sizeLine_eq]; omega) (fun j H3 Q3 hj s3 q3 => ?_) (fun H3 vs s3 hvl hv e3 => ?_)⟩
      · rw [hre]
        exact walk_range
      · refine ⟨_, rfl, _, rfl, _, rfl, (r : Int), 0 + (j : Int), rfl, by omega, by omega, fun r2 hr2 H4 s4 => ?_⟩
        obtain ⟨x, hx, ex⟩ := pickL (TL.tl BCD) ((r2 : Int) % 16) (by omega) (by rw [show (TL.tl BCD).length = 16 by decide +kernel]; omega)
        exact ⟨_, 16, rfl, rfl, (show (0 : Int) < 16 by decide), _, _, _, rfl, rfl, Nat.le_of_lt (small1000 (by decide +kernel)), ex, q3 _ _ s4 ⟨x, hx, rfl⟩⟩
      · obtain ⟨u, hu, hus, rfl⟩ := pick_list (fun x => V.str ⟨#[x]⟩) (fun x => x ∈ TL.tl BCD) vs fun j hj => hv j (by omega)
        have hum : u.length = m := by omega
        have hm1 : 1 ≤ m := by omega
        have hul : (S' u).length = m := by rw [TL.len_tl]; exact hum
        have e4 : H3 D = some (.lst ((u.map fun x => (⟨#[x]⟩ : Str)).map V.str)) := by rw [e3, List.map_map]; rfl
        have h00 : (Str.ofString "").length = 0 := by decide +kernel
        refine ⟨Str.ofString "", D, _, rfl, rfl, .inl (.inl (.inl e4)), by rw [sum_one, h00]; omega, ?_⟩
        rw [show Txt.join (Str.ofString "") (u.map fun x => (⟨#[x]⟩ : Str)) = S' u from TL.ext_tl (join_ones u)]
        refine ⟨o, _, _, rfl, rfl, s3 _ _ (s2 _ _ eo), ?_, ?_⟩
        · rw [List.length_map]; exact small1000 (by omega)
        · refine ⟨_, _, _, ws ++ [S' u], rfl, fun b x e => ?_, ?_, by rw [List.length_append, List.length_singleton]; omega, fun x hx => ?_⟩
          · rw [upd_ne (ne_of_none e no)]
            exact s3 _ _ (s2 _ _ (sm _ _ e))
          · rw [upd_same, List.map_append]
            rfl
          · rcases List.mem_append.mp hx with h | h
            · exact hw x h
            · rw [List.mem_singleton.mp h]
              exact ⟨fun c hc => bcd_ok c (hus c hc), by omega, by omega⟩
    · obtain ⟨y3, y4, y5, ws, rfl, sm, eo, hl, hw⟩ := hP
      have hb := join_len_le (sep := Str.ofString "-") (k := 8) (n := 3) (fun x hx => (hw x hx).2.2) (by omega)
      have hb2 : 3 * (8 + (Str.ofString "-").length) = 27 := by decide +kernel
      refine ⟨⟨_, rfl⟩, .ref o, rfl, Str.ofString "-", o, ws, rfl, rfl, .inl (.inl (.inl eo)), by omega, q _ (hn_join ?_ (by omega) fun x hx => ⟨fun c hc => ((hw x hx).1 c hc).1, (hw x hx).2⟩) ?_ ?_ _ sm⟩
      · intro h
        rw [h] at hl
        simp only [List.length_nil] at hl
        omega
      · have := joined_len (Str.ofString "-") ws
        omega
      · rw [TL.join_eq, TL.tl_join, tl_dash]
        intro hc
        rcases joinL_mem _ _ _ hc with h1 | ⟨p, hp, hc⟩
        · exact absurd (List.mem_singleton.mp h1) (by decide)
        · obtain ⟨x, hx, rfl⟩ := List.mem_map.mp hp
          exact ((hw x hx).1 _ hc).2 rfl
/-! ### _law_value -/
abbrev s__law_value : Stmt := topS 70
abbrev N__law_value : List Str := ["_law_n", "_law_words", "_law_k", "_law_more", "_law_size"]
abbrev P__law_value : List Str := ["_law_n"]
theorem sc__law_value : FnScope N__law_value ["_law_n"] (defScope s__law_value) := ⟨rfl, rfl, rfl, by decide +kernel, rfl, by decide +kernel, by decide +kernel⟩
def sp_lvalue : Sp := fun vs H Q _ => ∃ (n : Int), vs = [.int n] ∧ ∀ ws : List Str, WsOk ws → ws.length ≤ 6 → Tell H (.str (Txt.join (Str.ofString " ") ws)) Q
theorem ok_lvalue {f fN fW : Addr} {fd fdN fdW : FuncData} (F : Fun K "_law_value" "_law_value" s__law_value f fd) (T : Tx mg tk) (D__law_mixed : Def P w K mg base "_law_mixed" 1 fN fdN P__law_mixed sp_mixed) (D__law_word : Def P w K mg base "_law_word" 2 fW fdW P__law_word sp_lword) : FnOk P w K mg base CX0 3 f fd P__law_value sp_lvalue := by
  refine F.ok sc__law_value (fun vs H Q E h => ?_) (fun cdv A outer s H vs Q E hr h => ?_)
  · obtain ⟨n, rfl, _⟩ := h
    rfl
  · have nd := sc__law_value.nd
    obtain ⟨n, rfl, q⟩ := h
    refine ⟨_, (pss_cons (ps_set (i := 1) nd rfl (.inl rfl) (pe_lst pa_nil))
      (pss_cons (ps_for PassesOwn.never rfl (pi_range1 (by rfl) T.n_range (pa_cons (pe_op op_mod (pv 0) pe_int) pa_nil)) (pg_name (i := 2) nd rfl (Or.inl rfl))
        (pss_cons (ps_set (i := 3) nd rfl (.inl rfl) (pe_def D__law_mixed (hr.mono (by decide)) (pa_cons (pv 0) (pa_cons (pe_op op_add pe_int (pv 2)) pa_nil))))
        (pss_cons (ps_set (i := 4) nd rfl (.inl rfl) (pe_ix (ixL K) (pe_lst (pa_cons (pe_op op_add pe_int (pe_op op_mod (pe_op op_fdiv (pv 3) pe_int) pe_int)) (pa_cons pe_int (pa_cons (pe_op op_add pe_int (pe_op op_mod (pe_op op_fdiv (pv 3) pe_int) pe_int)) (pa_cons pe_int pa_nil))))) (pe_op op_mod (pv 3) pe_int) (fun _ _ => rfl)))
        (pss_one (ps_expr (pe_bm PySem.F.plainAttrs_list PySem.F.slot_list_append PySem.F.type_list_append mt_append (pv 1) (pa_cons (pe_def D__law_word (hr.mono (by decide)) (pa_cons (pv 3) (pa_cons (pv 4) pa_nil))) pa_nil)))))))
      (pss_one (ps_ret (pe_join pe_str (pv 1)))))), ?_⟩
    have hm : 0 ≤ n % 7 ∧ n % 7 < 7 := ⟨Int.emod_nonneg _ (by decide), Int.emod_lt_of_pos _ (by decide)⟩
    refine ⟨Nat.zero_le _, fun o no => ?_⟩
    refine ⟨.int n, rfl, n, 7, rfl, rfl, (show (0 : Int) < 7 by decide), n % 7, rfl, by omega, by omega, for_it walk_range (fun i σ H' => ∃ (y3 y4 y5 : Option V) (ws : List Str), σ = [some (.int n), some (.ref o), y3, y4, y5] ∧ Same H H' ∧ H' o = some (.lst (ws.map V.str)) ∧ ws.length = i ∧ WsOk ws)
      ⟨none, none, none, [], rfl, same_upd no, upd_same, rfl, (fun _ h => by cases h)⟩ (fun _ _ _ _ _ => trivial) (fun i x σ H' H'' hi hP hy => ?_) (fun σ H' hP => ?_)⟩
    · obtain ⟨y3, y4, y5, ws, rfl, sm, eo, hl, hw⟩ := hP
      obtain ⟨rfl, rfl⟩ := hy
      refine ⟨_, rfl, _, rfl, 60, _, rfl, rfl, n, 60 + (0 + (i : Int)), rfl, by omega, by omega, fun r hr H2 s2 => ?_⟩
      refine ⟨_, rfl, _, 4, rfl, rfl, ⟨by decide, by decide⟩, _, 12, rfl, rfl, (show (0 : Int) < 12 by decide), 1, _, rfl, rfl, _, rfl, _, 4, rfl, rfl, ⟨by decide, by decide⟩, _, 59, rfl, rfl, (show (0 : Int) < 59 by decide), 1, _, rfl, rfl, Nat.le_of_lt (small1000 (show 4 ≤ 1000 by decide)), fun p np => ?_⟩
      have h1 : 0 ≤ (r : Int) / 4 % 12 ∧ (r : Int) / 4 % 12 < 12 := by omega
      have h2 : 0 ≤ (r : Int) / 4 % 59 ∧ (r : Int) / 4 % 59 < 59 := by omega
      obtain ⟨v, hv, ev⟩ := pickL [V.int (1 + (r : Int) / 4 % 12), .int 59, .int (1 + (r : Int) / 4 % 59), .int 5] ((r : Int) % 4) (by omega) (by show _ < (4 : Int); omega)
      obtain ⟨t, rfl, ht1, ht2⟩ : ∃ t : Nat, v = .int (t : Int) ∧ 1 ≤ t ∧ t ≤ 59 := by
        simp only [List.mem_cons, List.mem_nil_iff, or_false] at hv
        rcases hv with rfl | rfl | rfl | rfl
        · exact ⟨(1 + (r : Int) / 4 % 12).toNat, by rw [Int.toNat_of_nonneg (by omega)], by omega, by omega⟩
        · exact ⟨59, rfl, by omega, by omega⟩
        · exact ⟨(1 + (r : Int) / 4 % 59).toNat, by rw [Int.toNat_of_nonneg (by omega)], by omega, by omega⟩
        · exact ⟨5, rfl, by decide, by decide⟩
      have s3 := same_upd (o := .lst [V.int (1 + (r : Int) / 4 % 12), .int 59, .int (1 + (r : Int) / 4 % 59), .int 5]) np
      refine ⟨_, rfl, _, 4, rfl, rfl, (show (0 : Int) < 4 by decide), p, _, _, _, rfl, rfl, .inl (.inl upd_same), ev, ?_⟩
      refine ⟨_, rfl, .inl ⟨rfl, _, .inl (.inl (s3 _ _ (s2 _ _ eo)))⟩, _, rfl, _, rfl, (r : Int), t, rfl, ht1, by omega, fun z hz hzl H4 s4 => ⟨o, _, _, rfl, rfl, s4 _ _ (s3 _ _ (s2 _ _ eo)), ?_, ?_⟩⟩
      · rw [List.length_map]; exact small1000 (by omega)
      · refine ⟨_, _, _, ws ++ [z], rfl, fun b x e => ?_, ?_, by rw [List.length_append, List.length_singleton]; omega, fun x hx => ?_⟩
        · rw [upd_ne (ne_of_none e no)]
          exact s4 _ _ (s3 _ _ (s2 _ _ (sm _ _ e)))
        · rw [upd_same, List.map_append]
          rfl
        · rcases List.mem_append.mp hx with h | h
          · exact hw x h
          · rw [List.mem_singleton.mp h]
            exact ⟨hz, by omega⟩
    · obtain ⟨y3, y4, y5, ws, rfl, sm, eo, hl, hw⟩ := hP
      have hvl := val_len hw (by omega)
      exact ⟨⟨_, rfl⟩, .ref o, rfl, Str.ofString " ", o, ws, rfl, rfl, .inl (.inl (.inl eo)), by omega, q _ hw (by omega) _ sm⟩
/-! ### _law_row -/
abbrev s__law_row : Stmt := topS 72
abbrev N__law_row : List Str := ["_law_n", "_law_size", "_law_k"]
abbrev P__law_row : List Str := ["_law_n", "_law_size"]
theorem sc__law_row : FnScope N__law_row ["_law_n", "_law_size"] (defScope s__law_row) := ⟨rfl, rfl, rfl, by decide +kernel, rfl, by decide +kernel, by decide +kernel⟩
def sp_lrow : Sp := fun vs H Q _ => ∃ (n : Int) (m : Nat), vs = [.int n, .int (m : Int)] ∧ m ≤ 500 ∧ ∀ l : List Nat, BytesN l → l.length = m → New H (nb l) Q
theorem signs_low : ∀ c ∈ TL.tl SIGNS, c < 256 := by
  rw [tl_SIGNS]
  decide +kernel
theorem ok_lrow {f fN fS : Addr} {fd fdN fdS : FuncData} (F : Fun K "_law_row" "_law_row" s__law_row f fd) (T : Tx mg tk) (D__law_mixed : Def P w K mg base "_law_mixed" 1 fN fdN P__law_mixed sp_mixed) (D__law_signs : Def P w K mg base "_law_signs" 1 fS fdS P__law_signs sp_signs) : FnOk P w K mg base CX0 2 f fd P__law_row sp_lrow := by
  refine F.ok sc__law_row (fun vs H Q E h => ?_) (fun cdv A outer s H vs Q E hr h => ?_)
  · obtain ⟨n, m, rfl, _⟩ := h
    rfl
  · have nd := sc__law_row.nd
    obtain ⟨n, m, rfl, hm, q⟩ := h
    refine ⟨_, (pss_one (ps_ret (pe_lc (own := [("_law_k", 2)]) (g := gName 2) (by rfl) nd (pi_range1 (by rfl) T.n_range (pa_cons (pv 1) pa_nil)) (blkOk_by (N := N__law_row) (sc := defScope s__law_row) (by decide +kernel)) (fun _ _ _ _ _ => (pg_name (i := 2) nd rfl (Or.inl rfl))) (fun _ _ _ _ _ => pts_nil) (fun _ _ _ _ _ => (pe_callB call_ord (by rfl) T.n_ord (by decide +kernel) (pa_cons (pe_ix ix_str (pe_def0 D__law_signs (hr.mono (by decide))) (pe_op op_mod (pe_def D__law_mixed (hr.mono (by decide)) (pa_cons (pv 0) (pa_cons (pv 2) pa_nil))) pe_int) (fun _ _ => rfl)) pa_nil)))))), ?_⟩
    refine ⟨.int m, rfl, m, rfl, by omega, by omega, fun D hD => lc_dem (n := m) (fun i => .int (0 + (i : Int))) (fun _ v => ∃ x : Nat, x < 256 ∧ v = .int (x : Nat)) walk_range (fun _ _ => trivial) hD (by rw [sizeLine_eq]; omega) (fun i H1 Q1 hi sm q1 => ?_) (fun H1 vs sm hl hv e => ?_)⟩
    · refine ⟨rfl, .int n, rfl, .int (0 + (i : Int)), rfl, n, 0 + (i : Int), rfl, by omega, by omega, fun r hr H2 s2 => ?_⟩
      have hsl : (TL.tl SIGNS).length = 94 := by rw [← TL.len_tl, SIGNS_len]
      obtain ⟨x, hx, ex⟩ := pickL (TL.tl SIGNS) ((r : Int) % 94) (by omega) (by omega)
      exact ⟨_, 94, rfl, rfl, (show (0 : Int) < 94 by decide), _, _, _, rfl, rfl, by rw [SIGNS_len, sizeLine_eq]; omega, ex, _, rfl, rfl, q1 _ _ s2 ⟨x, signs_low x hx, rfl⟩⟩
    · obtain ⟨u, hu, hus, rfl⟩ := pick_list (fun x : Nat => V.int (x : Nat)) (fun x => x < 256) vs fun j hj => hv j (by omega)
      exact q u hus (by omega) _ D sm hD e
theorem nb_app (a b : List Nat) : nb (a ++ b) = nb a ++ nb b := List.map_append ..
theorem bytes_app {a b : List Nat} (ha : BytesN a) (hb : BytesN b) : BytesN (a ++ b) := fun x hx => (List.mem_append.mp hx).elim (ha x) (hb x)
theorem bytes_rep {k b : Nat} (h : b < 256) : BytesN (List.replicate k b) := fun x hx => by rw [(List.mem_replicate.mp hx).2]; exact h
theorem rep_nb (k b : Nat) : (List.replicate k [V.int (b : Nat)]).flatten = nb (List.replicate k b) := by
  unfold nb
  induction k with
  | zero => rfl
  | succ k ih => rw [List.replicate_succ, List.flatten_cons, ih, List.replicate_succ, List.map_cons]; rfl
/-- [b] * k -/
theorem repI (b : Nat) {z k : Int} {te : TE} {σ : L2.St} {H : Hp} {Q : VK} (hz : z = (b : Nat)) (h0 : 0 ≤ k) (h1 : k ≤ 1000) (ht : ∀ H1 Q', Same H H1 → Tell H1 (.int k) Q' → te σ H1 Q') (q : New H (nb (List.replicate k.toNat b)) Q) : tOp rRep (tLst (tCons (tC (.int z)) tNil)) te σ H Q := by
  subst hz
  refine ⟨by show 1 ≤ _; rw [sizeLine_eq]; omega, fun p1 n1 => ht _ _ (same_upd n1) fun H2 s2 => ⟨p1, _, _, rfl, rfl, s2 _ _ upd_same, by omega, by omega, by rw [sizeLine_eq]; show 1 * _ ≤ _; omega, fun p2 n2 => ?_⟩⟩
  have s := (same_upd (o := .lst [V.int (b : Nat)]) n1).trans s2
  refine q _ p2 (s.trans (same_upd n2)) (s.free n2) ?_
  rw [upd_same, rep_nb]
theorem catB {ta tb : TE} {σ : L2.St} {H : Hp} {Q : VK} (a b : List Nat) (ha : ∀ Q', New H (nb a) Q' → ta σ H Q') (hb : ∀ H1 Q', Same H H1 → New H1 (nb b) Q' → tb σ H1 Q') (hl : a.length + b.length ≤ 5000) (q : New H (nb (a ++ b)) Q) : tOp rCat ta tb σ H Q :=
  ha _ fun H1 p1 s1 n1 e1 => hb H1 _ s1 fun H2 p2 s2 n2 e2 => ⟨p1, p2, _, _, rfl, rfl, s2 _ _ e1, e2, by rw [nb_len, nb_len, sizeLine_eq]; omega, fun p3 n3 => q _ p3 (s1.trans (s2.trans (same_upd n3))) ((s1.trans s2).free n3) (by rw [upd_same, nb_app])⟩
/-! ### _law_stretch -/
abbrev s__law_stretch : Stmt := topS 73
abbrev N__law_stretch : List Str := ["_law_n", "_law_more", "_law_some", "_law_k", "_law_sign"]
abbrev P__law_stretch : List Str := ["_law_n"]
theorem sc__law_stretch : FnScope N__law_stretch ["_law_n"] (defScope s__law_stretch) := ⟨rfl, rfl, rfl, by decide +kernel, rfl, by decide +kernel, by decide +kernel⟩
def sp_stretch : Sp := fun vs H Q _ => ∃ (n : Int), vs = [.int n] ∧ ∀ l : List Nat, BytesN l → l.length ≤ 64 → New H (nb l) Q
theorem ok_stretch {f fN fS : Addr} {fd fdN fdS : FuncData} (F : Fun K "_law_stretch" "_law_stretch" s__law_stretch f fd) (T : Tx mg tk) (D__law_mixed : Def P w K mg base "_law_mixed" 1 fN fdN P__law_mixed sp_mixed) (D__law_row : Def P w K mg base "_law_row" 2 fS fdS P__law_row sp_lrow) : FnOk P w K mg base CX0 3 f fd P__law_stretch sp_stretch := by
  refine F.ok sc__law_stretch (fun vs H Q E h => ?_) (fun cdv A outer s H vs Q E hr h => ?_)
  · obtain ⟨n, rfl, _⟩ := h
    rfl
  · have nd := sc__law_stretch.nd
    obtain ⟨n, rfl, q⟩ := h
    refine ⟨_, (pss_cons (ps_set (i := 1) nd rfl (.inr rfl) (pe_op op_fdiv (pv 0) pe_int))
      (pss_cons (ps_if (pt_cmpR op_eq (pe_op op_mod (pv 0) pe_int) pe_int (nomark _))
        (pss_one (ps_ret (pe_op op_rep (pe_lst (pa_cons pe_int pa_nil)) (pe_op op_add pe_int (pe_op op_mod (pv 1) pe_int)))))
        pss_nil)
      (pss_cons (ps_if (pt_cmpR op_lt (pe_op op_mod (pv 0) pe_int) pe_int (nomark _))
        (pss_one (ps_ret (pe_op op_cat (pe_def D__law_row (hr.mono (by decide)) (pa_cons (pv 1) (pa_cons (pe_op op_mod (pv 1) pe_int) pa_nil))) (pe_op op_rep (pe_lst (pa_cons pe_int pa_nil)) (pe_callTy call_int1 (by rfl) T.n_int (by decide +kernel) (pa_cons (pe_cmpR op_gt (pe_op op_mod (pe_op op_fdiv (pv 1) pe_int) pe_int) pe_int (nomark _)) pa_nil))))))
        pss_nil)
      (pss_cons (ps_if (pt_cmpR op_eq (pe_op op_mod (pv 0) pe_int) pe_int (nomark _))
        (pss_one (ps_ret (pe_op op_cat (pe_op op_rep (pe_lst (pa_cons pe_int pa_nil)) (pe_op op_add pe_int (pe_op op_mod (pv 1) pe_int))) (pe_op op_rep (pe_lst (pa_cons pe_int pa_nil)) (pe_op op_mod (pe_op op_fdiv (pv 1) pe_int) pe_int)))))
        pss_nil)
      (pss_cons (ps_if (pt_cmpR op_eq (pe_op op_mod (pv 0) pe_int) pe_int (nomark _))
        (pss_one (ps_ret (pe_lc (own := [("_law_k", 3)]) (g := gName 3) (by rfl) nd (pi_range1 (by rfl) T.n_range (pa_cons (pe_op op_mod (pv 1) pe_int) pa_nil)) (blkOk_by (N := N__law_stretch) (sc := defScope s__law_stretch) (by decide +kernel)) (fun _ _ _ _ _ => (pg_name (i := 3) nd rfl (Or.inl rfl))) (fun _ _ _ _ _ => pts_nil) (fun _ _ _ _ _ => (pe_op op_mod (pe_def D__law_mixed (hr.mono (by decide)) (pa_cons (pv 1) (pa_cons (pv 3) pa_nil))) pe_int)))))
        pss_nil)
      (pss_cons (ps_if (pt_cmpR op_eq (pe_op op_mod (pv 0) pe_int) pe_int (nomark _))
        (pss_one (ps_ret (pe_op op_cat (pe_op op_cat (pe_lst (pa_cons pe_int pa_nil)) (pe_op op_rep (pe_lst (pa_cons pe_int pa_nil)) (pe_op op_add pe_int (pe_op op_mod (pv 1) pe_int)))) (pe_op op_rep (pe_lst (pa_cons pe_int pa_nil)) (pe_op op_mod (pe_op op_fdiv (pv 1) pe_int) pe_int)))))
        pss_nil)
      (pss_cons (ps_if (pt_cmpR op_eq (pe_op op_mod (pv 0) pe_int) pe_int (nomark _))
        (pss_cons (ps_set (i := 2) nd rfl (.inl rfl) (pe_lst (pa_cons pe_str (pa_cons pe_str (pa_cons pe_str (pa_cons pe_str (pa_cons pe_str (pa_cons pe_str (pa_cons pe_str pa_nil)))))))))
        (pss_one (ps_ret (pe_op op_cat (pe_lc (own := [("_law_sign", 4)]) (g := gName 4) (by rfl) nd (pi_str (pe_ix (ixL K) (pv 2) (pe_op op_mod (pv 1) pe_int) (fun _ _ => rfl))) (blkOk_by (N := N__law_stretch) (sc := defScope s__law_stretch) (by decide +kernel)) (fun _ _ _ _ _ => (pg_name (i := 4) nd rfl (Or.inl rfl))) (fun _ _ _ _ _ => pts_nil) (fun _ _ _ _ _ => (pe_callB call_ord (by rfl) T.n_ord (by decide +kernel) (pa_cons (pv 4) pa_nil)))) (pe_op op_rep (pe_lst (pa_cons pe_int pa_nil)) (pe_op op_mod (pe_op op_fdiv (pv 1) pe_int) pe_int))))))
        pss_nil)
      (pss_one (ps_ret (pe_lst (pa_cons (pe_ix (ixL K) (pe_lst (pa_cons pe_int (pa_cons pe_int (pa_cons pe_int (pa_cons pe_int (pa_cons pe_int (pa_cons pe_int (pa_cons pe_int pa_nil)))))))) (pe_op op_mod (pv 1) pe_int) (fun _ _ => rfl)) pa_nil))))))))))), ?_⟩
    dsimp only [tSeq, tAsg, gName]
    refine ⟨_, rfl, n, 8, rfl, rfl, ⟨by decide, by decide⟩, ?_⟩
    refine ⟨_, rfl, n, 8, rfl, rfl, (show (0 : Int) < 8 by decide), rfl, _, rfl, ite2 (fun _ => ?_) (fun _ => ?_)⟩
    · refine repI 10 rfl (k := 1 + (n / 8) % 2) (by omega) (by omega) (fun H1 Q' s1 q' => ⟨_, rfl, _, 2, rfl, rfl, (show (0 : Int) < 2 by decide), 1, _, rfl, rfl, q' _ (Same.refl _)⟩) (q _ (bytes_rep (by decide)) (by rw [List.length_replicate]; omega))
    dsimp only [tNext, tSeq]
    refine ⟨_, rfl, n, 8, rfl, rfl, (show (0 : Int) < 8 by decide), _, 3, rfl, rfl, _, rfl, ite2 (fun _ => ?_) (fun _ => ?_)⟩
    · have h63 : (n / 8) % 63 = ((((n / 8) % 63).toNat : Nat) : Int) := by omega
      refine ⟨.int (n / 8), rfl, _, rfl, (n / 8), 63, rfl, rfl, (show (0 : Int) < 63 by decide), (n / 8), ((n / 8) % 63).toNat, by show [V.int (n / 8), V.int ((n / 8) % 63)] = _; rw [← h63], by omega, fun l hb hl H1 p1 s1 n1 e1 => ?_⟩
      have key : ∀ b : Bool, ∃ k : Int, k = (if b = true then 1 else 0) ∧ 0 ≤ k ∧ k ≤ 1 := fun b => by cases b <;> exact ⟨_, rfl, by decide, by decide⟩
      obtain ⟨k, hk, hk0, hk1⟩ := key (decide (0 < (n / 8) / 63 % 3))
      refine repI 10 rfl (k := k) hk0 (by omega) (fun H2 Q' s2 q' => ⟨_, rfl, (n / 8), 63, rfl, rfl, ⟨by decide, by decide⟩, _, 3, rfl, rfl, (show (0 : Int) < 3 by decide), _, 0, rfl, rfl, .inr ⟨_, rfl, by rw [← hk]; exact q' _ (Same.refl _)⟩⟩) (fun H2 p2 s2 n2 e2 => ⟨p1, p2, _, _, rfl, rfl, s2 _ _ e1, e2, by rw [nb_len, nb_len, List.length_replicate, sizeLine_eq]; omega, fun p3 n3 => q (l ++ List.replicate k.toNat 10) (bytes_app hb (bytes_rep (by decide))) (by rw [List.length_append, List.length_replicate]; omega) _ p3 (s1.trans (s2.trans (same_upd n3))) ((s1.trans s2).free n3) (by rw [upd_same, nb_app])⟩)
    dsimp only [tNext, tSeq]
    refine ⟨_, rfl, n, 8, rfl, rfl, (show (0 : Int) < 8 by decide), rfl, _, rfl, ite2 (fun _ => ?_) (fun _ => ?_)⟩
    · refine catB _ _ (fun Q' q' => repI 32 rfl (k := 1 + (n / 8) % 3) (by omega) (by omega) (fun H1 Q' s1 q' => ⟨_, rfl, _, 3, rfl, rfl, (show (0 : Int) < 3 by decide), 1, _, rfl, rfl, q' _ (Same.refl _)⟩) q') (fun H1 Q' s1 q' => repI 10 rfl (k := (n / 8) / 3 % 2) (by omega) (by omega) (fun H1 Q' s1 q' => ⟨_, rfl, _, 3, rfl, rfl, ⟨by decide, by decide⟩, _, 2, rfl, rfl, (show (0 : Int) < 2 by decide), q' _ (Same.refl _)⟩) q') (by rw [List.length_replicate, List.length_replicate]; omega) (q _ (bytes_app (bytes_rep (by decide)) (bytes_rep (by decide))) (by rw [List.length_append, List.length_replicate, List.length_replicate]; omega))
    dsimp only [tNext, tSeq]
    refine ⟨_, rfl, n, 8, rfl, rfl, (show (0 : Int) < 8 by decide), rfl, _, rfl, ite2 (fun _ => ?_) (fun _ => ?_)⟩
    · refine ⟨_, rfl, (n / 8), 31, rfl, rfl, (show (0 : Int) < 31 by decide), (n / 8) % 31, rfl, by omega, by omega, fun D hD => lc_dem (fun i => .int (0 + (i : Int))) (fun _ v => ∃ x : Nat, x < 256 ∧ v = .int (x : Nat)) walk_range (fun _ _ => trivial) hD (by rw [sizeLine_eq]; omega) (fun i H1 Q1 hi sm q1 => ?_) (fun H1 vs sm hl hv e => ?_)⟩
      · refine ⟨_, rfl, _, rfl, (n / 8), 0 + (i : Int), rfl, by omega, by omega, fun r hr H2 s2 => ?_⟩
        exact ⟨_, 256, rfl, rfl, (show (0 : Int) < 256 by decide), q1 _ _ s2 ⟨r % 256, by omega, by rw [Int.natCast_emod]; rfl⟩⟩
      · obtain ⟨u, hu, hus, rfl⟩ := pick_list (fun x : Nat => V.int (x : Nat)) (fun x => x < 256) vs fun j hj => hv j (by omega)
        exact q u hus (by omega) _ D sm hD e
    dsimp only [tNext, tSeq]
    refine ⟨_, rfl, n, 8, rfl, rfl, (show (0 : Int) < 8 by decide), rfl, _, rfl, ite2 (fun _ => ?_) (fun _ => ?_)⟩
    · refine catB _ _ (fun Q' q' => catB [10] _ (fun Q2 q2 => ⟨by show 1 ≤ _; rw [sizeLine_eq]; omega, fun p np => q2 _ p (same_upd np) np upd_same⟩) (fun H1 Q2 s1 q2 => repI 97 rfl (k := 58 + (n / 8) % 5) (by omega) (by omega) (fun H1 Q' s1 q' => ⟨_, rfl, _, 5, rfl, rfl, (show (0 : Int) < 5 by decide), 58, _, rfl, rfl, q' _ (Same.refl _)⟩) q2) (by rw [List.length_replicate, List.length_singleton]; omega) q') (fun H1 Q' s1 q' => repI 10 rfl (k := (n / 8) / 5 % 2) (by omega) (by omega) (fun H1 Q' s1 q' => ⟨_, rfl, _, 5, rfl, rfl, ⟨by decide, by decide⟩, _, 2, rfl, rfl, (show (0 : Int) < 2 by decide), q' _ (Same.refl _)⟩) q') (by rw [List.length_append, List.length_replicate, List.length_replicate, List.length_singleton]; omega) (q _ (bytes_app (bytes_app (fun x hx => by rw [List.mem_singleton.mp hx]; decide) (bytes_rep (by decide))) (bytes_rep (by decide))) (by rw [List.length_append, List.length_append, List.length_replicate, List.length_replicate, List.length_singleton]; omega))
    dsimp only [tNext, tSeq]
    refine ⟨_, rfl, n, 8, rfl, rfl, (show (0 : Int) < 8 by decide), rfl, _, rfl, ite2 (fun _ => ?_) (fun _ => ?_)⟩
    · dsimp only [tSeq, tAsg, gName]
      refine ⟨Nat.le_of_lt (small1000 (show 7 ≤ 1000 by decide)), fun p np => ?_⟩
      have s0 := same_upd (o := .lst [V.str (Str.ofString "--b0"), .str (Str.ofString "=3D"), .str (Str.ofString "="), .str (Str.ofString "a ="), .str (Str.ofString "--b1--"), .str (Str.ofString "Body: plain"), .str (Str.ofString " b")]) np
      obtain ⟨v, hv, ev⟩ := pickL [V.str (Str.ofString "--b0"), .str (Str.ofString "=3D"), .str (Str.ofString "="), .str (Str.ofString "a ="), .str (Str.ofString "--b1--"), .str (Str.ofString "Body: plain"), .str (Str.ofString " b")] ((n / 8) % 7) (by omega) (by show _ < (7 : Int); omega)
      obtain ⟨z, rfl, hz1, hz2⟩ : ∃ z : Str, v = .str z ∧ (TL.tl z).length ≤ 11 ∧ ∀ c ∈ TL.tl z, c < 256 := by
        simp only [List.mem_cons, List.mem_nil_iff, or_false] at hv
        rcases hv with rfl | rfl | rfl | rfl | rfl | rfl | rfl <;> exact ⟨_, rfl, by decide +kernel, by decide +kernel⟩
      refine ⟨_, rfl, _, rfl, _, 7, rfl, rfl, (show (0 : Int) < 7 by decide), p, _, _, _, rfl, rfl, .inl (.inl upd_same), ev, z, rfl, fun D hD => lc_pure (n := (TL.tl z).length) (fun i => .str ⟨#[(TL.tl z).getD i 0]⟩) (fun i => .int (((TL.tl z).getD i 0 : Nat) : Int)) walk_strF (fun _ _ => trivial) hD (by rw [sizeLine_eq]; omega) (fun i H1 Q1 hi sm q1 => ?_) (fun H1 sm e => ?_)⟩
      · exact ⟨_, rfl, _, rfl, rfl, q1 _ (Same.refl _)⟩
      · have e1 : H1 D = some (.lst (nb (TL.tl z))) := by
          rw [e]
          exact congrArg (fun x => some (HO.lst x)) (map_range (TL.tl z) 0 fun c => V.int (c : Nat))
        have nD := s0.free hD
        have s1 := s0.trans sm
        refine repI 10 rfl (k := (n / 8) / 7 % 2) (by omega) (by omega) (fun H1 Q' s1 q' => ⟨_, rfl, _, 7, rfl, rfl, ⟨by decide, by decide⟩, _, 2, rfl, rfl, (show (0 : Int) < 2 by decide), q' _ (Same.refl _)⟩) (fun H2 p2 s2 n2 e2 => ⟨D, p2, _, _, rfl, rfl, s2 _ _ e1, e2, by rw [nb_len, nb_len, List.length_replicate, sizeLine_eq]; omega, fun p3 n3 => q (TL.tl z ++ List.replicate ((n / 8) / 7 % 2).toNat 10) (bytes_app hz2 (bytes_rep (by decide))) (by rw [List.length_append, List.length_replicate]; omega) _ p3 (s1.trans (s2.trans (same_upd n3))) ((s1.trans s2).free n3) (by rw [upd_same, nb_app])⟩)
    dsimp only [tNext, tSeq]
    refine ⟨Nat.le_of_lt (small1000 (show 7 ≤ 1000 by decide)), fun p np => ⟨_, rfl, (n / 8), 7, rfl, rfl, (show (0 : Int) < 7 by decide), ?_⟩⟩
    obtain ⟨v, hv, ev⟩ := pickL [V.int 37, .int 61, .int 127, .int 0, .int 255, .int 9, .int 13] ((n / 8) % 7) (by omega) (by show _ < (7 : Int); omega)
    obtain ⟨z, rfl, hz⟩ : ∃ z : Nat, v = .int (z : Nat) ∧ z < 256 := by
      simp only [List.mem_cons, List.mem_nil_iff, or_false] at hv
      rcases hv with rfl | rfl | rfl | rfl | rfl | rfl | rfl
      · exact ⟨37, rfl, by decide⟩
      · exact ⟨61, rfl, by decide⟩
      · exact ⟨127, rfl, by decide⟩
      · exact ⟨0, rfl, by decide⟩
      · exact ⟨255, rfl, by decide⟩
      · exact ⟨9, rfl, by decide⟩
      · exact ⟨13, rfl, by decide⟩
    exact ⟨p, _, _, _, rfl, rfl, .inl (.inl upd_same), ev, by show 1 ≤ _; rw [sizeLine_eq]; omega, fun p2 n2 => q [z] (fun x hx => by rw [List.mem_singleton.mp hx]; exact hz) (by show 1 ≤ 64; decide) _ p2 ((same_upd np).trans (same_upd n2)) ((same_upd np).free n2) upd_same⟩
end
end K20

namespace K20
open PySem PySem.Spec PyProof.Rows L2 LH
/-! ### the law's dict of signs -/
def SGK : List (Key × V) := (TL.tl SIGNS).map fun c => (Sum.inl ((c : Nat) : Int), V.str ⟨#[c]⟩)
def SGD : List (Key × V) := mergeK [] SGK
theorem sgd_get {b : Nat} (h : b < 256) : valV SGD (Sum.inl ((b : Nat) : Int)) = if isSgn b = true then some (V.str ⟨#[b]⟩) else none := by
  have : ∀ d : Fin 256, valV SGD (Sum.inl ((d.val : Nat) : Int)) = if isSgn d.val = true then some (V.str ⟨#[d.val]⟩) else none := by decide +kernel
  exact this ⟨b, h⟩
theorem paired_of {α β : Type} {F : α → β → Prop} (a0 : α) (b0 : β) : ∀ (as : List α) (bs : List β), as.length = bs.length → (∀ i, i < as.length → F (as.getD i a0) (bs.getD i b0)) → Paired F as bs
  | [], [], _, _ => .nil
  | a :: as, b :: bs, h, hf => .cons (hf 0 (Nat.zero_lt_succ _)) (paired_of a0 b0 as bs (Nat.succ.inj h) fun i hi => hf (i + 1) (Nat.succ_lt_succ hi))
  | [], _ :: _, h, _ => nomatch h
  | _ :: _, [], h, _ => nomatch h
theorem split_mem_of (s : Nat) : ∀ (l : List Nat) (b : Nat), b ∈ l → b ≠ s → ∃ p ∈ splitL s l, b ∈ p
  | c :: r, b, hb, hne => by
    unfold splitL
    by_cases hc : c = s
    · rw [if_pos hc]
      rcases List.mem_cons.mp hb with rfl | hb
      · exact absurd hc hne
      · obtain ⟨p, hp, hbp⟩ := split_mem_of s r b hb hne
        exact ⟨p, List.mem_cons_of_mem _ hp, hbp⟩
    · rw [if_neg hc]
      obtain ⟨x, y, e⟩ := List.exists_cons_of_ne_nil (splitL_ne s r)
      rcases List.mem_cons.mp hb with rfl | hb
      · exact ⟨b :: (splitL s r).headD [], by simp, by simp⟩
      · obtain ⟨p, hp, hbp⟩ := split_mem_of s r b hb hne
        rw [e] at hp ⊢
        rcases List.mem_cons.mp hp with rfl | hp
        · exact ⟨c :: p, by simp, by simp [hbp]⟩
        · exact ⟨p, by simp [hp], hbp⟩
theorem split_no (s : Nat) : ∀ (l : List Nat) (p : List Nat), p ∈ splitL s l → s ∉ p
  | [], p, hp => by
    unfold splitL at hp
    rw [List.mem_singleton.mp hp]
    simp
  | c :: r, p, hp => by
    unfold splitL at hp
    by_cases hc : c = s
    · rw [if_pos hc] at hp
      rcases List.mem_cons.mp hp with rfl | hp
      · simp
      · exact split_no s r p hp
    · rw [if_neg hc] at hp
      obtain ⟨x, y, e⟩ := List.exists_cons_of_ne_nil (splitL_ne s r)
      have hx := split_no s r
      rw [e] at hp hx
      rcases List.mem_cons.mp hp with rfl | hp
      · intro h
        rcases List.mem_cons.mp h with h | h
        · exact hc h.symm
        · exact hx x (by simp) h
      · exact hx p (List.mem_cons_of_mem _ hp)
section
variable {P : Program} {w : World} {K : PySem.W.Frag} {mg : Str → Option Value} {base : Heap} {tk : Nat → Tok} {ca : Nat → Addr} {C : Addr}
theorem getD_map_of {α β : Type} (l : List α) (f : α → β) (a0 : α) (b0 : β) (i : Nat) (h : i < l.length) : (l.map f).getD i b0 = f (l.getD i a0) := by
  rw [List.getD_eq_getElem?_getD, List.getElem?_map, List.getElem?_eq_getElem h, List.getD_eq_getElem?_getD, List.getElem?_eq_getElem h]
  rfl
theorem signs_dict {σ : L2.St} {H : Hp} {Q : VK} (hσ : 4 < σ.length) (q : NewO H (.dK SGD) Q) : tCB (fun xs H_1 Q => ∃ (a : Addr) (ps : List Addr) (kvs : List (Key × V)), xs = [V.ref a] ∧ SqL K H_1 a (ps.map V.ref) ∧ Paired (fun (p : Addr) (kv : Key × V) => SqT K H_1 p [kV kv.1, kv.2]) ps kvs ∧ ∀ p, H_1 p = none → Q (V.ref p) (upd H_1 p (.dK (mergeK [] kvs))))
    (tCons (tLc (iStr (tCall sp_signs [] E0 tNil)) (gName 4) tYes (tTup (tCons (tCB (fun xs H Q => ∃ x : Str, xs = [V.str x] ∧ x.length = 1 ∧ Q (V.int ((x.cps.getD 0 0 : Nat) : Int)) H) (tCons (tVar 4) tNil)) (tCons (tVar 4) tNil))) [4]) tNil) σ H Q := by
  have hsl : (TL.tl SIGNS).length = 94 := by rw [← TL.len_tl, SIGNS_len]
  refine ⟨rfl, SIGNS, rfl, fun D hD => lc_newO (n := (TL.tl SIGNS).length) (fun i => .str ⟨#[(TL.tl SIGNS).getD i 0]⟩) (fun i => .tup [.int (((TL.tl SIGNS).getD i 0 : Nat) : Int), .str ⟨#[(TL.tl SIGNS).getD i 0]⟩]) walk_strF (fun _ _ => trivial) hD (by rw [hsl, sizeLine_eq]; omega) (fun i H2 Q2 hi s2 q2 => ?_) (fun H2 us s2 hl hu e => ?_)⟩
  · have hg : ((σ.set 4 none).set 4 (some (V.str ⟨#[(TL.tl SIGNS).getD i 0]⟩)))[4]? = some (some (V.str ⟨#[(TL.tl SIGNS).getD i 0]⟩)) := List.getElem?_set_self (by simpa using hσ)
    exact ⟨_, hg, _, rfl, rfl, _, hg, by show 2 ≤ _; rw [sizeLine_eq]; omega, fun p np => q2 _ p (same_upd np) np upd_same⟩
  · refine ⟨D, us, SGK, rfl, .inl (.inl e), paired_of 0 (.inl 0, .non) us SGK (by unfold SGK; rw [List.length_map]; exact hl) (fun i hi => ?_), fun p np => q _ p (s2.trans (same_upd np)) (s2.free np) upd_same⟩
    rw [show SGK.getD i (.inl 0, .non) = (Sum.inl (((TL.tl SIGNS).getD i 0 : Nat) : Int), V.str ⟨#[(TL.tl SIGNS).getD i 0]⟩) from getD_map_of (TL.tl SIGNS) _ 0 _ i (by omega)]
    exact .inl (.inl (hu i (by omega)).2)
theorem hex_at {n : Nat} (h : n < 16) : atI (TL.tl (Str.ofString "0123456789ABCDEF")) ((n : Nat) : Int) = some (hexDig n) := by
  refine atI_nat ?_
  have : ∀ d : Fin 16, (TL.tl (Str.ofString "0123456789ABCDEF"))[d.val]? = some (hexDig d.val) := by decide +kernel
  exact this ⟨n, h⟩
theorem split_val {ws : List Str} (hw : WsOk ws) : ∃ vs, Txt.split (Txt.join (Str.ofString " ") ws) (Str.ofString " ") = vs ∧ vs.length ≤ ws.length + 1 ∧ vs.filter (fun x => !decide (TL.tl x = [])) = ws := by
  have hs := split_tl (x := Txt.join (Str.ofString " ") ws) (y := Str.ofString " ") (s := 32) tl_blank (by decide)
  rw [TL.join_eq, TL.tl_join, tl_blank] at hs
  cases ws with
  | nil =>
    have : Txt.split (Txt.join (Str.ofString " ") []) (Str.ofString " ") = [Str.ofString ""] := by
      refine (List.map_inj_right (f := TL.tl) fun x y e => TL.ext_tl e).mp ?_
      have h2 : (Txt.split (Txt.join (Str.ofString " ") []) (Str.ofString " ")).map TL.tl = [[]] := by
        rw [TL.join_eq]
        exact hs
      rw [h2, List.map_singleton, tl_empty]
    exact ⟨_, this, Nat.le_refl _, by decide +kernel⟩
  | cons x r =>
    rw [splitL_join 32 _ (by simp) fun p hp => ?_] at hs
    · refine ⟨_, (List.map_inj_right (f := TL.tl) fun x y e => TL.ext_tl e).mp (by rw [TL.join_eq]; exact hs), by omega, List.filter_eq_self.mpr fun y hy => ?_⟩
      rw [decide_eq_false (hw y hy).1.1]
      rfl
    · obtain ⟨y, hy, rfl⟩ := List.mem_map.mp hp
      intro hm
      have := (hw y hy).1.2 32 hm
      omega
def badLn (x : List Nat) : Bool := decide (60 < x.length) || decide (x.getLast? = some 32)
theorem plain_bad {x : List Nat} (h : ∀ b ∈ x, isSgn b = true) : plainLn x = !badLn x := by
  show (decide (x.length ≤ 60) && (x.all isSgn && !decide (x.getLast? = some 32))) = !(decide (60 < x.length) || decide (x.getLast? = some 32))
  rw [List.all_eq_true.mpr h, Bool.true_and, Bool.not_or, show (!decide (60 < x.length)) = decide (x.length ≤ 60) by rw [← decide_not]; exact decide_eq_decide.mpr (by omega)]
/-! ### _law_plain -/
abbrev s__law_plain : Stmt := topS 74
abbrev N__law_plain : List Str := ["_law_row_here", "_law_signs_here", "_law_rows", "_law_byte", "_law_sign", "_law_one"]
abbrev P__law_plain : List Str := ["_law_row_here"]
theorem sc__law_plain : FnScope N__law_plain ["_law_row_here"] (defScope s__law_plain) := ⟨rfl, rfl, rfl, by decide +kernel, rfl, by decide +kernel, by decide +kernel⟩
def sp_lplain : Sp := fun vs H Q _ => ∃ (a : Addr) (l : List Nat), vs = [.ref a] ∧ H a = some (.lst (nb l)) ∧ BytesN l ∧ l.length ≤ 4040 ∧ ((splitL 10 l).all plainLn = true → New H ((strL (splitL 10 l)).map V.str) Q) ∧ ((splitL 10 l).all plainLn = false → Tell H .non Q)
theorem ok_lplain {f fS : Addr} {fd fdS : FuncData} (F : Fun K "_law_plain" "_law_plain" s__law_plain f fd) (T : Tx mg tk) (D__law_signs : Def P w K mg base "_law_signs" 1 fS fdS P__law_signs sp_signs) : FnOk P w K mg base CX0 2 f fd P__law_plain sp_lplain := by
  refine F.ok sc__law_plain (fun vs H Q E h => ?_) (fun cdv A outer s H vs Q E hr h => ?_)
  · obtain ⟨a, l, rfl, _⟩ := h
    rfl
  · have nd := sc__law_plain.nd
    obtain ⟨a, l, rfl, ea, hb, hl, q1, q2⟩ := h
    refine ⟨_, (pss_cons (ps_set (i := 1) nd rfl (.inl rfl) (pe_callTy (call_dictP rfl) (by rfl) T.n_dict (by decide +kernel) (pa_cons (pe_lc (own := [("_law_sign", 4)]) (g := gName 4) (by rfl) nd (pi_str (pe_def0 D__law_signs (hr.mono (by decide)))) (blkOk_by (N := N__law_plain) (sc := defScope s__law_plain) (by decide +kernel)) (fun _ _ _ _ _ => (pg_name (i := 4) nd rfl (Or.inl rfl))) (fun _ _ _ _ _ => pts_nil) (fun _ _ _ _ _ => (pe_tup (pa_cons (pe_callB call_ord (by rfl) T.n_ord (by decide +kernel) (pa_cons (pv 4) pa_nil)) (pa_cons (pv 4) pa_nil))))) pa_nil)))
      (pss_cons (ps_set (i := 2) nd rfl (.inl rfl) (pe_lst (pa_cons pe_str pa_nil)))
      (pss_cons (ps_for PassesOwn.never rfl (pi_list (pv 0)) (pg_name (i := 3) nd rfl (Or.inl rfl))
        (pss_one (ps_if (pt_cmpR op_eq (pv 3) pe_int (nomark _))
          (pss_one (ps_expr (pe_bm PySem.F.plainAttrs_list PySem.F.slot_list_append PySem.F.type_list_append mt_append (pv 2) (pa_cons pe_str pa_nil))))
          (pss_one (ps_if (pt_cmp (pc_dnotin (LH.unit1 hr) (pv 3) (pv 1)))
            (pss_one (ps_ret pe_non))
            (pss_one (ps_asg (pe_op op_add_str (pe_ix (ixL K) (pv 2) (pe_un un_neg pe_int) (fun _ _ => rfl)) (pe_dget (LH.unit1 hr) (pv 1) (pv 3) (fun _ _ => rfl))) (pg_sub (pv 2) (pe_un un_neg pe_int) set_list))))))))
      (pss_cons (ps_if (pt_cmpR (oNeD K hr.units) (pe_lc (own := [("_law_one", 5)]) (g := gName 5) (by rfl) nd (pi_list (pv 2)) (blkOk_by (N := N__law_plain) (sc := defScope s__law_plain) (by decide +kernel)) (fun _ _ _ _ _ => (pg_name (i := 5) nd rfl (Or.inl rfl))) (fun _ _ _ _ _ => (pts_one (PW.pt (pw_or (pt_cmpR op_gt (pe_callB call_len_str (by rfl) T.n_len (by decide +kernel) (pa_cons (pv 5) pa_nil)) pe_int (nomark _)) (pw_or1 (pt_cmpR op_eq (pe_slice sl_str (pv 5) (po_some (pe_un un_neg pe_int)) po_none) pe_str (nomark _))))))) (fun _ _ _ _ _ => (pv 5))) (pe_lst pa_nil) (nomark _))
        (pss_one (ps_ret pe_non))
        pss_nil)
      (pss_one (ps_ret (pv 2))))))), ?_⟩
    dsimp only [tSeq, tAsg, gName]
    refine signs_dict (by show 4 < 6; decide) fun H1 d s1 nd ed => ⟨by show 1 ≤ _; rw [sizeLine_eq]; omega, fun o no => ?_⟩
    have e1 := s1 _ _ ea
    have s0 := same_upd (o := .lst [V.str (Str.ofString "")]) no
    have hno : H o = none := s1.free no
    have hml : (nb l).length = l.length := nb_len l
    refine ⟨.ref a, rfl, a, rfl, ⟨_, .inl (.inl (s0 _ _ e1))⟩, for_it walk_list (fun i σ H' => ∃ y3, σ = [some (.ref a), some (.ref d), some (.ref o), y3, none, none] ∧ Same H1 H' ∧ H' o = some (.lst ((strL (splitL 10 (l.take i))).map V.str)) ∧ ∀ b ∈ l.take i, b = 10 ∨ isSgn b = true)
      ⟨none, rfl, s0, upd_same, (fun _ h => by cases h)⟩ (fun i σ H' _ h => by obtain ⟨y, rfl, sm, _⟩ := h; exact .inl (.inl (sm _ _ e1))) (fun i x σ H' H'' hi hP hy => ?_) (fun σ H' hP => ?_)⟩
    · obtain ⟨y3, rfl, sm, eo, hg⟩ := hP
      obtain ⟨rfl, hx⟩ := hy
      rw [hml] at hi
      unfold nb at hx
      rw [List.getElem?_map, List.getElem?_eq_getElem hi] at hx
      obtain rfl := Option.some.inj hx
      have hbi := hb l[i] (List.getElem_mem hi)
      have htk : l.take (i + 1) = l.take i ++ [l[i]] := by rw [List.take_add_one, List.getElem?_eq_getElem hi]; rfl
      have hst : splitL 10 (l.take (i + 1)) = pstep 10 (splitL 10 (l.take i)) l[i] := by
        rw [← split_fold, ← split_fold, htk, List.foldl_append]
        rfl
      have hmany : (splitL 10 (l.take i)).length ≤ 4041 := by
        have := splitL_len 10 (l.take i)
        rw [List.length_take] at this
        omega
      have hg2 : l[i] = 10 ∨ isSgn l[i] = true → ∀ b ∈ l.take (i + 1), b = 10 ∨ isSgn b = true := fun h b hb => by
        rw [htk] at hb
        rcases List.mem_append.mp hb with hb | hb
        · exact hg b hb
        · rw [List.mem_singleton.mp hb]; exact h
      have hlen : ∀ x ∈ splitL 10 (l.take i), x.length ≤ 4040 := fun x hx => by
        have := splitL_le 10 (l.take i) x hx
        rw [List.length_take] at this
        omega
      obtain ⟨A, c, hAc⟩ : ∃ A c, splitL 10 (l.take i) = A ++ [c] := by
        rcases List.eq_nil_or_concat (splitL 10 (l.take i)) with h0 | ⟨L, y, h0⟩
        · exact absurd h0 (splitL_ne 10 _)
        · exact ⟨L, y, by rw [h0, List.concat_eq_append]⟩
      have hmem : l[i] ∈ l := List.getElem_mem hi
      generalize l[i] = b at *
      rw [hAc] at hst eo hmany hlen
      rw [strL_app, List.map_append] at eo
      have eo : H'' o = some (.lst ((strL A).map V.str ++ [.str ⟨c.toArray⟩])) := eo
      have hdl : ((strL A).map V.str).length = A.length := by rw [List.length_map, strL_len]
      have hcl : (⟨c.toArray⟩ : Str).length = c.length := mk_len _
      have hcl2 := hlen c (by simp)
      rw [List.length_append, List.length_singleton] at hmany
      refine ⟨_, rfl, rfl, _, rfl, ite2 (fun e => ?_) (fun e => ?_)⟩
      · have e10 : b = 10 := by
          have := of_decide_eq_true e
          have := V.int.inj this
          omega
        rw [pstep_hit 10 _ e10] at hst
        refine ⟨.ref o, rfl, .inl ⟨rfl, _, .inl (.inl eo)⟩, o, _, _, rfl, rfl, eo, ?_, _, rfl, fun b x e => ?_, ?_, hg2 (.inl e10)⟩
        · rw [List.length_append, hdl, sizeLine_eq, List.length_singleton]; omega
        · rw [upd_ne (ne_of_none e no)]
          exact sm _ _ e
        · rw [upd_same, hst, strL_app, strL_app, List.map_append, List.map_append]
          rfl
      · have n10 : b ≠ 10 := fun h => e (by rw [h]; rfl)
        rw [pstep_miss 10 _ n10, List.dropLast_concat, List.getLastD_concat] at hst
        have ed2 := sm _ _ ed
        refine ⟨_, rfl, _, rfl, d, _, rfl, DGet.k (k := Sum.inl ((b : Nat) : Int)) ed2, _, rfl, ?_⟩
        rw [sgd_get hbi]
        by_cases hs : isSgn b = true
        · rw [if_pos hs]
          refine iteF ⟨.ref o, rfl, 1, rfl, o, _, -1, .str ⟨c.toArray⟩, rfl, rfl, .inl (.inl eo), atI_last _ _, .ref d, rfl, _, rfl, d, .str ⟨#[b]⟩, rfl, ?_, _, _, rfl, rfl, ?_, .ref o, rfl, 1, rfl, o, _, -1, _, rfl, rfl, eo, ixN_last _ _, ?_⟩
          · have := DGet.k (k := Sum.inl ((b : Nat) : Int)) ed2
            rw [sgd_get hbi, if_pos hs] at this
            exact this
          · rw [hcl, sizeLine_eq]; show _ + 1 ≤ _; omega
          · refine ⟨_, rfl, fun b x e => ?_, ?_, hg2 (.inr hs)⟩
            · rw [upd_ne (ne_of_none e no)]
              exact sm _ _ e
            · have ee : (⟨c.toArray⟩ : Str) ++ (⟨#[b]⟩ : Str) = ⟨(c ++ [b]).toArray⟩ := TL.ext_tl (by rw [TL.tl_append])
              rw [upd_same, hst, set_last, ee, strL_app, List.map_append]
              rfl
        · rw [if_neg hs]
          refine iteT (q2 ?_ _ (s1.trans sm))
          obtain ⟨p, hp, hbp⟩ := split_mem_of 10 l b hmem n10
          refine List.all_eq_false.mpr ⟨p, hp, fun hpl => hs (plain_sgn hpl b hbp)⟩
    · obtain ⟨y3, rfl, sm, eo, hg⟩ := hP
      rw [hml, List.take_length] at eo hg
      have hps := splitL_len 10 l
      have hsp : ∀ x ∈ splitL 10 l, (∀ b ∈ x, isSgn b = true) ∧ x.length ≤ 4040 := fun x hx => by
        refine ⟨fun b hb => ?_, by have := splitL_le 10 l x hx; omega⟩
        rcases hg b (splitL_mem 10 l x hx b hb) with h | h
        · rw [h] at hb
          exact absurd hb (split_no 10 l x hx)
        · exact h
      have hall : (splitL 10 l).all plainLn = !(splitL 10 l).any badLn := by
        rw [Bool.eq_iff_iff, List.all_eq_true, Bool.not_eq_true', List.any_eq_false]
        exact ⟨fun h x hx => by have := h x hx; rw [plain_bad (hsp x hx).1] at this; simpa using this, fun h x hx => by rw [plain_bad (hsp x hx).1]; simpa using h x hx⟩
      generalize hgp : splitL 10 l = ps at *
      have hm : ((strL ps).map V.str).length = ps.length := by rw [List.length_map, strL_len]
      refine ⟨.ref o, rfl, o, rfl, ⟨_, .inl (.inl eo)⟩, fun D hD => lc_filt (fun i => ((strL ps).map V.str).getD i .non) (fun i => .str (S' (ps.getD i []))) (fun i => badLn (ps.getD i [])) walk_listF (fun H2 s2 => s2.seq (.inl (.inl eo))) hD (by rw [hm, sizeLine_eq]; omega) (fun i H2 Q2 hi s2 q2 => ?_) (fun i H2 Q2 hi s2 hbad q2 => ?_) (fun H2 s2 e => ⟨Nat.zero_le _, fun g ng => ?_⟩)⟩
      · rw [hm] at hi
        rw [strL_at ps i hi]
        have hx := hsp _ (getD_mem ps [] hi)
        generalize ps.getD i [] = x at *
        have hxl : (⟨x.toArray⟩ : Str).length = x.length := mk_len _
        refine orT (decide (60 < x.length)) (decide (x.getLast? = some 32)) (fun k q3 => ⟨_, rfl, _, rfl, by rw [hxl, sizeLine_eq]; omega, _, _, rfl, rfl, _, rfl, ?_⟩) (fun _ H3 k s3 q3 => ⟨_, rfl, 1, rfl, _, rfl, _, rfl, by rw [hxl, sizeLine_eq]; omega, rfl, _, rfl, ?_⟩) (fun H3 s3 => q2 H3 s3)
        · exact TellB.eq (decide_eq_decide.mpr (by rw [hxl]; omega)) q3 _ (Same.refl _)
        · refine TellB.eq (decide_eq_decide.mpr ?_) q3 _ (Same.refl _)
          rw [← drop_last_eq]
          have : TL.tl (cutS (⟨x.toArray⟩ : Str) (some (-1)) none) = x.drop (x.length - 1) := cutS_last _
          rw [← this]
          constructor
          · intro h
            rw [V.str.inj h, tl_blank]
          · intro h
            refine congrArg V.str (TL.ext_tl ?_)
            rw [h, tl_blank]
      · rw [hm] at hi
        rw [strL_at ps i hi]
        exact ⟨_, rfl, q2 _ (Same.refl _)⟩
      · rw [hm] at e
        have e' : H2 D = some (.lst ((((List.range ps.length).filter fun i => badLn (ps.getD i [])).map fun i => S' (ps.getD i [])).map V.str)) := by
          rw [e, List.map_map]
          rfl
        have hok : ∀ x ∈ (((List.range ps.length).filter fun i => badLn (ps.getD i [])).map fun i => S' (ps.getD i [])), OkS x := fun x hx c hc => by
          obtain ⟨i, hi, rfl⟩ := List.mem_map.mp hx
          have hi := List.mem_range.mp (List.mem_filter.mp hi).1
          have hc : c ∈ ps.getD i [] := hc
          have := (hsp _ (getD_mem ps [] hi)).1 c hc
          have := hb c ?_
          · omega
          · have := splitL_mem 10 l (ps.getD i []) (by rw [hgp]; exact getD_mem ps [] hi) c hc
            exact this
        refine ⟨_, _, dp_strs (.inl (.inl (same_upd ng _ _ e'))), dp_strs (bs := []) (.inl (.inl upd_same)), shaped_strs _ hok, shaped_strs [] (fun _ h => by cases h), _, rfl, ?_⟩
        rw [eqv_strsL]
        have hA := s1.trans (sm.trans (s2.trans (same_upd (o := .lst []) ng)))
        have hany : (!decide ((((List.range ps.length).filter fun i => badLn (ps.getD i [])).map fun i => S' (ps.getD i [])) = [])) = ps.any badLn := by
          rw [Bool.eq_iff_iff, Bool.not_eq_true', decide_eq_false_iff_not, List.map_eq_nil_iff, List.filter_eq_nil_iff, List.any_eq_true]
          constructor
          · intro h
            apply Classical.byContradiction
            intro hn
            exact h fun i hi => by
              intro hbad
              exact hn ⟨_, getD_mem ps [] (List.mem_range.mp hi), hbad⟩
          · rintro ⟨x, hx, hbad⟩ h
            obtain ⟨i, hi, rfl⟩ := List.mem_iff_getElem.mp hx
            refine h i (List.mem_range.mpr hi) ?_
            rw [List.getD_eq_getElem?_getD, List.getElem?_eq_getElem hi]
            exact hbad
        rw [hany]
        cases hh : ps.any badLn with
        | true =>
          rw [hh] at hall
          exact iteT (q2 hall _ hA)
        | false =>
          rw [hh] at hall
          refine iteF ⟨.ref o, rfl, q1 hall _ o hA hno (same_upd ng _ _ (s2 _ _ eo))⟩
/-! ### _law_unit -/
abbrev s__law_unit : Stmt := topS 75
abbrev N__law_unit : List Str := ["_law_row_here", "_law_at", "_law_byte", "_law_signs_here", "_law_sign"]
abbrev P__law_unit : List Str := ["_law_row_here", "_law_at"]
theorem sc__law_unit : FnScope N__law_unit ["_law_row_here", "_law_at"] (defScope s__law_unit) := ⟨rfl, rfl, rfl, by decide +kernel, rfl, by decide +kernel, by decide +kernel⟩
def endAt (l : List Nat) (i : Nat) : Bool := decide (i = l.length) || decide (l.getD i 0 = 10)
def unitL (l : List Nat) (i : Nat) : List Nat := if l.getD i 0 = 32 ∧ endAt l (i + 1) = true then hexL 32 else uL (l.getD i 0)
def sp_lunit : Sp := fun vs H Q _ => ∃ (a : Addr) (l : List Nat) (i : Nat), vs = [.ref a, .int (i : Nat)] ∧ H a = some (.lst (nb l)) ∧ BytesN l ∧ l.length ≤ 4040 ∧ i < l.length ∧ Tell H (.str (S' (unitL l i))) Q
theorem ok_lunit {f fS : Addr} {fd fdS : FuncData} (F : Fun K "_law_unit" "_law_unit" s__law_unit f fd) (T : Tx mg tk) (D__law_signs : Def P w K mg base "_law_signs" 1 fS fdS P__law_signs sp_signs) : FnOk P w K mg base CX0 2 f fd P__law_unit sp_lunit := by
  refine F.ok sc__law_unit (fun vs H Q E h => ?_) (fun cdv A outer s H vs Q E hr h => ?_)
  · obtain ⟨a, l, i, rfl, _⟩ := h
    rfl
  · have nd := sc__law_unit.nd
    obtain ⟨a, l, i, rfl, ea, hb, hl, hi, q⟩ := h
    refine ⟨_, (pss_cons (ps_set (i := 2) nd rfl (.inl rfl) (pe_ix (ixL K) (pv 0) (pv 1) (fun _ _ => rfl)))
      (pss_cons (ps_set (i := 3) nd rfl (.inl rfl) (pe_callTy (call_dictP rfl) (by rfl) T.n_dict (by decide +kernel) (pa_cons (pe_lc (own := [("_law_sign", 4)]) (g := gName 4) (by rfl) nd (pi_str (pe_def0 D__law_signs (hr.mono (by decide)))) (blkOk_by (N := N__law_unit) (sc := defScope s__law_unit) (by decide +kernel)) (fun _ _ _ _ _ => (pg_name (i := 4) nd rfl (Or.inl rfl))) (fun _ _ _ _ _ => pts_nil) (fun _ _ _ _ _ => (pe_tup (pa_cons (pe_callB call_ord (by rfl) T.n_ord (by decide +kernel) (pa_cons (pv 4) pa_nil)) (pa_cons (pv 4) pa_nil))))) pa_nil)))
      (pss_cons (ps_if (PW.pt (pw_or (pt_cmpR op_eq (pv 2) pe_int (nomark _)) (pw_or (pt_cmp (pc_dnotin (LH.unit1 hr) (pv 2) (pv 3))) (pw_or1 (PW.pt (pw_and (pt_cmpR op_eq (pv 2) pe_int (nomark _)) (pw_and1 (PW.pt (pw_or (pt_cmpR op_eq (pe_op op_add (pv 1) pe_int) (pe_callB (cLen K) (by rfl) T.n_len (by decide +kernel) (pa_cons (pv 0) pa_nil)) (nomark _)) (pw_or1 (pt_cmpR op_eq (pe_ix (ixL K) (pv 0) (pe_op op_add (pv 1) pe_int) (fun _ _ => rfl)) pe_int (nomark _))))))))))))
        (pss_one (ps_ret (pe_op op_add_str (pe_op op_add_str pe_str (pe_ix ix_str pe_str (pe_op op_fdiv (pv 2) pe_int) (fun _ _ => rfl))) (pe_ix ix_str pe_str (pe_op op_mod (pv 2) pe_int) (fun _ _ => rfl)))))
        pss_nil)
      (pss_one (ps_ret (pe_dget (LH.unit1 hr) (pv 3) (pv 2) (fun _ _ => rfl))))))), ?_⟩
    dsimp only [tSeq, tAsg, gName]
    have hbi := hb _ (getD_mem l 0 hi)
    have hml : (nb l).length = l.length := nb_len l
    have hat : ∀ j, j < l.length → atI (nb l) ((j : Nat) : Int) = some (.int ((l.getD j 0 : Nat) : Int)) := fun j hj => atI_nat (by
      unfold nb
      rw [List.getElem?_map, List.getElem?_eq_getElem hj, List.getD_eq_getElem?_getD, List.getElem?_eq_getElem hj]
      rfl)
    unfold unitL uL at q
    refine ⟨.ref a, rfl, _, rfl, a, _, _, _, rfl, rfl, .inl (.inl ea), hat i hi, signs_dict (by show 4 < 5; decide) fun H1 d s1 nd ed => ?_⟩
    have e1 := s1 _ _ ea
    have hin : i + 1 = l.length → endAt l (i + 1) = true := fun h => by unfold endAt; rw [decide_eq_true h]; rfl
    have hin2 : i + 1 ≠ l.length → endAt l (i + 1) = decide (l.getD (i + 1) 0 = 10) := fun h => by unfold endAt; rw [decide_eq_false h]; rfl
    generalize hbb : l.getD i 0 = b at *
    have vi : ∀ x y : Nat, decide (V.int (x : Nat) = V.int (y : Nat)) = decide (x = y) := fun x y => by rw [vint_dec]; exact decide_eq_decide.mpr (by omega)
    refine ifT (decide (b = 61) || (!isSgn b || (decide (b = 32) && endAt l (i + 1)))) (fun k q1 => orT (decide (b = 61)) _ (fun k q2 => ⟨_, rfl, rfl, _, rfl, TellB.eq (vi b 61) q2 _ (Same.refl _)⟩) (fun _ H2 k s2 q2 => orT (!isSgn b) (decide (b = 32) && endAt l (i + 1)) (fun k q3 => ?_) (fun _ H3 k s3 q3 => ?_) q2) q1) (fun hc H2 s2 => ?_) (fun hc H2 s2 => ?_)
    · refine ⟨_, rfl, _, rfl, d, _, rfl, DGet.k (k := Sum.inl ((b : Nat) : Int)) (s2 _ _ ed), _, rfl, ?_⟩
      rw [sgd_get hbi]
      refine TellB.eq ?_ q3 _ (Same.refl _)
      by_cases hs : isSgn b = true
      · rw [if_pos hs, hs]; rfl
      · rw [if_neg hs, Bool.eq_false_iff.mpr hs]; rfl
    · refine andT (decide (b = 32)) (endAt l (i + 1)) (fun k q4 => ⟨_, rfl, rfl, _, rfl, TellB.eq (vi b 32) q4 _ (Same.refl _)⟩) (fun _ H4 k s4 q4 => ?_) q3
      have e4 := s4 _ _ (s3 _ _ (s2 _ _ e1))
      refine orT (decide (i + 1 = l.length)) (endAt l (i + 1)) (fun k q5 => ⟨_, rfl, _, _, rfl, rfl, .ref a, rfl, a, _, rfl, .inl (.inl (.inl e4)), rfl, _, rfl, TellB.eq ?_ q5 _ (Same.refl _)⟩) (fun hne H5 k s5 q5 => ?_) (fun H5 s5 => ?_)
      · rw [vint_dec, hml]
        exact decide_eq_decide.mpr (by omega)
      · have hne := of_decide_eq_false hne
        rw [hin2 hne] at q5
        exact ⟨.ref a, rfl, _, rfl, _, _, rfl, rfl, a, _, _, _, rfl, rfl, .inl (.inl (s5 _ _ e4)), hat (i + 1) (by omega), rfl, _, rfl, TellB.eq (vi _ 10) q5 _ (Same.refl _)⟩
      · refine TellB.eq ?_ q4 _ s5
        by_cases h : i + 1 = l.length
        · rw [decide_eq_true h, hin h]; rfl
        · rw [decide_eq_false h]; rfl
    · have hx1 := hex_at (n := b / 16) (by omega)
      have hx2 := hex_at (n := b % 16) (by omega)
      have hr : S' (if b = 32 ∧ endAt l (i + 1) = true then hexL 32 else if (isSgn b && !decide (b = 61)) = true then [b] else hexL b) = Str.ofString "=" ++ (⟨#[hexDig (b / 16)]⟩ : Str) ++ (⟨#[hexDig (b % 16)]⟩ : Str) := by
        have he : (if b = 32 ∧ endAt l (i + 1) = true then hexL 32 else if (isSgn b && !decide (b = 61)) = true then [b] else hexL b) = hexL b := by
          by_cases h1 : b = 32 ∧ endAt l (i + 1) = true
          · rw [if_pos h1, h1.1]
          · rw [if_neg h1]
            refine if_neg fun h => ?_
            rw [Bool.and_eq_true, Bool.not_eq_true', decide_eq_false_iff_not] at h
            rw [h.1, decide_eq_false h.2] at hc
            simp only [Bool.false_or, Bool.not_true, Bool.and_eq_true, decide_eq_true_eq] at hc
            exact h1 hc
        rw [he]
        refine TL.ext_tl ?_
        rw [TL.tl_append, TL.tl_append, show TL.tl (Str.ofString "=") = [61] by decide +kernel]
        rfl
      rw [hr] at q
      refine ⟨_, rfl, _, 16, rfl, rfl, ⟨by decide, by decide⟩, _, _, _, rfl, rfl, Nat.le_of_lt (small1000 (by decide +kernel)), hx1, _, _, rfl, rfl, ?_, _, rfl, _, 16, rfl, rfl, (show (0 : Int) < 16 by decide), _, _, _, rfl, rfl, Nat.le_of_lt (small1000 (by decide +kernel)), hx2, _, _, rfl, rfl, ?_, q _ (s1.trans s2)⟩
      · rw [show (Str.ofString "=").length = 1 by decide +kernel, sizeLine_eq]; show 1 + 1 ≤ _; omega
      · rw [len_app, show (Str.ofString "=").length = 1 by decide +kernel, sizeLine_eq]; show 1 + 1 + 1 ≤ _; omega
    · have hc1 := or_false' hc
      have hc2 := or_false' hc1.2
      have hs : isSgn b = true := by simpa using hc2.1
      have hn61 := of_decide_eq_false hc1.1
      have h1 : ¬(b = 32 ∧ endAt l (i + 1) = true) := fun h => by
        rw [h.2, decide_eq_true h.1] at hc2
        exact nomatch hc2.2
      rw [if_neg h1, hs, decide_eq_false hn61, if_pos (by rfl)] at q
      refine ⟨_, rfl, _, rfl, d, _, rfl, ?_, q _ (s1.trans s2)⟩
      have := DGet.k (k := Sum.inl ((b : Nat) : Int)) (s2 _ _ ed)
      rw [sgd_get hbi, if_pos hs] at this
      exact this
/-! ### _law_folded -/
abbrev s__law_folded : Stmt := topS 71
abbrev N__law_folded : List Str := ["_law_name_here", "_law_value_here", "_law_row_here", "_law_rows", "_law_word_here"]
abbrev P__law_folded : List Str := ["_law_name_here", "_law_value_here"]
theorem sc__law_folded : FnScope N__law_folded ["_law_name_here", "_law_value_here"] (defScope s__law_folded) := ⟨rfl, rfl, rfl, by decide +kernel, rfl, by decide +kernel, by decide +kernel⟩
def sp_lfolded : Sp := fun vs H Q _ => ∃ (z : Str) (ws : List Str), vs = [.str z, .str (Txt.join (Str.ofString " ") ws)] ∧ isHN (TL.tl z) = true ∧ z.length ≤ 1000 ∧ WsOk ws ∧ ws.length ≤ 100 ∧ New H (rowsH (TL.tl z) ws) Q
theorem ok_lfolded {f : Addr} {fd : FuncData} {k : Nat} (F : Fun K "_law_folded" "_law_folded" s__law_folded f fd) (T : Tx mg tk) : FnOk P w K mg base CX0 (k + 1) f fd P__law_folded sp_lfolded := by
  refine F.ok sc__law_folded (fun vs H Q E h => ?_) (fun cdv A outer s H vs Q E hr h => ?_)
  · obtain ⟨z, ws, rfl, _⟩ := h
    rfl
  · have nd := sc__law_folded.nd
    obtain ⟨z, ws, rfl, hn, hz, hw, hwl, q⟩ := h
    refine ⟨_, (pss_cons (ps_set (i := 2) nd rfl (.inl rfl) (pe_op op_add_str (pe_join pe_str (pe_lc (own := [("_law_word_here", 4)]) (g := gName 4) (by rfl) nd (pi_list (pe_split (pv 0) pe_str)) (blkOk_by (N := N__law_folded) (sc := defScope s__law_folded) (by decide +kernel)) (fun _ _ _ _ _ => (pg_name (i := 4) nd rfl (Or.inl rfl))) (fun _ _ _ _ _ => pts_nil) (fun _ _ _ _ _ => (pe_op op_add_str (pe_upper (pe_slice sl_str (pv 4) po_none (po_some pe_int))) (pe_slice sl_str (pv 4) (po_some pe_int) po_none))))) pe_str))
      (pss_cons (ps_set (i := 3) nd rfl (.inl rfl) (pe_lst pa_nil))
      (pss_cons (ps_for PassesOwn.never rfl (pi_list (pe_split (pv 1) pe_str)) (pg_name (i := 4) nd rfl (Or.inl rfl))
        (pss_cons (ps_if (PW.pt (pw_and (pt_cmpR op_ne (pv 4) pe_str (nomark _)) (pw_and1 (pt_cmpR op_gt (pe_op op_add (pe_op op_add (pe_callB call_len_str (by rfl) T.n_len (by decide +kernel) (pa_cons (pv 2) pa_nil)) pe_int) (pe_callB call_len_str (by rfl) T.n_len (by decide +kernel) (pa_cons (pv 4) pa_nil))) pe_int (nomark _)))))
          (pss_cons (ps_expr (pe_bm PySem.F.plainAttrs_list PySem.F.slot_list_append PySem.F.type_list_append mt_append (pv 3) (pa_cons (pv 2) pa_nil)))
          (pss_one (ps_set (i := 2) nd rfl (.inl rfl) pe_str)))
          pss_nil)
        (pss_one (ps_set (i := 2) nd rfl (.inl rfl) (pe_op op_add_str (pe_op op_add_str (pv 2) (pe_op op_mul_str pe_str (pe_callTy call_int1 (by rfl) T.n_int (by decide +kernel) (pa_cons (pe_cmpR op_ne (pv 4) pe_str (nomark _)) pa_nil)))) (pv 4))))))
      (pss_one (ps_ret (pe_op op_cat (pv 3) (pe_lst (pa_cons (pv 2) pa_nil)))))))), ?_⟩
    dsimp only [tSeq, tAsg, gName]
    have hsp := split_tl (x := z) (y := Str.ofString "-") (s := 45) tl_dash (by decide)
    have hsm := hn_small hn
    have hmy := hn_many hn
    have hgl := great_len hn
    refine ⟨⟨_, rfl⟩, .str z, rfl, ⟨_, rfl⟩, z, Str.ofString "-", rfl, rfl, by decide +kernel, by rw [sizeLine_eq]; omega, fun p np => ?_⟩
    have s1 := same_upd (o := .lst ((Txt.split z (Str.ofString "-")).map V.str)) np
    generalize Txt.split z (Str.ofString "-") = gs at *
    have hm : (gs.map V.str).length = gs.length := List.length_map ..
    have hwl2 : gs.length = (splitL 45 (TL.tl z)).length := by rw [← hsp, List.length_map]
    have hws : ∀ x ∈ gs, Sm (TL.tl x) ∧ x.length ≤ 8 := fun x hx => by
      have := hsm (TL.tl x) (by rw [← hsp]; exact List.mem_map.mpr ⟨x, hx, rfl⟩)
      exact ⟨this.1, by rw [TL.len_tl]; exact this.2.2⟩
    refine ⟨p, rfl, ⟨_, .inl (.inl upd_same)⟩, fun D hD => lc_pure (fun i => (gs.map V.str).getD i .non) (fun i => .str (Txt.upper (cutS (gs.getD i Str.empty) none (some 1)) ++ cutS (gs.getD i Str.empty) (some 1) none)) walk_listF (fun H1 sm => sm.seq (.inl (.inl upd_same))) hD (by rw [hm, sizeLine_eq]; omega) (fun i H1 Q1 hi sm q1 => ?_) (fun H1 sm e => ?_)⟩
    · rw [hm] at hi
      rw [getD_str gs i hi]
      have hx := hws _ (getD_mem gs Str.empty hi)
      generalize gs.getD i Str.empty = x at *
      have hc := upper_cap x hx.1
      have hcl : (Txt.upper (cutS x none (some 1)) ++ cutS x (some 1) none).length = x.length := by rw [TL.len_tl, hc, cap_len, ← TL.len_tl]
      have hc1 : (cutS x none (some 1)).length ≤ 8 := by
        rw [TL.len_tl, show (1 : Int) = ((1 : Nat) : Int) from rfl, cutS_to]
        show ((TL.tl x).take 1).length ≤ 8
        rw [List.length_take]
        omega
      rw [len_app] at hcl
      exact ⟨_, rfl, _, rfl, _, rfl, by rw [sizeLine_eq]; omega, ⟨_, rfl⟩, _, rfl, rfl, by omega, _, rfl, _, rfl, _, rfl, by rw [sizeLine_eq]; omega, _, _, rfl, rfl, by rw [sizeLine_eq]; omega, q1 _ (Same.refl _)⟩
    · rw [hm] at e
      have em : (List.range gs.length).map (fun i => V.str (Txt.upper (cutS (gs.getD i Str.empty) none (some 1)) ++ cutS (gs.getD i Str.empty) (some 1) none)) = (gs.map fun x => Txt.upper (cutS x none (some 1)) ++ cutS x (some 1) none).map V.str := by
        rw [List.map_map]
        exact map_range gs Str.empty fun x => V.str (Txt.upper (cutS x none (some 1)) ++ cutS x (some 1) none)
      rw [em] at e
      have ecap : (gs.map fun x => Txt.upper (cutS x none (some 1)) ++ cutS x (some 1) none).map TL.tl = (splitL 45 (TL.tl z)).map cap := by
        rw [← hsp, List.map_map, List.map_map]
        exact List.map_congr_left fun x hx => upper_cap x (hws x hx).1
      have eJ : TL.tl (Txt.join (Str.ofString "-") (gs.map fun x => Txt.upper (cutS x none (some 1)) ++ cutS x (some 1) none)) = great (TL.tl z) := by
        rw [TL.join_eq, TL.tl_join, ecap, tl_dash]
        rfl
      have hb := join_len_le (sep := Str.ofString "-") (ws := gs.map fun x => Txt.upper (cutS x none (some 1)) ++ cutS x (some 1) none) (k := 8) (n := 3) (fun x hx => by
        obtain ⟨y, hy, rfl⟩ := List.mem_map.mp hx
        rw [TL.len_tl, upper_cap y (hws y hy).1, cap_len, ← TL.len_tl]
        exact (hws y hy).2) (by rw [List.length_map]; omega)
      have hb2 : 3 * (8 + (Str.ofString "-").length) = 27 := by decide +kernel
      refine ⟨Str.ofString "-", D, _, rfl, rfl, .inl (.inl (.inl e)), by omega, ?_⟩
      have hj : Txt.join (Str.ofString "-") (gs.map fun x => Txt.upper (cutS x none (some 1)) ++ cutS x (some 1) none) = ⟨(great (TL.tl z)).toArray⟩ := TL.ext_tl eJ
      rw [hj]
      have hgs : (⟨(great (TL.tl z)).toArray⟩ : Str).length = (great (TL.tl z)).length := mk_len _
      refine ⟨_, Str.ofString ":", rfl, rfl, by rw [hgs, sizeLine_eq, show (Str.ofString ":").length = 1 by decide +kernel]; omega, Nat.zero_le _, fun o no => ?_⟩
      have ehd : (⟨(great (TL.tl z)).toArray⟩ : Str) ++ Str.ofString ":" = ⟨(great (TL.tl z) ++ [58]).toArray⟩ := TL.ext_tl (by rw [TL.tl_append, show TL.tl (Str.ofString ":") = [58] by decide +kernel])
      rw [ehd]
      have hvl := val_len hw hwl
      obtain ⟨vs, hvs, hvsl, hvf⟩ := split_val hw
      refine ⟨_, rfl, ⟨_, rfl⟩, _, Str.ofString " ", rfl, rfl, by decide +kernel, by rw [sizeLine_eq]; omega, fun g ng => ?_⟩
      rw [hvs]
      have s2 := same_upd (o := .lst []) no
      have s3 := same_upd (o := .lst (vs.map V.str)) ng
      have sA := s1.trans (sm.trans s2)
      have hno : H o = none := (s1.trans sm).free no
      have hog : o ≠ g := fun e => by rw [← e, upd_same] at ng; exact nomatch ng
      have eg : upd (upd H1 o (.lst [])) g (.lst (vs.map V.str)) g = some (.lst (vs.map V.str)) := upd_same
      have eo : upd (upd H1 o (.lst [])) g (.lst (vs.map V.str)) o = some (.lst []) := by rw [upd_ne hog, upd_same]
      have sG := sA.trans s3
      have hsaves : ∀ b x, H b = some x → b ≠ o := fun b x hb he => by rw [he, hno] at hb; exact nomatch hb
      generalize hHG : upd (upd H1 o (.lst [])) g (.lst (vs.map V.str)) = HG at eg eo sG
      have hmv : (vs.map V.str).length = vs.length := List.length_map ..
      refine ⟨g, rfl, ⟨_, .inl (.inl eg)⟩, for_it walk_list (fun i σ H' => ∃ y4, σ = [some (.str z), some (.str (Txt.join (Str.ofString " ") ws)), some (.str ⟨(hfold (TL.tl z) (((vs.take i).filter fun x => !decide (TL.tl x = [])).map TL.tl)).2.toArray⟩), some (.ref o), y4] ∧ SameBut o HG H' ∧ H' o = some (.lst ((strL (hfold (TL.tl z) (((vs.take i).filter fun x => !decide (TL.tl x = [])).map TL.tl)).1).map V.str)))
        ⟨none, rfl, SameBut.refl _ _, eo⟩ (fun i σ H' _ h => by obtain ⟨y, rfl, sm, _⟩ := h; exact .inl (.inl (sm _ _ (Ne.symm hog) eg))) (fun i x σ H' H'' hi hP hy => ?_) (fun σ H' hP => ?_)⟩
      · obtain ⟨y4, rfl, sm2, eo2⟩ := hP
        obtain ⟨rfl, hx⟩ := hy
        rw [hmv] at hi
        rw [List.getElem?_map, List.getElem?_eq_getElem hi] at hx
        obtain rfl := Option.some.inj hx
        have hfilt : (vs.take (i + 1)).filter (fun x => !decide (TL.tl x = [])) = (vs.take i).filter (fun x => !decide (TL.tl x = [])) ++ (if TL.tl vs[i] = [] then [] else [vs[i]]) := by
          rw [List.take_add_one, List.getElem?_eq_getElem hi, Option.toList_some, List.filter_append]
          congr 1
          by_cases h : TL.tl vs[i] = []
          · rw [if_pos h, List.filter_cons, decide_eq_true h]; rfl
          · rw [if_neg h, List.filter_cons, decide_eq_false h]; rfl
        have hsub : ∀ x ∈ (vs.take i).filter (fun x => !decide (TL.tl x = [])), x ∈ ws := fun x hx => by
          rw [← hvf]
          exact List.mem_filter.mpr ⟨List.mem_of_mem_take (List.mem_filter.mp hx).1, (List.mem_filter.mp hx).2⟩
        have hvi : TL.tl vs[i] ≠ [] → vs[i] ∈ ws := fun h => by
          rw [← hvf]
          exact List.mem_filter.mpr ⟨List.getElem_mem hi, by rw [decide_eq_false h]; rfl⟩
        have hfl := hfold_len (TL.tl z) (by omega) (((vs.take i).filter fun x => !decide (TL.tl x = [])).map TL.tl) fun x hx => by
          obtain ⟨y, hy, rfl⟩ := List.mem_map.mp hx
          rw [← TL.len_tl]
          exact (hw y (hsub y hy)).2
        have hfll : (((vs.take i).filter fun x => !decide (TL.tl x = [])).map TL.tl).length ≤ 101 := by
          rw [List.length_map]
          have h1 := List.length_filter_le (fun x => !decide (TL.tl x = [])) (vs.take i)
          rw [List.length_take] at h1
          omega
        rw [hfilt]
        generalize hF : ((vs.take i).filter fun x => !decide (TL.tl x = [])) = Fs at *
        have hvx : TL.tl vs[i] ≠ [] → vs[i].length ≤ 59 := fun h => (hw _ (hvi h)).2
        generalize vs[i] = x at *
        have hxl : x.length = (TL.tl x).length := TL.len_tl _
        by_cases hxe : TL.tl x = []
        · rw [if_pos hxe, List.append_nil]
          have hxs : x = Str.ofString "" := TL.ext_tl (by rw [hxe, tl_empty])
          have hne : (!decide (V.str x = V.str (Str.ofString ""))) = false := by rw [hxs, decide_eq_true rfl]; rfl
          refine ifT false (fun k q1 => andT false false (fun k q2 => ⟨_, rfl, rfl, _, rfl, TellB.eq hne q2 _ (Same.refl _)⟩) (fun h => nomatch h) q1) (fun h => nomatch h) (fun _ H4 s4 => ?_)
          dsimp only [tNext, tSeq]
          generalize hfold (TL.tl z) (Fs.map TL.tl) = st at *
          have hc2 := hfl.1
          have hcl : (⟨st.2.toArray⟩ : Str).length = st.2.length := mk_len _
          have e1 : (⟨st.2.toArray⟩ : Str) ++ repS (Str.ofString " ") 0 ++ x = ⟨st.2.toArray⟩ := TL.ext_tl (by rw [TL.tl_append, TL.tl_append, hxe]; simp [repS])
          refine ⟨_, rfl, _, rfl, rfl, .inr ⟨_, rfl, ?_⟩⟩
          rw [hne]
          refine ⟨_, _, rfl, rfl, by decide, by decide, by decide +kernel, _, _, rfl, rfl, ?_, _, rfl, _, _, rfl, rfl, ?_, ?_⟩
          · rw [hcl, show (repS (Str.ofString " ") (if false = true then 1 else 0)).length = 0 by decide +kernel, sizeLine_eq]; omega
          · rw [len_app, hcl, show (repS (Str.ofString " ") (if false = true then 1 else 0)).length = 0 by decide +kernel, hxl, hxe, sizeLine_eq]; show _ + 0 + 0 ≤ _; omega
          · refine ⟨some (.str x), ?_, sm2.trans (SameBut.of s4), s4 _ _ eo2⟩
            show [_, _, some (V.str ((⟨st.2.toArray⟩ : Str) ++ repS (Str.ofString " ") 0 ++ x)), _, _] = _
            rw [e1]
        · rw [if_neg hxe, List.map_append, List.map_singleton, hfold_snoc]
          generalize hfold (TL.tl z) (Fs.map TL.tl) = st at *
          obtain ⟨dd, c⟩ := st
          have hc2 : c.length ≤ 60 := hfl.1
          have hdl : dd.length ≤ 101 := by have := hfl.2.2; simp only at this; omega
          have hx59 := hvx hxe
          have hcl : (⟨c.toArray⟩ : Str).length = c.length := mk_len _
          have hne : (!decide (V.str x = V.str (Str.ofString ""))) = true := by
            rw [decide_eq_false fun h => hxe (by rw [V.str.inj h, tl_empty])]; rfl
          have eo2 : H'' o = some (.lst ((strL dd).map V.str)) := eo2
          have e32 : TL.tl (repS (Str.ofString " ") 1) = [32] := by decide +kernel
          have l32 : (repS (Str.ofString " ") 1).length = 1 := by decide +kernel
          unfold hstep
          refine ifT (decide (60 < c.length + 1 + (TL.tl x).length)) (fun k q1 => andT true _ (fun k q2 => ⟨_, rfl, rfl, _, rfl, TellB.eq hne q2 _ (Same.refl _)⟩) (fun _ H4 k s4 q2 => ⟨_, rfl, _, rfl, by rw [hcl, sizeLine_eq]; omega, _, 1, rfl, rfl, _, rfl, _, rfl, by rw [sizeLine_eq]; omega, _, _, rfl, rfl, _, 60, rfl, rfl, _, rfl, TellB.eq (decide_eq_decide.mpr (by rw [hcl, hxl]; omega)) q2 _ (Same.refl _)⟩) q1) (fun hc H4 s4 => ?_) (fun hc H4 s4 => ?_)
          · have hc := of_decide_eq_true hc
            rw [if_pos hc]
            refine ⟨.ref o, rfl, .inl ⟨rfl, _, .inl (.inl (s4 _ _ eo2))⟩, _, rfl, o, _, _, rfl, rfl, s4 _ _ eo2, ?_, ?_⟩
            · rw [List.length_map, strL_len, sizeLine_eq]; omega
            refine ⟨_, rfl, _, rfl, rfl, .inr ⟨_, rfl, ?_⟩⟩
            rw [hne]
            refine ⟨_, _, rfl, rfl, by decide, by decide, by decide +kernel, _, _, rfl, rfl, ?_, _, rfl, _, _, rfl, rfl, ?_, ?_⟩
            · show (Str.ofString "").length + (repS (Str.ofString " ") 1).length ≤ _
              rw [l32, show (Str.ofString "").length = 0 by decide +kernel, sizeLine_eq]; omega
            · show (Str.ofString "" ++ repS (Str.ofString " ") 1).length + x.length ≤ _
              rw [len_app, l32, show (Str.ofString "").length = 0 by decide +kernel, sizeLine_eq]; omega
            · have e1 : Str.ofString "" ++ repS (Str.ofString " ") 1 ++ x = ⟨(32 :: TL.tl x).toArray⟩ := TL.ext_tl (by rw [TL.tl_append, TL.tl_append, e32, tl_empty]; rfl)
              refine ⟨some (.str x), ?_, sm2.trans ((SameBut.of s4).trans (SameBut.upd _ _ _)), ?_⟩
              · show [_, _, some (V.str (Str.ofString "" ++ repS (Str.ofString " ") 1 ++ x)), _, _] = _
                rw [e1]
              · rw [upd_same]
                show _ = some (HO.lst ((strL (dd ++ [c])).map V.str))
                rw [strL_app, List.map_append]
                rfl
          · have hc := of_decide_eq_false hc
            rw [if_neg hc]
            dsimp only [tNext, tSeq]
            refine ⟨_, rfl, _, rfl, rfl, .inr ⟨_, rfl, ?_⟩⟩
            rw [hne]
            refine ⟨_, _, rfl, rfl, by decide, by decide, by decide +kernel, _, _, rfl, rfl, ?_, _, rfl, _, _, rfl, rfl, ?_, ?_⟩
            · show (⟨c.toArray⟩ : Str).length + (repS (Str.ofString " ") 1).length ≤ _
              rw [l32, hcl, sizeLine_eq]; omega
            · show ((⟨c.toArray⟩ : Str) ++ repS (Str.ofString " ") 1).length + x.length ≤ _
              rw [len_app, l32, hcl, sizeLine_eq]; omega
            · have e1 : (⟨c.toArray⟩ : Str) ++ repS (Str.ofString " ") 1 ++ x = ⟨(c ++ 32 :: TL.tl x).toArray⟩ := TL.ext_tl (by rw [TL.tl_append, TL.tl_append, e32]; simp)
              refine ⟨some (.str x), ?_, sm2.trans (SameBut.of s4), s4 _ _ eo2⟩
              show [_, _, some (V.str ((⟨c.toArray⟩ : Str) ++ repS (Str.ofString " ") 1 ++ x)), _, _] = _
              rw [e1]
      · obtain ⟨y4, rfl, sm2, eo2⟩ := hP
        rw [hmv, List.take_length, hvf] at eo2 ⊢
        have hfl := hfold_len (TL.tl z) (by omega) (ws.map TL.tl) fun x hx => by
          obtain ⟨y, hy, rfl⟩ := List.mem_map.mp hx
          rw [← TL.len_tl]
          exact (hw y hy).2
        rw [List.length_map] at hfl
        unfold rowsH hrows at q
        generalize hfold (TL.tl z) (ws.map TL.tl) = st at *
        refine ⟨.ref o, rfl, _, rfl, by show 1 ≤ _; rw [sizeLine_eq]; omega, fun p2 np2 => ?_⟩
        have s4 := same_upd (o := .lst [V.str ⟨st.2.toArray⟩]) np2
        have sF : Same H H' := fun b x hb => sm2 b x (hsaves b x hb) (sG b x hb)
        refine ⟨o, p2, _, _, rfl, rfl, s4 _ _ eo2, upd_same, ?_, fun p3 np3 => q _ p3 (sF.trans (s4.trans (same_upd np3))) ((sF.trans s4).free np3) ?_⟩
        · rw [List.length_map, strL_len, sizeLine_eq]
          have := hfl.2.2
          show _ + 1 ≤ _
          omega
        · rw [upd_same, strL_app, List.map_append]
          rfl
end
end K20

namespace K20
open PySem PySem.Spec PyProof.Rows L2 LH
/-! ### the law's rows by sixteens, by sixty -/
theorem tot_take_succ (us : List (List Nat)) (k : Nat) (h : k < us.length) : tot (us.take (k + 1)) = tot (us.take k) + us[k].length := by
  unfold tot
  rw [List.take_add_one, List.getElem?_eq_getElem h, Option.toList_some, List.map_append, List.sum_append]
  simp
theorem tot_split (us : List (List Nat)) (k : Nat) : tot us = tot (us.take k) + tot (us.drop k) := by
  have : tot us = tot (us.take k ++ us.drop k) := by rw [List.take_append_drop]
  rw [this]
  unfold tot
  rw [List.map_append, List.sum_append]
theorem cutR_go (us : List (List Nat)) (m : Nat) (hm : ∀ j, j ≤ m → tot (us.take j) < 60) : ∀ k, k ≤ m → k ≤ us.length → cutR [] us = cutR (us.take k).flatten (us.drop k)
  | 0, _, _ => by simp
  | k + 1, h, hl => by
    rw [cutR_go us m hm k (by omega) (by omega), List.drop_eq_getElem_cons (show k < us.length by omega)]
    have h1 := hm (k + 1) h
    rw [tot_take_succ us k (by omega)] at h1
    conv => lhs; unfold cutR
    rw [if_neg (fun c => by have := c.2; rw [tot_flat] at this; omega)]
    congr 1
    rw [List.take_add_one, List.getElem?_eq_getElem (show k < us.length by omega), Option.toList_some, List.flatten_append, List.flatten_singleton]
theorem cutR_cut {us : List (List Nat)} (hU : UnitsL us) {m : Nat} (hm : ∀ j, j ≤ m → tot (us.take j) < 60) (hl : m < us.length) (h60 : 60 ≤ tot (us.take (m + 1))) (ht : 60 < tot us) : cutR [] us = ((us.take m).flatten ++ [61]) :: cutR [] (us.drop m) := by
  rw [cutR_go us m hm m (Nat.le_refl _) (by omega), List.drop_eq_getElem_cons hl]
  have h1 := tot_take_succ us m hl
  have h2 := tot_split us m
  rw [List.drop_eq_getElem_cons hl] at h2
  have hu := (hU us[m] (List.getElem_mem hl)).1
  conv => lhs; unfold cutR
  rw [if_pos ⟨by rw [tot_flat]; omega, by rw [tot_flat]; omega⟩]
  congr 1
  conv => rhs; unfold cutR
  rw [if_neg (fun c => by have := c.2; simp only [List.length_nil] at this; omega)]
  rfl
section
variable {P : Program} {w : World} {K : PySem.W.Frag} {mg : Str → Option Value} {base : Heap} {tk : Nat → Tok} {ca : Nat → Addr} {C : Addr}
theorem joinS (us : List (List Nat)) : Txt.join (Str.ofString "") (strL us) = S' us.flatten := TL.ext_tl (join_units us)
theorem S'_len (l : List Nat) : (S' l).length = l.length := mk_len l
theorem sumS {us : List (List Nat)} (h : tot us ≤ 1000000) : ((strL us).map (·.length)).sum + (strL us).length * (Str.ofString "").length ≤ 16777216 := by
  rw [sum_units, show (Str.ofString "").length = 0 by decide +kernel]
  omega
theorem whileN {c : TT} {tb : TS} {D : Ends} {σ : L2.St} {H : Hp} (Pv : Nat → L2.St → Hp → Prop) (h0 : ∃ m, Pv m σ H)
    (hs : ∀ m σ H, Pv m σ H → ∃ b : Bool, (∀ k, TellB H b k → c σ H k) ∧ (b = true → ∀ H1, Same H H1 → tb { D with nx := fun σ' H' => ∃ m', m' < m ∧ Pv m' σ' H', ct := fun σ' H' => ∃ m', m' < m ∧ Pv m' σ' H', bk := D.nx } σ H1) ∧ (b = false → ∀ H1, Same H H1 → D.nx σ H1)) : tWhile c tb D σ H := by
  refine ⟨Pv, h0, ?_⟩
  intro m σ H p
  obtain ⟨b, ht, h1, h2⟩ := hs m σ H p
  refine ht _ fun H1 s1 => ?_
  cases b with
  | true => exact ⟨fun σ' H' => ∃ m', m' < m ∧ Pv m' σ' H', fun σ' H' h => h, h1 rfl H1 s1⟩
  | false => exact h2 rfl H1 s1
theorem cut_take (vs : List (List Nat)) (k : Nat) : cutV ((strL vs).map V.str) none (some ((k : Nat) : Int)) = (strL (vs.take k)).map V.str := by
  rw [cutV_to]
  unfold strL
  rw [List.map_take, List.map_take]
theorem cut_drop (vs : List (List Nat)) (k : Nat) : cutV ((strL vs).map V.str) (some ((k : Nat) : Int)) none = (strL (vs.drop k)).map V.str := by
  rw [cutV_from]
  unfold strL
  rw [List.map_drop, List.map_drop]
theorem UnitsL.sub {us vs : List (List Nat)} (h : UnitsL us) (hs : ∀ x ∈ vs, x ∈ us) : UnitsL vs := fun x hx => h x (hs x hx)
/-! ### _law_cut -/
abbrev s__law_cut : Stmt := topS 76
abbrev N__law_cut : List Str := ["_law_units", "_law_rows", "_law_many"]
abbrev P__law_cut : List Str := ["_law_units"]
theorem sc__law_cut : FnScope N__law_cut ["_law_units"] (defScope s__law_cut) := ⟨rfl, rfl, rfl, by decide +kernel, rfl, by decide +kernel, by decide +kernel⟩
theorem ok_lcut {f : Addr} {fd : FuncData} {k : Nat} (F : Fun K "_law_cut" "_law_cut" s__law_cut f fd) (T : Tx mg tk) : FnOk P w K mg base CX0 (k + 1) f fd P__law_cut sp_cut := by
  refine F.ok sc__law_cut (fun vs H Q E h => ?_) (fun cdv A outer s H vs Q E hr h => ?_)
  · obtain ⟨a, us, rfl, _⟩ := h
    rfl
  · have nd := sc__law_cut.nd
    obtain ⟨a, us, rfl, ea, hU, hl, q⟩ := h
    refine ⟨_, (pss_cons (ps_set (i := 1) nd rfl (.inl rfl) (pe_lst pa_nil))
      (pss_cons (ps_while PassesOwn.never (pt_cmpR op_gt (pe_callB call_len_str (by rfl) T.n_len (by decide +kernel) (pa_cons (pe_join pe_str (pv 0)) pa_nil)) pe_int (nomark _))
        (pss_cons (ps_set (i := 2) nd rfl (.inl rfl) pe_int)
        (pss_cons (ps_while PassesOwn.never (pt_cmpR op_lt (pe_callB call_len_str (by rfl) T.n_len (by decide +kernel) (pa_cons (pe_join pe_str (pe_slice (slL K) (pv 0) po_none (po_some (pe_op op_add (pv 2) pe_int)))) pa_nil)) pe_int (nomark _))
          (pss_one (ps_set (i := 2) nd rfl (.inl rfl) (pe_op op_add (pv 2) pe_int))))
        (pss_cons (ps_expr (pe_bm PySem.F.plainAttrs_list PySem.F.slot_list_append PySem.F.type_list_append mt_append (pv 1) (pa_cons (pe_op op_add_str (pe_join pe_str (pe_slice (slL K) (pv 0) po_none (po_some (pv 2)))) pe_str) pa_nil)))
        (pss_one (ps_set (i := 0) nd rfl (.inl rfl) (pe_slice (slL K) (pv 0) (po_some (pv 2)) po_none)))))))
      (pss_one (ps_ret (pe_op op_cat (pv 1) (pe_lst (pa_cons (pe_join pe_str (pv 0)) pa_nil))))))), ?_⟩
    dsimp only [tSeq, tAsg, gName]
    refine ⟨Nat.zero_le _, fun o no => ?_⟩
    have s0 := same_upd (o := .lst []) no
    have hao : a ≠ o := fun e => by rw [e, no] at ea; exact nomatch ea
    refine whileN (fun m σ H' => ∃ (p : Addr) (vs R : List (List Nat)) (y : Option V), σ = [some (.ref p), some (.ref o), y] ∧ Same H H' ∧ p ≠ o ∧ H' p = some (.lst ((strL vs).map V.str)) ∧ H' o = some (.lst ((strL R).map V.str)) ∧ R ++ cutR [] vs = cutR [] us ∧ UnitsL vs ∧ vs.length = m ∧ R.length + m ≤ us.length) ⟨us.length, a, us, [], none, rfl, s0, hao, s0 _ _ ea, upd_same, rfl, hU, rfl, by simp⟩ (fun m σ H' hP => ?_)
    obtain ⟨p, vs, R, y, rfl, sm, hpo, ep, eo, hR, hV, rfl, hRl⟩ := hP
    have htot := tot_le hV
    have htl : tot vs ≤ 300000 := by omega
    have hJ : ∀ us : List (List Nat), (S' us.flatten).length = tot us := fun us => by rw [S'_len, tot_flat]
    refine ⟨decide (60 < tot vs), fun k q1 => ⟨⟨_, rfl⟩, _, rfl, Str.ofString "", p, _, rfl, rfl, .inl (.inl (.inl ep)), sumS (by omega), ?_⟩, fun hc H1 s1 => ?_, fun hc H1 s1 => ?_⟩
    · rw [joinS]
      exact ⟨_, rfl, by rw [hJ, sizeLine_eq]; omega, _, 60, rfl, rfl, _, rfl, TellB.eq (decide_eq_decide.mpr (by rw [hJ]; omega)) q1 _ (Same.refl _)⟩
    · have hc := of_decide_eq_true hc
      dsimp only [tSeq, tAsg, gName]
      have ep1 := s1 _ _ ep
      have eo1 := s1 _ _ eo
      have htake : ∀ k, tot (vs.take k) ≤ tot vs := fun k => by have := tot_split vs k; omega
      refine whileN (fun m σ H' => ∃ k : Nat, σ = [some (.ref p), some (.ref o), some (.int (k : Nat))] ∧ Same H1 H' ∧ k + m = vs.length ∧ ∀ j, j ≤ k → tot (vs.take j) < 60) ⟨vs.length, 0, rfl, Same.refl _, by omega, fun j hj => by rw [show j = 0 by omega]; show (0 : Nat) < 60; decide⟩ (fun m2 σ2 H2 hP2 => ?_)
      obtain ⟨k, rfl, s2, hkm, hk⟩ := hP2
      have ep2 := s2 _ _ ep1
      have eo2 := s2 _ _ eo1
      have hkl : k < vs.length := by
        apply Classical.byContradiction
        intro hn
        have := hk k (Nat.le_refl _)
        rw [List.take_of_length_le (by omega)] at this
        omega
      have ek : ((k : Nat) : Int) + 1 = ((k + 1 : Nat) : Int) := by omega
      refine ⟨decide (tot (vs.take (k + 1)) < 60), fun k2 q2 => ⟨⟨_, rfl⟩, _, rfl, _, rfl, _, 1, rfl, rfl, _, rfl, p, _, rfl, .inl (.inl ep2), fun g ng => ?_⟩, fun hc2 H3 s3 => ?_, fun hc2 H3 s3 => ?_⟩
      · rw [ek, cut_take]
        have := htake (k + 1)
        refine ⟨Str.ofString "", g, _, rfl, rfl, .inl (.inl (.inl upd_same)), sumS (by omega), ?_⟩
        rw [joinS]
        exact ⟨_, rfl, by rw [hJ, sizeLine_eq]; omega, _, 60, rfl, rfl, _, rfl, TellB.eq (decide_eq_decide.mpr (by rw [hJ]; omega)) q2 _ (same_upd ng)⟩
      · have hc2 := of_decide_eq_true hc2
        refine ⟨_, rfl, _, 1, rfl, rfl, m2 - 1, ?_, k + 1, ?_, s2.trans s3, ?_, fun j hj => ?_⟩
        · have : k + 1 < vs.length := by
            apply Classical.byContradiction
            intro hn
            rw [List.take_of_length_le (by omega)] at hc2
            omega
          omega
        · show [_, _, some (V.int ((k : Nat) + 1))] = _
          rw [ek]
        · omega
        · by_cases h : j = k + 1
          · rw [h]; exact hc2
          · exact hk j (by omega)
      · have hc2 := of_decide_eq_false hc2
        have hcut := cutR_cut hV hk hkl (by omega) hc
        have ep3 := s3 _ _ ep2
        have eo3 := s3 _ _ eo2
        have hk0 : 0 < k := by
          apply Classical.byContradiction
          intro hn
          obtain rfl : k = 0 := by omega
          have h1 := tot_take_succ vs 0 hkl
          have h2 := (hV vs[0] (List.getElem_mem hkl)).1
          have h3 : tot (vs.take 0) = 0 := rfl
          omega
        refine ⟨.ref o, rfl, .inl ⟨rfl, _, .inl (.inl eo3)⟩, ⟨_, rfl⟩, _, rfl, _, rfl, _, rfl, p, _, rfl, .inl (.inl ep3), fun g ng => ?_⟩
        rw [cut_take]
        have htk := htake k
        have hk60 := hk k (Nat.le_refl _)
        have sg := same_upd (o := .lst ((strL (vs.take k)).map V.str)) ng
        refine ⟨Str.ofString "", g, _, rfl, rfl, .inl (.inl (.inl upd_same)), sumS (by omega), ?_⟩
        rw [joinS]
        have eJ : S' (vs.take k).flatten ++ Str.ofString "=" = ⟨((vs.take k).flatten ++ [61]).toArray⟩ := TL.ext_tl (by rw [TL.tl_append, show TL.tl (Str.ofString "=") = [61] by decide +kernel]; rfl)
        refine ⟨_, _, rfl, rfl, by rw [hJ, show (Str.ofString "=").length = 1 by decide +kernel, sizeLine_eq]; omega, ?_⟩
        rw [eJ]
        have hRs : ((strL R).map V.str).length = R.length := by rw [List.length_map, strL_len]
        refine ⟨o, _, _, rfl, rfl, sg _ _ eo3, by rw [hRs, sizeLine_eq]; omega, .ref p, rfl, _, rfl, _, rfl, p, _, rfl, .inl (.inl (by rw [upd_ne hpo]; exact sg _ _ ep3)), fun g2 ng2 => ?_⟩
        rw [cut_drop]
        have hgo : g2 ≠ o := fun e => by rw [e, upd_same] at ng2; exact nomatch ng2
        refine ⟨_, ?_, g2, vs.drop k, R ++ [(vs.take k).flatten ++ [61]], _, rfl, ?_, hgo, upd_same, ?_, ?_, hV.sub (fun x hx => List.mem_of_mem_drop hx), rfl, ?_⟩
        · rw [List.length_drop]; omega
        · intro b x hb
          have hbo : b ≠ o := ne_of_none hb no
          have h3 := sg _ _ (s3 _ _ (s2 _ _ (s1 _ _ (sm _ _ hb))))
          have h4 : upd (upd H3 g (.lst ((strL (vs.take k)).map V.str))) o (.lst ((strL R).map V.str ++ [V.str ⟨((vs.take k).flatten ++ [61]).toArray⟩])) b = some x := by rw [upd_ne hbo]; exact h3
          exact same_upd ng2 _ _ h4
        · rw [upd_ne (Ne.symm hgo), upd_same, strL_app, List.map_append]
          rfl
        · rw [List.append_assoc, List.singleton_append, ← hcut]
          exact hR
        · rw [List.length_append, List.length_singleton, List.length_drop]; omega
    · have hc := of_decide_eq_false hc
      have ep1 := s1 _ _ ep
      have eo1 := s1 _ _ eo
      have sA := sm.trans s1
      refine ⟨.ref o, rfl, ⟨_, rfl⟩, _, rfl, Str.ofString "", p, _, rfl, rfl, .inl (.inl (.inl ep1)), sumS (by omega), ?_⟩
      rw [joinS]
      have hRs : ((strL R).map V.str).length = R.length := by rw [List.length_map, strL_len]
      refine ⟨by show 1 ≤ _; rw [sizeLine_eq]; omega, fun p2 n2 => ⟨o, p2, _, _, rfl, rfl, same_upd n2 _ _ eo1, upd_same, by rw [hRs, sizeLine_eq]; show _ + 1 ≤ _; omega, fun p3 n3 => q _ p3 (sA.trans ((same_upd n2).trans (same_upd n3))) ((sA.trans (same_upd n2)).free n3) ?_⟩⟩
      rw [upd_same, ← hR, cutR_short vs [] (by simp only [List.length_nil]; omega), strL_app, List.map_append]
      rfl
theorem uL_32 {b : Nat} (h : b < 256) : uL b = [32] → b = 32 := by
  have : ∀ d : Fin 256, uL d.val = [32] → d.val = 32 := by decide +kernel
  exact this ⟨b, h⟩
/-- the units of a line so far -/
def lineU (l : List Nat) (i : Nat) (c : List Nat) : List (List Nat) := if endAt l i = true then fixL (c.map uL) else c.map uL
theorem lineU_nil (l : List Nat) (i : Nat) : lineU l i [] = [] := by
  unfold lineU
  split <;> rfl
theorem lines_many (l : List Nat) : ((splitL 10 l).map lineR).flatten.length ≤ l.length + 1 := rows16_count l
/-! ### _law_sixteens -/
abbrev s__law_sixteens : Stmt := topS 77
abbrev N__law_sixteens : List Str := ["_law_row_here", "_law_rows", "_law_units", "_law_at", "_law_byte"]
abbrev P__law_sixteens : List Str := ["_law_row_here"]
theorem sc__law_sixteens : FnScope N__law_sixteens ["_law_row_here"] (defScope s__law_sixteens) := ⟨rfl, rfl, rfl, by decide +kernel, rfl, by decide +kernel, by decide +kernel⟩
theorem ok_lsixteens {f f1 f2 : Addr} {fd fd1 fd2 : FuncData} (F : Fun K "_law_sixteens" "_law_sixteens" s__law_sixteens f fd) (T : Tx mg tk) (D__law_cut : Def P w K mg base "_law_cut" 1 f1 fd1 P__law_cut sp_cut) (D__law_unit : Def P w K mg base "_law_unit" 2 f2 fd2 P__law_unit sp_lunit) : FnOk P w K mg base CX0 3 f fd P__law_sixteens sp_sixteens := by
  refine F.ok sc__law_sixteens (fun vs H Q E h => ?_) (fun cdv A outer s H vs Q E hr h => ?_)
  · obtain ⟨a, l, rfl, _⟩ := h
    rfl
  · have nd := sc__law_sixteens.nd
    obtain ⟨a, l, rfl, ea, hb, hl, q⟩ := h
    refine ⟨_, (pss_cons (ps_set (i := 1) nd rfl (.inl rfl) (pe_lst pa_nil))
      (pss_cons (ps_set (i := 2) nd rfl (.inl rfl) (pe_lst pa_nil))
      (pss_cons (ps_for PassesOwn.never rfl (pi_enum (by rfl) T.n_enumerate (pa_cons (pv 0) pa_nil)) (pg_tup rfl (pgs_cons (pg_name (i := 3) nd rfl (Or.inl rfl)) (pgs_cons (pg_name (i := 4) nd rfl (Or.inl rfl)) pgs_nil)))
        (pss_one (ps_if (pt_cmpR op_eq (pv 4) pe_int (nomark _))
          (pss_cons (ps_set (i := 1) nd rfl (.inl rfl) (pe_op op_cat (pv 1) (pe_def D__law_cut (hr.mono (by decide)) (pa_cons (pv 2) pa_nil))))
          (pss_one (ps_set (i := 2) nd rfl (.inl rfl) (pe_lst pa_nil))))
          (pss_one (ps_expr (pe_bm PySem.F.plainAttrs_list PySem.F.slot_list_append PySem.F.type_list_append mt_append (pv 2) (pa_cons (pe_def D__law_unit (hr.mono (by decide)) (pa_cons (pv 0) (pa_cons (pv 3) pa_nil))) pa_nil)))))))
      (pss_one (ps_ret (pe_op op_cat (pv 1) (pe_def D__law_cut (hr.mono (by decide)) (pa_cons (pv 2) pa_nil)))))))), ?_⟩
    dsimp only [tSeq, tAsg, gName]
    refine ⟨Nat.zero_le _, fun r0 nr0 => ⟨Nat.zero_le _, fun u0 nu0 => ?_⟩⟩
    have s1 := same_upd (o := .lst []) nr0
    have s2 := same_upd (o := .lst []) nu0
    have hur : r0 ≠ u0 := fun e => by rw [← e, upd_same] at nu0; exact nomatch nu0
    have s0 := s1.trans s2
    have hml : (nb l).length = l.length := nb_len l
    have eu0 : upd (upd H r0 (.lst [])) u0 (.lst []) r0 = some (.lst []) := by rw [upd_ne hur, upd_same]
    refine ⟨.ref a, rfl, a, _, rfl, .inl (.inl (s0 _ _ ea)), for_it walk_enum (fun i σ H' => ∃ (r u : Addr) (A : List (List Nat)) (c : List Nat) (y3 y4 : Option V), σ = [some (.ref a), some (.ref r), some (.ref u), y3, y4] ∧ Same H H' ∧ H r = none ∧ H u = none ∧ r ≠ u ∧ H' r = some (.lst ((strL (A.map lineR).flatten).map V.str)) ∧ H' u = some (.lst ((strL (lineU l i c)).map V.str)) ∧ splitL 10 (l.take i) = A ++ [c])
      ⟨r0, u0, [], [], none, none, rfl, s0, nr0, s1.free nu0, hur, eu0, by rw [upd_same, lineU_nil]; rfl, rfl⟩ (fun i σ H' _ h => by obtain ⟨_, _, _, _, _, _, rfl, sm, _⟩ := h; exact .inl (.inl (sm _ _ ea))) (fun i x σ H' H'' hi hP hy => ?_) (fun σ H' hP => ?_)⟩
    · obtain ⟨r, u, A, c, y3, y4, rfl, sm, nr, nu, hru, er, eu, hAc⟩ := hP
      obtain ⟨U, x1, x2, rfl, nU, rfl, f1, f2⟩ := hy
      rw [hml] at hi
      have f2 : (nb l)[i]? = some x2 := f2
      unfold nb at f2
      rw [List.getElem?_map, List.getElem?_eq_getElem hi] at f2
      obtain rfl := Option.some.inj f1
      obtain rfl := Option.some.inj f2
      have sU := same_upd (o := .tup [.int (i : Nat), .int (l[i] : Nat)]) nU
      have hbi := hb l[i] (List.getElem_mem hi)
      have htk : l.take (i + 1) = l.take i ++ [l[i]] := by rw [List.take_add_one, List.getElem?_eq_getElem hi]; rfl
      have hst : splitL 10 (l.take (i + 1)) = pstep 10 (A ++ [c]) l[i] := by
        rw [← hAc, ← split_fold, ← split_fold, htk, List.foldl_append]
        rfl
      have hgd : l.getD i 0 = l[i] := by rw [List.getD_eq_getElem?_getD, List.getElem?_eq_getElem hi]; rfl
      have hnl : decide (i = l.length) = false := decide_eq_false (by omega)
      have hce : endAt l i = decide (l[i] = 10) := by unfold endAt; rw [hnl, hgd, Bool.false_or]
      have hcb : BytesN c := fun x hx => hb x (List.mem_of_mem_take (splitL_mem 10 (l.take i) c (by rw [hAc]; simp) x hx))
      have hcl : c.length ≤ 4040 := by
        have := splitL_le 10 (l.take i) c (by rw [hAc]; simp)
        rw [List.length_take] at this
        omega
      have hrows := lines_many (l.take i)
      rw [hAc, List.map_append, List.flatten_append, List.length_append, List.length_take] at hrows
      have hUl : UnitsL (c.map uL) := units_map hcb
      refine ⟨U, _, rfl, .inl (.inl upd_same), rfl, _, _, rfl, _, _, rfl, rfl, ?_⟩
      have er1 := sU _ _ er
      have eu1 := sU _ _ eu
      have smU := sm.trans sU
      have hvi : decide (V.int (l[i] : Nat) = V.int 10) = decide (l[i] = 10) := by rw [vint_dec]; exact decide_eq_decide.mpr (by omega)
      refine ifT (decide (l[i] = 10)) (fun k q1 => ⟨_, rfl, rfl, _, rfl, TellB.eq hvi q1 _ (Same.refl _)⟩) (fun hc H2 s2 => ?_) (fun hc H2 s2 => ?_)
      · have hc := of_decide_eq_true hc
        rw [pstep_hit 10 _ hc] at hst
        have hlu : lineU l i c = fixL (c.map uL) := by unfold lineU; rw [hce, decide_eq_true hc, if_pos rfl]
        rw [hlu] at eu1
        have smA := smU.trans s2
        have hul : (fixL (c.map uL)).length ≤ 100000 := by rw [fix_len, List.length_map]; omega
        refine ⟨.ref r, rfl, .ref u, rfl, u, _, rfl, s2 _ _ eu1, units_fix hUl, hul, fun H3 p3 s3 n3 e3 => ⟨r, p3, _, _, rfl, rfl, s3 _ _ (s2 _ _ er1), e3, ?_, fun p4 n4 => ⟨Nat.zero_le _, fun p5 n5 => ?_⟩⟩⟩
        · rw [List.length_map, List.length_map, strL_len, strL_len, sizeLine_eq]
          have : (cutR [] (fixL (c.map uL))).length = (lineR c).length := rfl
          simp only [List.map_cons, List.map_nil, List.flatten_cons, List.flatten_nil, List.append_nil] at hrows
          omega
        · have h45 : p4 ≠ p5 := fun e => by rw [← e, upd_same] at n5; exact nomatch n5
          have s4 := (smA.trans s3).trans (same_upd (o := .lst ((strL (A.map lineR).flatten).map V.str ++ (strL (cutR [] (fixL (c.map uL)))).map V.str)) n4)
          refine ⟨p4, p5, A ++ [c], [], _, _, rfl, s4.trans (same_upd n5), (smA.trans s3).free n4, s4.free n5, h45, ?_, ?_, hst⟩
          · rw [upd_ne h45, upd_same, List.map_append, List.flatten_append, strL_app, List.map_append]
            have : (List.map lineR [c]).flatten = cutR [] (fixL (c.map uL)) := by simp [lineR]
            rw [this]
          · rw [upd_same, lineU_nil]
            rfl
      · have hc := of_decide_eq_false hc
        rw [pstep_miss 10 _ hc, List.dropLast_concat, List.getLastD_concat] at hst
        have hlu : lineU l i c = c.map uL := by unfold lineU; rw [hce, decide_eq_false hc, if_neg (by simp)]
        rw [hlu] at eu1
        have smA := smU.trans s2
        refine ⟨.ref u, rfl, .inl ⟨rfl, _, .inl (.inl (s2 _ _ eu1))⟩, .ref a, rfl, _, rfl, a, l, i, rfl, smA _ _ ea, hb, hl, hi, fun H3 s3 => ⟨u, _, _, rfl, rfl, s3 _ _ (s2 _ _ eu1), ?_, ?_⟩⟩
        · rw [List.length_map, strL_len, List.length_map, sizeLine_eq]; omega
        · refine ⟨r, u, A, c ++ [l[i]], _, _, rfl, fun b x hb => ?_, nr, nu, hru, ?_, ?_, hst⟩
          · rw [upd_ne (ne_of_none hb nu)]
            exact s3 _ _ (smA _ _ hb)
          · rw [upd_ne hru]
            exact s3 _ _ (s2 _ _ er1)
          · rw [upd_same]
            have : lineU l (i + 1) (c ++ [l[i]]) = c.map uL ++ [unitL l i] := by
              unfold lineU unitL
              rw [hgd, List.map_append]
              by_cases he : endAt l (i + 1) = true
              · rw [if_pos he]
                unfold fixL
                rw [List.map_singleton, List.getLast?_concat, List.dropLast_concat]
                by_cases h32 : l[i] = 32
                · rw [h32, if_pos (by decide +kernel), if_pos ⟨rfl, he⟩]
                · rw [if_neg (fun h => h32 (uL_32 hbi (Option.some.inj h))), if_neg (fun h => h32 h.1)]
              · rw [if_neg he, if_neg (fun h => he h.2)]
                rfl
            rw [this, strL_app, List.map_append]
            rfl
    · obtain ⟨r, u, A, c, y3, y4, rfl, sm, nr, nu, hru, er, eu, hAc⟩ := hP
      rw [hml] at eu hAc
      have hle : endAt l l.length = true := by unfold endAt; rw [decide_eq_true rfl]; rfl
      have hlu : lineU l l.length c = fixL (c.map uL) := by unfold lineU; rw [hle, if_pos rfl]
      rw [List.take_length] at hAc
      rw [hlu] at eu
      have hcb : BytesN c := fun x hx => hb x (splitL_mem 10 l c (by rw [hAc]; simp) x hx)
      have hcl : c.length ≤ 4040 := by
        have := splitL_le 10 l c (by rw [hAc]; simp)
        omega
      have hUl : UnitsL (c.map uL) := units_map hcb
      have hul : (fixL (c.map uL)).length ≤ 100000 := by rw [fix_len, List.length_map]; omega
      have hrows := lines_many l
      rw [hAc, List.map_append, List.flatten_append, List.length_append] at hrows
      refine ⟨.ref r, rfl, .ref u, rfl, u, _, rfl, eu, units_fix hUl, hul, fun H3 p3 s3 n3 e3 => ⟨r, p3, _, _, rfl, rfl, s3 _ _ er, e3, ?_, fun p4 n4 => q _ p4 (sm.trans (s3.trans (same_upd n4))) ((sm.trans s3).free n4) ?_⟩⟩
      · rw [List.length_map, List.length_map, strL_len, strL_len, sizeLine_eq]
        have : (cutR [] (fixL (c.map uL))).length = (lineR c).length := rfl
        simp only [List.map_cons, List.map_nil, List.flatten_cons, List.flatten_nil, List.append_nil] at hrows
        omega
      · rw [upd_same]
        unfold rows16
        rw [hAc, List.map_append, List.flatten_append, strL_app, List.map_append]
        have : (List.map lineR [c]).flatten = cutR [] (fixL (c.map uL)) := by simp [lineR]
        rw [this]
def txt60 (l : List Nat) (i : Nat) : List Nat := ((List.range i).map fun j => fourL (((zl l).drop (j * 3)).take 3)).flatten
/-! ### _law_sixty -/
abbrev s__law_sixty : Stmt := topS 78
abbrev N__law_sixty : List Str := ["_law_row_here", "_law_some", "_law_text", "_law_at", "_law_group", "_law_three", "_law_number", "_law_four"]
abbrev P__law_sixty : List Str := ["_law_row_here"]
theorem sc__law_sixty : FnScope N__law_sixty ["_law_row_here"] (defScope s__law_sixty) := ⟨rfl, rfl, rfl, by decide +kernel, rfl, by decide +kernel, by decide +kernel⟩
def sp_lsixty : Sp := fun vs H Q _ => ∃ (a : Addr) (l : List Nat), vs = [.ref a] ∧ H a = some (.lst (nb l)) ∧ BytesN l ∧ l.length ≤ 4040 ∧ New H ((strL (rows60 l)).map V.str) Q
theorem ok_lsixty {f : Addr} {fd : FuncData} {k : Nat} (F : Fun K "_law_sixty" "_law_sixty" s__law_sixty f fd) (T : Tx mg tk) : FnOk P w K mg base CX0 (k + 1) f fd P__law_sixty sp_lsixty := by
  refine F.ok sc__law_sixty (fun vs H Q E h => ?_) (fun cdv A outer s H vs Q E hr h => ?_)
  · obtain ⟨a, l, rfl, _⟩ := h
    rfl
  · have nd := sc__law_sixty.nd
    obtain ⟨a, l, rfl, ea, hb, hl, q⟩ := h
    refine ⟨_, (pss_cons (ps_set (i := 1) nd rfl (.inl rfl) pe_str)
      (pss_cons (ps_set (i := 2) nd rfl (.inr rfl) pe_str)
      (pss_cons (ps_for PassesOwn.never rfl (pi_range3 (by rfl) T.n_range (pa_cons pe_int (pa_cons (pe_callB (cLen K) (by rfl) T.n_len (by decide +kernel) (pa_cons (pv 0) pa_nil)) (pa_cons pe_int pa_nil)))) (pg_name (i := 3) nd rfl (Or.inl rfl))
        (pss_cons (ps_set (i := 4) nd rfl (.inl rfl) (pe_slice (slL K) (pv 0) (po_some (pv 3)) (po_some (pe_op op_add (pv 3) pe_int))))
        (pss_cons (ps_set (i := 5) nd rfl (.inl rfl) (pe_op op_cat (pv 4) (pe_op op_rep (pe_lst (pa_cons pe_int pa_nil)) (pe_op op_sub pe_int (pe_callB (cLen K) (by rfl) T.n_len (by decide +kernel) (pa_cons (pv 4) pa_nil))))))
        (pss_cons (ps_set (i := 6) nd rfl (.inl rfl) (pe_op op_add (pe_op op_add (pe_op op_mul pe_int (pe_ix (ixL K) (pv 5) pe_int (fun _ _ => rfl))) (pe_op op_mul pe_int (pe_ix (ixL K) (pv 5) pe_int (fun _ _ => rfl)))) (pe_ix (ixL K) (pv 5) pe_int (fun _ _ => rfl))))
        (pss_cons (ps_set (i := 7) nd rfl (.inl rfl) (pe_lst (pa_cons (pe_ix ix_str (pv 1) (pe_op op_fdiv (pv 6) pe_int) (fun _ _ => rfl)) (pa_cons (pe_ix ix_str (pv 1) (pe_op op_mod (pe_op op_fdiv (pv 6) pe_int) pe_int) (fun _ _ => rfl)) (pa_cons (pe_ix ix_str (pv 1) (pe_op op_mod (pe_op op_fdiv (pv 6) pe_int) pe_int) (fun _ _ => rfl)) (pa_cons (pe_ix ix_str (pv 1) (pe_op op_mod (pv 6) pe_int) (fun _ _ => rfl)) pa_nil))))))
        (pss_one (ps_set (i := 2) nd rfl (.inr rfl) (pe_op op_add_str (pe_op op_add_str (pv 2) (pe_join pe_str (pe_slice (slL K) (pv 7) po_none (po_some (pe_op op_add (pe_callB (cLen K) (by rfl) T.n_len (by decide +kernel) (pa_cons (pv 4) pa_nil)) pe_int))))) (pe_op op_mul_str pe_str (pe_op op_sub pe_int (pe_callB (cLen K) (by rfl) T.n_len (by decide +kernel) (pa_cons (pv 4) pa_nil))))))))))))
      (pss_one (ps_ret (pe_lc (own := [("_law_at", 3)]) (g := gName 3) (by rfl) nd (pi_range3 (by rfl) T.n_range (pa_cons pe_int (pa_cons (pe_callB call_len_str (by rfl) T.n_len (by decide +kernel) (pa_cons (pv 2) pa_nil)) (pa_cons pe_int pa_nil)))) (blkOk_by (N := N__law_sixty) (sc := defScope s__law_sixty) (by decide +kernel)) (fun _ _ _ _ _ => (pg_name (i := 3) nd rfl (Or.inl rfl))) (fun _ _ _ _ _ => pts_nil) (fun _ _ _ _ _ => (pe_slice sl_str (pv 2) (po_some (pv 3)) (po_some (pe_op op_add (pv 3) pe_int)))))))))), ?_⟩
    dsimp only [tSeq, tAsg, gName]
    have hml : (nb l).length = l.length := nb_len l
    have hzl := zl_len l
    have hzb := zl_bytes hb
    have etx : ∀ i, txt60 l (i + 1) = txt60 l i ++ fourL (((zl l).drop (i * 3)).take 3) := fun i => by
      unfold txt60
      rw [List.range_succ, List.map_append, List.flatten_append]
      simp
    have ltx : ∀ i, (txt60 l i).length ≤ 7 * i := fun i => by
      unfold txt60
      have := flatten_le (k := 7) ((List.range i).map fun j => fourL (((zl l).drop (j * 3)).take 3)) (fun x hx => by
        obtain ⟨j, _, rfl⟩ := List.mem_map.mp hx
        exact fourL_le _)
      rw [List.length_map, List.length_range] at this
      exact this
    have s64 : (S64).length ≤ sizeLine := Nat.le_of_lt (small1000 (by decide +kernel))
    refine ⟨.ref a, rfl, a, _, rfl, .inl (.inl (.inl ea)), 0, _, 3, (l.length + 2) / 3, rfl, by rw [hml]; exact rgC l.length 3 (by decide) (by decide) (by omega), for_it walk_rangeC (fun i σ H' => ∃ y3 y4 y5 y6 y7, σ = [some (.ref a), some (.str S64), some (.str (S' (txt60 l i))), y3, y4, y5, y6, y7] ∧ Same H H')
      ⟨none, none, none, none, none, rfl, Same.refl _⟩ (fun _ _ _ _ _ => trivial) (fun i x σ H' H'' hi hP hy => ?_) (fun σ H' hP => ?_)⟩
    · obtain ⟨y3, y4, y5, y6, y7, rfl, sm⟩ := hP
      obtain ⟨rfl, rfl⟩ := hy
      dsimp only [gName, tSeq, tAsg]
      have ea1 := sm _ _ ea
      have hl2 : (((zl l).drop (i * 3)).take 3).length = min 3 (l.length - i * 3) := by rw [List.length_take, List.length_drop, hzl]
      have hGb : ∀ x ∈ ((zl l).drop (i * 3)).take 3, 0 ≤ x ∧ x < 256 := fun x hx => hzb x (List.mem_of_mem_drop (List.mem_of_mem_take hx))
      have hcut : cutV (nb l) (some (0 + ((i : Nat) : Int) * 3)) (some (0 + ((i : Nat) : Int) * 3 + 3)) = (((zl l).drop (i * 3)).take 3).map V.int := by
        rw [show (0 : Int) + ((i : Nat) : Int) * 3 = ((i * 3 : Nat) : Int) by omega, show ((i * 3 : Nat) : Int) + 3 = ((i * 3 + 3 : Nat) : Int) by omega, cutV_at, Nat.add_sub_cancel_left, nb_zl, List.map_take, List.map_drop]
      refine ⟨.ref a, rfl, _, rfl, _, rfl, _, rfl, _, 3, rfl, rfl, _, rfl, a, _, rfl, .inl (.inl ea1), fun g ng => ?_⟩
      rw [hcut]
      have eti := etx i
      generalize hG : ((zl l).drop (i * 3)).take 3 = G at *
      have hgl : 1 ≤ G.length ∧ G.length ≤ 3 := by omega
      have sg := same_upd (o := .lst (G.map V.int)) ng
      have eg : upd H'' g (.lst (G.map V.int)) g = some (.lst (G.map V.int)) := upd_same
      have smg := sm.trans sg
      generalize upd H'' g (.lst (G.map V.int)) = HG at eg smg
      have hGm : (G.map V.int).length = G.length := List.length_map ..
      have hk : (3 : Int) - ((G.map V.int).length : Nat) = ((3 - G.length : Nat) : Int) := by rw [hGm]; omega
      refine ⟨.ref g, rfl, by show 1 ≤ _; rw [sizeLine_eq]; omega, fun p1 n1 => ⟨.ref g, rfl, g, _, rfl, .inl (.inl (.inl (same_upd n1 _ _ eg))), 3, _, rfl, rfl, p1, _, _, rfl, rfl, upd_same, ?_, ?_, ?_, fun p2 n2 => ?_⟩⟩
      · rw [hk]; omega
      · rw [hk]; omega
      · rw [hk, sizeLine_eq]; show 1 * _ ≤ _; omega
      rw [hk, Int.toNat_natCast, rep_flat]
      have s1 := same_upd (o := .lst [V.int 0]) n1
      have s2 := same_upd (o := .lst ((List.replicate (3 - G.length) (0 : Int)).map V.int)) n2
      have e2 : upd (upd HG p1 (.lst [V.int 0])) p2 (.lst ((List.replicate (3 - G.length) (0 : Int)).map V.int)) p2 = some (.lst ((List.replicate (3 - G.length) (0 : Int)).map V.int)) := upd_same
      have s12 := s1.trans s2
      have eg2 := s12 _ _ eg
      have sm2 := smg.trans s12
      generalize upd (upd HG p1 (.lst [V.int 0])) p2 (.lst ((List.replicate (3 - G.length) (0 : Int)).map V.int)) = H2 at e2 eg2 sm2
      refine ⟨g, p2, _, _, rfl, rfl, eg2, e2, by rw [List.length_map, List.length_map, List.length_replicate, sizeLine_eq]; omega, fun p3 n3 => ?_⟩
      rw [← List.map_append]
      have hT : ∃ x y z : Int, G ++ List.replicate (3 - G.length) 0 = [x, y, z] ∧ (0 ≤ x ∧ x < 256) ∧ (0 ≤ y ∧ y < 256) ∧ 0 ≤ z ∧ z < 256 := by
        match G, hgl, hGb with
        | [x], _, h => exact ⟨x, 0, 0, rfl, h x (by simp), by omega, by omega, by omega⟩
        | [x, y], _, h => exact ⟨x, y, 0, rfl, h x (by simp), h y (by simp), by omega, by omega⟩
        | [x, y, z], _, h => exact ⟨x, y, z, rfl, h x (by simp), h y (by simp), (h z (by simp)).1, (h z (by simp)).2⟩
        | [], h, _ => exact absurd h.1 (by simp)
        | _ :: _ :: _ :: _ :: _, h, _ => exact absurd h.2 (by simp)
      obtain ⟨x, y, z, hxyz, hx, hy, hz⟩ := hT
      have hval : val256 (G ++ List.replicate (3 - G.length) 0) = 65536 * x + 256 * y + z := by
        rw [hxyz]
        show ((0 * 256 + x) * 256 + y) * 256 + z = _
        omega
      rw [hxyz]
      have s3 := same_upd (o := .lst ([x, y, z].map V.int)) n3
      have e3 : upd H2 p3 (.lst ([x, y, z].map V.int)) p3 = some (.lst [V.int x, .int y, .int z]) := upd_same
      have eg3 := s3 _ _ eg2
      have sm3 := sm2.trans s3
      generalize upd H2 p3 (.lst ([x, y, z].map V.int)) = H3 at e3 eg3 sm3
      refine ⟨.ref p3, rfl, p3, _, _, .int x, rfl, rfl, .inl (.inl e3), rfl, _, x, rfl, rfl, .inl ⟨by decide, by decide⟩, .ref p3, rfl, p3, _, _, .int y, rfl, rfl, .inl (.inl e3), rfl, _, y, rfl, rfl, .inl ⟨by decide, by decide⟩, _, _, rfl, rfl, .ref p3, rfl, p3, _, _, .int z, rfl, rfl, .inl (.inl e3), rfl, _, z, rfl, rfl, ?_⟩
      have hv : ∃ v, 65536 * x + 256 * y + z = v ∧ 0 ≤ v ∧ v < 16777216 := ⟨_, rfl, by omega, by omega⟩
      obtain ⟨v, hv, hv0, hv1⟩ := hv
      rw [hv] at hval
      show tLst _ [some (.ref a), some (.str S64), some (.str (S' (txt60 l i))), some (.int (0 + ((i : Nat) : Int) * 3)), some (.ref g), some (.ref p3), some (.int (65536 * x + 256 * y + z)), y7] H3 _
      rw [hv]
      have a1 := sgn_at (n := v / 262144) (by omega) (by omega)
      have a2 := sgn_at (n := v / 4096 % 64) (by omega) (by omega)
      have a3 := sgn_at (n := v / 64 % 64) (by omega) (by omega)
      have a4 := sgn_at (n := v % 64) (by omega) (by omega)
      refine ⟨_, rfl, _, rfl, v, 262144, rfl, rfl, ⟨by decide, by decide⟩, S64, _, _, rfl, rfl, s64, a1, _, rfl, _, rfl, v, 4096, rfl, rfl, ⟨by decide, by decide⟩, _, 64, rfl, rfl, (show (0 : Int) < 64 by decide), S64, _, _, rfl, rfl, s64, a2, _, rfl, _, rfl, v, 64, rfl, rfl, ⟨by decide, by decide⟩, _, 64, rfl, rfl, (show (0 : Int) < 64 by decide), S64, _, _, rfl, rfl, s64, a3, _, rfl, _, rfl, v, 64, rfl, rfl, (show (0 : Int) < 64 by decide), S64, _, _, rfl, rfl, s64, a4, by show 4 ≤ _; rw [sizeLine_eq]; omega, fun p4 n4 => ?_⟩
      have s4 := same_upd (o := .lst (([sgn (v / 262144), sgn (v / 4096 % 64), sgn (v / 64 % 64), sgn (v % 64)]).map fun c => V.str ⟨#[c]⟩)) n4
      have e4 : upd H3 p4 (.lst (([sgn (v / 262144), sgn (v / 4096 % 64), sgn (v / 64 % 64), sgn (v % 64)]).map fun c => V.str ⟨#[c]⟩)) p4 = some (.lst (([sgn (v / 262144), sgn (v / 4096 % 64), sgn (v / 64 % 64), sgn (v % 64)]).map fun c => V.str ⟨#[c]⟩)) := upd_same
      have eg4 := s4 _ _ eg3
      have sm4 := sm3.trans s4
      refine ⟨_, rfl, ⟨_, rfl⟩, .ref p4, rfl, .ref g, rfl, g, _, rfl, .inl (.inl (.inl eg4)), _, 1, rfl, rfl, _, rfl, p4, _, rfl, .inl (.inl e4), fun p5 n5 => ?_⟩
      have hk1 : ((G.map V.int).length : Int) + 1 = ((G.length + 1 : Nat) : Int) := by rw [hGm]; omega
      have hfo : fourL G = ([sgn (v / 262144), sgn (v / 4096 % 64), sgn (v / 64 % 64), sgn (v % 64)]).take (G.length + 1) ++ List.replicate (3 - G.length) 61 := by
        unfold fourL
        rw [hval]
        show [sgn (v / 262144 % 64), sgn (v / 4096 % 64), sgn (v / 64 % 64), sgn (v / 1 % 64)].take _ ++ _ = _
        rw [show v / 262144 % 64 = v / 262144 by omega, show v / 1 = v by omega, show 4 - (3 - G.length) = G.length + 1 by omega]
      have hk2 : (3 : Int) - ((G.map V.int).length : Nat) = ((3 - G.length : Nat) : Int) := by rw [hGm]; omega
      rw [show ((G.map V.int).length : Int) + 1 = ((G.length + 1 : Nat) : Int) from hk1, cutV_to]
      have e5 : upd (upd H3 p4 (.lst ([sgn (v / 262144), sgn (v / 4096 % 64), sgn (v / 64 % 64), sgn (v % 64)].map fun c => V.str ⟨#[c]⟩))) p5 (.lst (([sgn (v / 262144), sgn (v / 4096 % 64), sgn (v / 64 % 64), sgn (v % 64)].map fun c => V.str ⟨#[c]⟩).take (G.length + 1))) p5 = some (.lst ((([sgn (v / 262144), sgn (v / 4096 % 64), sgn (v / 64 % 64), sgn (v % 64)].take (G.length + 1)).map fun c => (⟨#[c]⟩ : Str)).map V.str)) := by
        rw [upd_same, List.map_map, List.map_take]
        rfl
      have s5 := same_upd (o := .lst (([sgn (v / 262144), sgn (v / 4096 % 64), sgn (v / 64 % 64), sgn (v % 64)].map fun c => V.str ⟨#[c]⟩).take (G.length + 1))) n5
      have eg5 := s5 _ _ eg4
      have sm5 := sm4.trans s5
      have h00 : (Str.ofString "").length = 0 := by decide +kernel
      have hul : ([sgn (v / 262144), sgn (v / 4096 % 64), sgn (v / 64 % 64), sgn (v % 64)].take (G.length + 1)).length ≤ 4 := by rw [List.length_take]; show min _ 4 ≤ 4; omega
      have heq : TL.tl (repS (Str.ofString "=") ((3 - G.length : Nat) : Int)) = List.replicate (3 - G.length) 61 := by rw [tl_rep_eq, Int.toNat_natCast]
      have hel : (repS (Str.ofString "=") ((3 - G.length : Nat) : Int)).length ≤ 3 := by rw [TL.len_tl, heq, List.length_replicate]; omega
      have hti := ltx i
      refine ⟨Str.ofString "", p5, _, rfl, rfl, .inl (.inl (.inl e5)), by rw [sum_one, h00]; omega, ?_⟩
      rw [show Txt.join (Str.ofString "") (([sgn (v / 262144), sgn (v / 4096 % 64), sgn (v / 64 % 64), sgn (v % 64)].take (G.length + 1)).map fun c => (⟨#[c]⟩ : Str)) = S' ([sgn (v / 262144), sgn (v / 4096 % 64), sgn (v / 64 % 64), sgn (v % 64)].take (G.length + 1)) from TL.ext_tl (join_ones _)]
      refine ⟨_, _, rfl, rfl, by rw [S'_len, S'_len, sizeLine_eq]; omega, .ref g, rfl, g, _, rfl, .inl (.inl (.inl eg5)), 3, _, rfl, rfl, ?_⟩
      show ∃ z n, _ ∧ V.int ((3 : Int) - ((G.map V.int).length : Nat)) = V.int n ∧ _
      rw [hk2]
      refine ⟨_, _, rfl, rfl, by omega, by omega, by decide +kernel, _, _, rfl, rfl, by rw [len_app, S'_len, S'_len, sizeLine_eq]; omega, some (.int (0 + ((i : Nat) : Int) * 3)), some (.ref g), some (.ref p3), some (.int (65536 * x + 256 * y + z)), some (.ref p4), ?_, sm5⟩
      have ee : S' (txt60 l i) ++ S' ([sgn (v / 262144), sgn (v / 4096 % 64), sgn (v / 64 % 64), sgn (v % 64)].take (G.length + 1)) ++ repS (Str.ofString "=") ((3 - G.length : Nat) : Int) = S' (txt60 l (i + 1)) := TL.ext_tl (by
        rw [TL.tl_append, TL.tl_append, heq, eti, hfo, ← List.append_assoc]
        rfl)
      show [_, _, some (V.str (S' (txt60 l i) ++ S' ([sgn (v / 262144), sgn (v / 4096 % 64), sgn (v / 64 % 64), sgn (v % 64)].take (G.length + 1)) ++ repS (Str.ofString "=") ((3 - G.length : Nat) : Int))), _, _, _, _, _] = _
      rw [ee]
    · obtain ⟨y3, y4, y5, y6, y7, rfl, sm⟩ := hP
      have hpt : txt60 l ((l.length + 2) / 3) = ptext (zl l) := by
        unfold txt60 ptext chunks
        rw [hzl, List.map_map]
        rfl
      rw [hpt]
      have hJ : (S' (ptext (zl l))).length = (ptext (zl l)).length := S'_len _
      have hp := ptext_le (zl l)
      rw [hzl] at hp
      refine ⟨.str (S' (ptext (zl l))), rfl, _, rfl, by rw [hJ, sizeLine_eq]; omega, 0, _, 60, ((ptext (zl l)).length + 59) / 60, rfl, by rw [hJ]; exact rgC _ 60 (by decide) (by decide) (by omega), fun D2 hD2 => ?_⟩
      refine lc_pure (fun i => .int (0 + ((i : Nat) : Int) * 60)) (fun i => .str ⟨(((ptext (zl l)).drop (i * 60)).take 60).toArray⟩) walk_rangeC (fun _ _ => trivial) hD2 (by rw [sizeLine_eq]; omega) (fun i H3 Q3 hi s3 q3 => ?_) (fun H3 s3 e => ?_)
      · refine ⟨_, rfl, _, rfl, _, rfl, _, rfl, _, 60, rfl, rfl, _, rfl, _, rfl, by rw [hJ, sizeLine_eq]; omega, ?_⟩
        rw [show (0 : Int) + ((i : Nat) : Int) * 60 = ((i * 60 : Nat) : Int) by omega, show ((i * 60 : Nat) : Int) + 60 = ((i * 60 + 60 : Nat) : Int) by omega, cutS_at, Nat.add_sub_cancel_left]
        exact q3 _ (Same.refl _)
      · refine q H3 D2 (sm.trans s3) (sm.free hD2) ?_
        rw [e]
        unfold strL rows60 chunks
        rw [List.map_map, List.map_map]
        rfl
end
end K20

namespace K20
open PySem PySem.Spec PyProof.Rows L2 LH
/-! ### the law's body, what is due -/
theorem tl_nl : TL.tl (Str.ofString "\n") = [10] := by decide +kernel
theorem joinL_exact (s : Nat) : ∀ ps : List (List Nat), ps ≠ [] → (TL.joinL [s] ps).length + 1 = (ps.map fun r => r.length + 1).sum
  | [], h => absurd rfl h
  | [p], _ => by simp [TL.joinL]
  | p :: q :: r, _ => by
    have ih := joinL_exact s (q :: r) (by simp)
    rw [TL.joinL, List.length_append, List.length_append, List.map_cons, List.sum_cons, List.length_singleton]
    omega
theorem strL_tl (us : List (List Nat)) : (strL us).map TL.tl = us := strL_tls us
theorem join_nl (us : List (List Nat)) (h : us ≠ []) : (Txt.join (Str.ofString "\n") (strL us)).length + 1 = manyL us := by
  rw [TL.len_tl, TL.join_eq, TL.tl_join, tl_nl, strL_tl]
  exact joinL_exact 10 us h
theorem rows16_ne (l : List Nat) : rows16 l ≠ [] := by
  unfold rows16
  obtain ⟨x, y, e⟩ := List.exists_cons_of_ne_nil (splitL_ne 10 l)
  rw [e, List.map_cons, List.flatten_cons]
  have : ∀ (us : List (List Nat)) (row : List Nat), cutR row us ≠ [] := by
    intro us
    induction us with
    | nil => intro row; simp [cutR]
    | cons u r ih =>
      intro row
      unfold cutR
      split
      · simp
      · exact ih _
  intro h
  exact this _ _ (List.append_eq_nil_iff.mp h).1
theorem fourL_ne (c : List Int) : fourL c ≠ [] := by
  intro h
  have := congrArg List.length h
  unfold fourL at this
  simp only [List.length_append, List.length_take, List.length_map, List.length_cons, List.length_nil, List.length_replicate] at this
  omega
theorem rows60_ne {l : List Nat} (h : l ≠ []) : rows60 l ≠ [] := by
  have hz : zl l ≠ [] := by unfold zl; simpa using h
  have hp : ptext (zl l) ≠ [] := by
    unfold ptext
    rw [chunks_cons (by decide) hz, List.map_cons, List.flatten_cons]
    intro e
    exact fourL_ne _ (List.append_eq_nil_iff.mp e).1
  unfold rows60
  rw [chunks_cons (by decide) hp]
  simp
theorem sum_many (us : List (List Nat)) : ((strL us).map (·.length)).sum + (strL us).length * (Str.ofString "\n").length = manyL us := by
  rw [show (Str.ofString "\n").length = 1 by decide +kernel, Nat.mul_one, sum_units, strL_len]
  unfold manyL tot
  induction us with
  | nil => rfl
  | cons u r ih => rw [List.map_cons, List.sum_cons, List.map_cons, List.sum_cons, List.length_cons]; omega
theorem many16 {l : List Nat} (h : BytesN l) (hl : l.length ≤ 4040) : manyL (rows16 l) ≤ 300000 := by
  have h1 := sum_le 61 ((rows16 l).map fun r => r.length + 1) (fun x hx => by
    obtain ⟨r, hr, rfl⟩ := List.mem_map.mp hx
    have := (rows16_good h r hr).1.1
    omega)
  have h2 := rows16_count l
  rw [List.length_map] at h1
  unfold manyL
  have : (rows16 l).length * 61 ≤ 4041 * 61 := Nat.mul_le_mul_right _ (by omega)
  omega
theorem many60 {l : List Nat} (hl : l.length ≤ 4040) : manyL (rows60 l) ≤ 300000 := by
  have h1 := sum_le 61 ((rows60 l).map fun r => r.length + 1) (fun x hx => by
    obtain ⟨r, hr, rfl⟩ := List.mem_map.mp hx
    have := rows60_len l r hr
    omega)
  have h2 := rows60_many l
  rw [List.length_map] at h1
  unfold manyL
  have : (rows60 l).length * 61 ≤ 4041 * 61 := Nat.mul_le_mul_right _ (by omega)
  omega
section
variable {P : Program} {w : World} {K : PySem.W.Frag} {mg : Str → Option Value} {base : Heap} {tk : Nat → Tok} {ca : Nat → Addr} {CH CP : Addr}
/-! ### _law_body -/
abbrev s__law_body : Stmt := topS 79
abbrev N__law_body : List Str := ["_law_row_here", "_law_rows", "_law_others"]
abbrev P__law_body : List Str := ["_law_row_here"]
theorem sc__law_body : FnScope N__law_body ["_law_row_here"] (defScope s__law_body) := ⟨rfl, rfl, rfl, by decide +kernel, rfl, by decide +kernel, by decide +kernel⟩
def sp_lbody : Sp := fun vs H Q _ => ∃ (a : Addr) (l : List Nat), vs = [.ref a] ∧ H a = some (.lst (nb l)) ∧ BytesN l ∧ l.length ≤ 4040 ∧ NewBody H (bodyW l) Q
theorem ok_lbody {f f1 f2 f3 : Addr} {fd fd1 fd2 fd3 : FuncData} (F : Fun K "_law_body" "_law_body" s__law_body f fd) (T : Tx mg tk) (D__law_plain : Def P w K mg base "_law_plain" 2 f1 fd1 P__law_plain sp_lplain) (D__law_sixteens : Def P w K mg base "_law_sixteens" 3 f2 fd2 P__law_sixteens sp_sixteens) (D__law_sixty : Def P w K mg base "_law_sixty" 1 f3 fd3 P__law_sixty sp_lsixty) : FnOk P w K mg base CX0 4 f fd P__law_body sp_lbody := by
  refine F.ok sc__law_body (fun vs H Q E h => ?_) (fun cdv A outer s H vs Q E hr h => ?_)
  · obtain ⟨a, l, rfl, _⟩ := h
    rfl
  · have nd := sc__law_body.nd
    obtain ⟨a, l, rfl, ea, hb, hl, q⟩ := h
    refine ⟨_, (pss_cons (ps_set (i := 1) nd rfl (.inl rfl) (pe_def D__law_plain (hr.mono (by decide)) (pa_cons (pv 0) pa_nil)))
      (pss_cons (ps_if (pt_cmpR op_notN (pv 1) pe_non (nomark _))
        (pss_one (ps_ret (pe_tup (pa_cons pe_str (pa_cons (pv 1) pa_nil)))))
        pss_nil)
      (pss_cons (ps_par (i := 1) (j := 2) (by rfl) nd rfl rfl (by decide) rfl rfl (pa_cons (pe_def D__law_sixteens (hr.mono (by decide)) (pa_cons (pv 0) pa_nil)) (pa_cons (pe_def D__law_sixty (hr.mono (by decide)) (pa_cons (pv 0) pa_nil)) pa_nil)) (by rfl))
      (pss_cons (ps_if (pt_cmpR op_lt (pe_callB call_len_str (by rfl) T.n_len (by decide +kernel) (pa_cons (pe_join pe_str (pv 2)) pa_nil)) (pe_callB call_len_str (by rfl) T.n_len (by decide +kernel) (pa_cons (pe_join pe_str (pv 1)) pa_nil)) (nomark _))
        (pss_one (ps_ret (pe_tup (pa_cons pe_str (pa_cons (pv 2) pa_nil)))))
        pss_nil)
      (pss_one (ps_ret (pe_tup (pa_cons pe_str (pa_cons (pv 1) pa_nil))))))))), ?_⟩
    dsimp only [tSeq, tAsg, gName]
    have n2 : 2 ≤ sizeLine := by rw [sizeLine_eq]; omega
    unfold bodyW at q
    refine ⟨.ref a, rfl, a, l, rfl, ea, hb, hl, fun hp => ?_, fun hp => ?_⟩
    · rw [if_pos hp] at q
      intro H1 p s1 np e1
      refine ⟨.ref p, rfl, rfl, _, rfl, iteT ⟨.ref p, rfl, n2, fun t nt => q _ t p (s1.trans (same_upd nt)) upd_same (same_upd nt _ _ e1)⟩⟩
    · rw [if_neg (by rw [hp]; exact Bool.false_ne_true)] at q
      intro H1 s1
      refine ⟨.non, rfl, rfl, _, rfl, iteF ?_⟩
      dsimp only [tNext, tSeq]
      have hne : l ≠ [] := fun h => by rw [h] at hp; revert hp; decide +kernel
      have h16 := join_nl (rows16 l) (rows16_ne l)
      have h60 := join_nl (rows60 l) (rows60_ne hne)
      have m16 := many16 hb hl
      have m60 := many60 hl
      refine ⟨.ref a, rfl, a, l, rfl, s1 _ _ ea, hb, hl, fun H2 p2 s2 n2' e2 => ⟨.ref a, rfl, a, l, rfl, s2 _ _ (s1 _ _ ea), hb, hl, fun H3 p3 s3 n3 e3 => ⟨_, _, rfl, ?_⟩⟩⟩
      have e23 := s3 _ _ e2
      have sA := s1.trans (s2.trans s3)
      dsimp only [tSeq]
      refine ifT (decide (manyL (rows60 l) < manyL (rows16 l))) (fun k q1 => ⟨⟨_, rfl⟩, .ref p3, rfl, Str.ofString "\n", p3, strL (rows60 l), rfl, rfl, .inl (.inl (.inl e3)), by rw [sum_many]; omega, _, rfl, by rw [sizeLine_eq]; omega, ⟨_, rfl⟩, .ref p2, rfl, Str.ofString "\n", p2, strL (rows16 l), rfl, rfl, .inl (.inl (.inl e23)), by rw [sum_many]; omega, _, rfl, by rw [sizeLine_eq]; omega, _, _, rfl, rfl, _, rfl, TellB.eq (decide_eq_decide.mpr (by omega)) q1 _ (Same.refl _)⟩) (fun hc H4 s4 => ?_) (fun hc H4 s4 => ?_)
      · have hc := of_decide_eq_true hc
        rw [if_neg (by omega)] at q
        exact ⟨.ref p3, rfl, n2, fun t nt => q _ t p3 (sA.trans (s4.trans (same_upd nt))) upd_same (same_upd nt _ _ (s4 _ _ e3))⟩
      · have hc := of_decide_eq_false hc
        rw [if_pos (by omega)] at q
        exact ⟨.ref p2, rfl, n2, fun t nt => q _ t p2 (sA.trans (s4.trans (same_upd nt))) upd_same (same_upd nt _ _ (s4 _ _ e23))⟩
/-! ### _law_due -/
abbrev s__law_due : Stmt := topS 80
abbrev N__law_due : List Str := ["_law_pairs", "_law_row_here", "_law_rows", "_law_name_here", "_law_value_here", "_law_word_here", "_law_body_here"]
abbrev P__law_due : List Str := ["_law_pairs", "_law_row_here"]
theorem sc__law_due : FnScope N__law_due ["_law_pairs", "_law_row_here"] (defScope s__law_due) := ⟨rfl, rfl, rfl, by decide +kernel, rfl, by decide +kernel, by decide +kernel⟩
/-- pairs of a name and a value -/
def PrsR (H : Hp) (ts : List Addr) (hs : List (Str × List Str)) : Prop := ts.length = hs.length ∧ ∀ i, i < hs.length → H (ts.getD i 0) = some (.tup [.str (hv (hs.getD i (Str.empty, []))).1, .str (hv (hs.getD i (Str.empty, []))).2])
theorem PrsR.same {H H' : Hp} {ts : List Addr} {hs : List (Str × List Str)} (s : Same H H') (h : PrsR H ts hs) : PrsR H' ts hs := ⟨h.1, fun i hi => s _ _ (h.2 i hi)⟩
theorem way_rows (l : List Nat) : hrows (TL.tl bodyN) [TL.tl (bodyW l).1] = [TL.tl (Str.ofString "Body: " ++ (bodyW l).1)] := by
  have key : ∀ z : Str, z = Str.ofString "plain" ∨ z = Str.ofString "sixteens" ∨ z = Str.ofString "sixty" → hrows (TL.tl bodyN) [TL.tl z] = [TL.tl (Str.ofString "Body: " ++ z)] := by
    rintro z (rfl | rfl | rfl) <;> decide +kernel
  refine key _ ?_
  unfold bodyW
  split
  · exact .inl rfl
  · split
    · exact .inr (.inl rfl)
    · exact .inr (.inr rfl)
def sp_ldue : Sp := fun vs H Q _ => ∃ (pa ra : Addr) (ts : List Addr) (hs : List (Str × List Str)) (l : List Nat), vs = [.ref pa, .ref ra] ∧ H pa = some (.lst (ts.map V.ref)) ∧ PrsR H ts hs ∧ (∀ p ∈ hs, HdOk p) ∧ hs.length ≤ 100 ∧ H ra = some (.lst (nb l)) ∧ BytesN l ∧ l.length ≤ 4040 ∧ New H ((strL (pieceR hs l)).map V.str) Q
theorem ok_ldue {f f1 f2 : Addr} {fd fd1 fd2 : FuncData} (F : Fun K "_law_due" "_law_due" s__law_due f fd) (T : Tx mg tk) (D__law_folded : Def P w K mg base "_law_folded" 1 f1 fd1 P__law_folded sp_lfolded) (D__law_body : Def P w K mg base "_law_body" 4 f2 fd2 P__law_body sp_lbody) : FnOk P w K mg base CX0 5 f fd P__law_due sp_ldue := by
  refine F.ok sc__law_due (fun vs H Q E h => ?_) (fun cdv A outer s H vs Q E hr h => ?_)
  · obtain ⟨pa, ra, ts, hs, l, rfl, _⟩ := h
    rfl
  · have nd := sc__law_due.nd
    obtain ⟨pa, ra, ts, hs, l, rfl, epa, hpr, hok, hhl, era, hb, hl, q⟩ := h
    refine ⟨_, (pss_cons (ps_set (i := 2) nd rfl (.inl rfl) (pe_lst pa_nil))
      (pss_cons (ps_for PassesOwn.never rfl (pi_list (pv 0)) (pg_tup rfl (pgs_cons (pg_name (i := 3) nd rfl (Or.inl rfl)) (pgs_cons (pg_name (i := 4) nd rfl (Or.inl rfl)) pgs_nil)))
        (pss_one (ps_set (i := 2) nd rfl (.inl rfl) (pe_op op_cat (pv 2) (pe_def D__law_folded (hr.mono (by decide)) (pa_cons (pv 3) (pa_cons (pv 4) pa_nil)))))))
      (pss_cons (ps_asg (pe_def D__law_body (hr.mono (by decide)) (pa_cons (pv 1) pa_nil)) (pg_tup rfl (pgs_cons (pg_name (i := 5) nd rfl (Or.inl rfl)) (pgs_cons (pg_name (i := 6) nd rfl (Or.inl rfl)) pgs_nil))))
      (pss_one (ps_ret (pe_op op_cat (pe_op op_cat (pv 2) (pe_lst (pa_cons (pe_op op_add_str pe_str (pv 5)) (pa_cons pe_str pa_nil)))) (pv 6))))))), ?_⟩
    dsimp only [tSeq, tAsg, gName]
    refine ⟨Nat.zero_le _, fun r0 nr0 => ?_⟩
    have s0 := same_upd (o := .lst []) nr0
    refine ⟨.ref pa, rfl, pa, rfl, ⟨_, .inl (.inl (s0 _ _ epa))⟩, for_it walk_list (fun i σ H' => ∃ (r : Addr) (y3 y4 y5 y6 : Option V), σ = [some (.ref pa), some (.ref ra), some (.ref r), y3, y4, y5, y6] ∧ Same H H' ∧ H r = none ∧ H' r = some (.lst ((strL (rowsW (hs.take i))).map V.str)))
      ⟨r0, none, none, none, none, rfl, s0, nr0, upd_same⟩ (fun i σ H' _ h => by obtain ⟨_, _, _, _, _, rfl, sm, _⟩ := h; exact .inl (.inl (sm _ _ epa))) (fun i x σ H' H'' hi hP hy => ?_) (fun σ H' hP => ?_)⟩
    · obtain ⟨r, y3, y4, y5, y6, rfl, sm, nr, er⟩ := hP
      obtain ⟨rfl, hx⟩ := hy
      rw [List.length_map] at hi
      rw [List.getElem?_map, List.getElem?_eq_getElem hi] at hx
      obtain rfl := Option.some.inj hx
      have hi2 : i < hs.length := by have := hpr.1; omega
      have et := sm _ _ (hpr.2 i hi2)
      rw [show ts.getD i 0 = ts[i] by rw [List.getD_eq_getElem?_getD, List.getElem?_eq_getElem hi]; rfl, show hs.getD i (Str.empty, []) = hs[i] by rw [List.getD_eq_getElem?_getD, List.getElem?_eq_getElem hi2]; rfl] at et
      have hoki := hok hs[i] (List.getElem_mem hi2)
      have htk : hs.take (i + 1) = hs.take i ++ [hs[i]] := by rw [List.take_add_one, List.getElem?_eq_getElem hi2]; rfl
      have hrm := rowsW_many (hs.take i) fun p hp => hok p (List.mem_of_mem_take hp)
      have htl : (hs.take i).length ≤ 100 := by rw [List.length_take]; omega
      have hrm2 := hdRows_many hs[i] hoki
      refine ⟨ts[i], _, rfl, .inl (.inl et), rfl, _, _, rfl, _, _, rfl, rfl, ?_⟩
      refine ⟨.ref r, rfl, _, rfl, _, rfl, _, _, rfl, hoki.1, hoki.2.1, hoki.2.2.1, hoki.2.2.2, fun H3 q3 s3 n3 e3 => ⟨r, q3, _, _, rfl, rfl, s3 _ _ er, e3, ?_, fun p4 n4 => ?_⟩⟩
      · unfold rowsH
        rw [List.length_map, List.length_map, strL_len, strL_len, sizeLine_eq]
        have : (hrows (TL.tl (hv hs[i]).fst) (List.map TL.tl hs[i].snd)).length ≤ 101 := hrm2
        omega
      · refine ⟨p4, _, _, _, _, rfl, sm.trans (s3.trans (same_upd n4)), (sm.trans s3).free n4, ?_⟩
        rw [upd_same, htk, rowsW_snoc, strL_app, List.map_append]
        rfl
    · obtain ⟨r, y3, y4, y5, y6, rfl, sm, nr, er⟩ := hP
      rw [List.length_map, hpr.1, List.take_length] at er
      have hbm := body_many hl
      have hrm := rowsW_many hs hok
      refine ⟨.ref ra, rfl, ra, l, rfl, sm _ _ era, hb, hl, fun H5 t pb s5 et eb => ⟨t, _, rfl, .inl (.inl et), rfl, _, _, rfl, _, _, rfl, rfl, ?_⟩⟩
      have l5 : ((strL (rowsW hs)).map V.str).length ≤ 10100 := by
        rw [List.length_map, strL_len]
        omega
      have lb : ((strL (bodyW l).2).map V.str).length ≤ 4041 := by
        rw [List.length_map, strL_len]
        omega
      have hw := way_ok l (bodyW l).1 (by simp)
      have hwr := way_rows l
      generalize hR5 : (strL (rowsW hs)).map V.str = R5 at *
      generalize hRb : (strL (bodyW l).2).map V.str = Rb at *
      refine ⟨.ref r, rfl, _, rfl, _, _, rfl, rfl, by rw [show (Str.ofString "Body: ").length = 6 by decide +kernel, sizeLine_eq]; have := hw.2; omega, by show 2 ≤ _; rw [sizeLine_eq]; omega, fun p6 n6 => ?_⟩
      have s6 := same_upd (o := .lst [V.str (Str.ofString "Body: " ++ (bodyW l).1), .str (Str.ofString "")]) n6
      refine ⟨r, p6, _, _, rfl, rfl, s6 _ _ (s5 _ _ er), upd_same, by rw [sizeLine_eq]; show _ + 2 ≤ _; omega, fun p7 n7 => ?_⟩
      have s7 := same_upd (o := .lst (R5 ++ [V.str (Str.ofString "Body: " ++ (bodyW l).1), .str (Str.ofString "")])) n7
      have sA := sm.trans (s5.trans (s6.trans s7))
      refine ⟨.ref pb, rfl, p7, pb, _, _, rfl, rfl, upd_same, s7 _ _ (s6 _ _ eb), by rw [List.length_append, sizeLine_eq]; show _ + 2 + _ ≤ _; omega, fun p8 n8 => q _ p8 (sA.trans (same_upd n8)) (sA.free n8) ?_⟩
      rw [upd_same]
      unfold pieceR
      rw [hwr, strL_app, strL_app, List.map_append, List.map_append, ← hRb, ← hR5, List.append_assoc]
      have : TL.tl (Str.ofString "") = [] := by decide +kernel
      show _ = some (HO.lst (List.map V.str (strL (rowsW hs)) ++ (V.str ⟨(TL.tl (Str.ofString "Body: " ++ (bodyW l).1)).toArray⟩ :: V.str ⟨#[]⟩ :: List.map V.str (strL (bodyW l).2))))
      rfl
end
end K20

namespace K20
open PySem PySem.Spec PyProof.Rows L2 LH
/-! ### the law -/
theorem HdsR.of_at {H : Hp} {C : Addr} : ∀ (as : List Addr) (hs : List (Str × Str)), as.length = hs.length → (∀ i, i < hs.length → HdR H C (as.getD i 0) (hs.getD i (Str.empty, Str.empty)).1 (hs.getD i (Str.empty, Str.empty)).2) → HdsR H C as hs
  | [], [], _, _ => trivial
  | a :: as, p :: ps, h, hf => ⟨hf 0 (Nat.zero_lt_succ _), HdsR.of_at as ps (Nat.succ.inj h) fun i hi => hf (i + 1) (Nat.succ_lt_succ hi)⟩
  | [], _ :: _, h, _ => nomatch h
  | _ :: _, [], h, _ => nomatch h
theorem PrsR.upd {H : Hp} {ts : List Addr} {hs : List (Str × List Str)} {a : Addr} {xs : List V} {o : HO} (h : PrsR H ts hs) (ea : H a = some (.lst xs)) : PrsR (upd H a o) ts hs := ⟨h.1, fun i hi => by
  have := h.2 i hi
  rw [upd_ne fun e => by rw [e, ea] at this; exact nomatch this]
  exact this⟩
theorem HdsR.upd {H : Hp} {C : Addr} {as : List Addr} {hs : List (Str × Str)} {a : Addr} {xs : List V} {o : HO} (h : HdsR H C as hs) (ea : H a = some (.lst xs)) : HdsR (upd H a o) C as hs := HdsR.of_at _ _ h.len fun i hi => by
  obtain ⟨dx, e⟩ := h.at i hi
  refine ⟨dx, ?_⟩
  rw [upd_ne fun e2 => by rw [e2, ea] at e; exact nomatch e]
  exact e
theorem small_low {l : List Nat} (h : ∀ c ∈ l, isSmall c = true) : ∀ c ∈ l, c < 1114112 := fun c hc => by have := (isSmall_iff c).mp (h c hc); omega
theorem name_low {l : List Nat} (h : isHN l = true) : ∀ c ∈ l, c < 1114112 := fun c hc => by
  by_cases h45 : c = 45
  · omega
  · obtain ⟨p, hp, hcp⟩ := split_mem_of 45 l c hc h45
    have := (hn_small h p hp).1 c hcp
    omega
theorem sgn_low (n : Int) : sgn n < 128 := by
  unfold sgn
  have : ∀ c ∈ TL.tl S64, c < 128 := by decide +kernel
  rw [List.getD_eq_getElem?_getD]
  cases h : (TL.tl S64)[n.toNat]? with
  | none => show 0 < 128; decide
  | some c => exact this c (List.mem_of_getElem? h)
theorem fourL_low (g : List Int) : ∀ c ∈ fourL g, c < 128 := fun c hc => by
  unfold fourL at hc
  rcases List.mem_append.mp hc with hc | hc
  · obtain ⟨s, _, rfl⟩ := List.mem_map.mp (List.mem_of_mem_take hc)
    exact sgn_low _
  · rw [(List.mem_replicate.mp hc).2]; decide
theorem rows60_low (l : List Nat) : ∀ r ∈ rows60 l, ∀ c ∈ r, c < 128 := fun r hr c hc => by
  unfold rows60 at hr
  obtain ⟨i, _, rfl⟩ := List.mem_map.mp hr
  have hc := List.mem_of_mem_drop (List.mem_of_mem_take hc)
  unfold ptext at hc
  obtain ⟨x, hx, hcx⟩ := List.mem_flatten.mp hc
  obtain ⟨g, _, rfl⟩ := List.mem_map.mp hx
  exact fourL_low g c hcx
theorem body_low {l : List Nat} (hb : BytesN l) : ∀ r ∈ (bodyW l).2, ∀ c ∈ r, c < 1114112 := fun r hr c hc => by
  unfold bodyW at hr
  split at hr
  · have := hb c (splitL_mem 10 l r hr c hc)
    omega
  · split at hr
    · have := (rows16_good hb r hr).2 c hc
      omega
    · have := rows60_low l r hr c hc
      omega
theorem hd_low {p : Str × List Str} (h : HdOk p) : ∀ r ∈ hdRows p, ∀ c ∈ r, c < 1114112 := fun r hr c hc => by
  have hf := hfold_ok (TL.tl p.1) (great_ok h.1) (p.2.map TL.tl) (fun x hx c hc => by
    obtain ⟨y, hy, rfl⟩ := List.mem_map.mp hx
    have := (h.2.2.1 y hy).1.2 c hc
    omega)
  unfold hdRows hrows at hr
  rcases List.mem_append.mp hr with hr | hr
  · exact hf.2 r hr c hc
  · rw [List.mem_singleton.mp hr] at hc
    exact hf.1 c hc
theorem piece_low {hs : List (Str × List Str)} {l : List Nat} (h : ∀ p ∈ hs, HdOk p) (hb : BytesN l) : ∀ x ∈ strL (pieceR hs l), OkS x := fun x hx c hc => by
  obtain ⟨r, hr, rfl⟩ := List.mem_map.mp hx
  have hc : c ∈ r := hc
  unfold pieceR at hr
  rcases List.mem_append.mp hr with hr | hr
  · unfold rowsW at hr
    obtain ⟨z, hz, hrz⟩ := List.mem_flatten.mp hr
    obtain ⟨p, hp, rfl⟩ := List.mem_map.mp hz
    exact hd_low (h p hp) r hrz c hc
  · rcases List.mem_append.mp hr with hr | hr
    · exact hd_low (p := (bodyN, [(bodyW l).1])) ⟨bodyN_ok.1, bodyN_ok.2, way_ok l, by show 1 ≤ 100; decide⟩ r hr c hc
    · rcases List.mem_cons.mp hr with rfl | hr
      · cases hc
      · exact body_low hb r hr c hc
theorem bytes_998 : BytesN [9, 98] := by
  have : ∀ b ∈ [9, 98], b < 256 := by decide
  exact this
theorem long_join (z : Str) (k : Int) (h0 : 0 ≤ k) (h3 : k < 3) : repS (Str.ofString "a ") k ++ z = Txt.join (Str.ofString " ") (List.replicate k.toNat (Str.ofString "a") ++ [z]) := by
  have ta : TL.tl (Str.ofString "a ") = [97, 32] := by decide +kernel
  have tb : TL.tl (Str.ofString "a") = [97] := by decide +kernel
  have : k = 0 ∨ k = 1 ∨ k = 2 := by omega
  refine TL.ext_tl ?_
  rw [TL.tl_append, TL.join_eq, TL.tl_join, tl_blank]
  have hr : TL.tl (repS (Str.ofString "a ") k) = (List.replicate k.toNat [97, 32]).flatten := by
    show (List.replicate k.toNat (TL.tl (Str.ofString "a "))).flatten = _
    rw [ta]
  rw [hr, List.map_append, List.map_replicate, tb]
  rcases this with rfl | rfl | rfl <;> rfl
theorem noBody_of {hs : List (Str × List Str)} (h : ∀ p ∈ hs, 111 ∉ TL.tl p.1) : NoBody (hs.map hv) := fun p hp e => by
  obtain ⟨x, hx, rfl⟩ := List.mem_map.mp hp
  refine h x hx ?_
  have e : x.1 = Str.ofString "body" := e
  rw [e]
  decide +kernel
section
variable {P : Program} {w : World} {K : PySem.W.Frag} {mg : Str → Option Value} {base : Heap} {tk : Nat → Tok} {ca : Nat → Addr} {CH CP : Addr}
/-! ### law -/
abbrev s_law : Stmt := topS 82
abbrev N_law : List Str := ["_law_script", "_law_pairs", "_law_row_here", "_law_headers", "_law_handed", "_law_piece", "_law_due_here", "_law_turn", "_law_long", "_law_k", "_law_cell", "_law_n", "_law_found", "_law_name_here", "_law_value_here", "_law_one"]
abbrev P_law : List Str := ["_law_script"]
theorem sc_law : FnScope N_law ["_law_script"] (defScope s_law) := ⟨rfl, rfl, rfl, by decide +kernel, rfl, by decide +kernel, by decide +kernel⟩
def spLaw (K : PySem.W.Frag) : Sp := fun vs H Q _ => ∃ (a : Addr) (ns : List Int), vs = [.ref a] ∧ SqL K H a (ns.map V.int) ∧ ns.length ≤ 63 ∧ ∀ H', Q (.bl true) H'
theorem ok_law {f f1 f2 f3 f4 f5 f6 f7 f8 fI fJ : Addr} {fd fd1 fd2 fd3 fd4 fd5 fd6 fd7 fd8 fdI fdJ : FuncData} (F : Fun K "law" "law" s_law f fd) (T : Tx mg tk) (R_Header : Hc K mg CH) (R_Piece : Pc K mg CP)
    (D__law_mixed : Def P w K mg base "_law_mixed" 1 f1 fd1 P__law_mixed sp_mixed) (D__law_name : Def P w K mg base "_law_name" 2 f2 fd2 P__law_name sp_lname) (D__law_value : Def P w K mg base "_law_value" 3 f3 fd3 P__law_value sp_lvalue) (D__law_stretch : Def P w K mg base "_law_stretch" 3 f4 fd4 P__law_stretch sp_stretch)
    (C_Header : DefC P w K mg base "Header" CH 1 fI fdI P_Header___init__ (sp_hinit CH)) (C_Piece : DefCd P w K mg base "Piece" CP 2 fJ fdJ P_Piece___init__ [.non] (sp_pinit CP)) (D__law_due : Def P w K mg base "_law_due" 5 f5 fd5 P__law_due sp_ldue) (D_piece_rows : Def P w K mg base "piece_rows" 7 f6 fd6 P_piece_rows (sp_piece_rows CP CH)) (D__law_word : Def P w K mg base "_law_word" 2 f7 fd7 P__law_word sp_lword) (D__law_word_of : Def P w K mg base "_law_word_of" 8 f8 fd8 P__law_word_of (sp_lwordof CP CH)) : FnOk P w K mg base CX0 9 f fd P_law (spLaw K) := by
  refine F.ok sc_law (fun vs H Q E h => ?_) (fun cdv A outer s H vs Q E hr h => ?_)
  · obtain ⟨a, ns, rfl, _⟩ := h
    rfl
  · have nd := sc_law.nd
    obtain ⟨a, ns, rfl, hS, hn, q⟩ := h
    obtain ⟨ds_Piece, dv_Piece, bd_Piece⟩ := C_Piece.bd
    refine ⟨_, (pss_cons (ps_set (i := 1) nd rfl (.inl rfl) (pe_lst pa_nil))
      (pss_cons (ps_set (i := 2) nd rfl (.inl rfl) (pe_lst pa_nil))
      (pss_cons (ps_for PassesOwn.never rfl (pi_enum (by rfl) T.n_enumerate (pa_cons (pe_slice (slL K) (pv 0) po_none (po_some pe_int)) pa_nil)) (pg_tup rfl (pgs_cons (pg_name (i := 9) nd rfl (Or.inl rfl)) (pgs_cons (pg_name (i := 10) nd rfl (Or.inl rfl)) pgs_nil)))
        (pss_cons (ps_set (i := 11) nd rfl (.inl rfl) (pe_def D__law_mixed (hr.mono (by decide)) (pa_cons (pv 10) (pa_cons (pv 9) pa_nil))))
        (pss_one (ps_if (PW.pt (pw_and (pt_cmpR op_eq (pe_op op_mod (pv 11) pe_int) pe_int (nomark _)) (pw_and1 (pt_cmpR op_lt (pe_callB (cLen K) (by rfl) T.n_len (by decide +kernel) (pa_cons (pv 1) pa_nil)) pe_int (nomark _)))))
          (pss_one (ps_expr (pe_bm PySem.F.plainAttrs_list PySem.F.slot_list_append PySem.F.type_list_append mt_append (pv 1) (pa_cons (pe_tup (pa_cons (pe_def D__law_name (hr.mono (by decide)) (pa_cons (pe_op op_fdiv (pv 11) pe_int) pa_nil)) (pa_cons (pe_def D__law_value (hr.mono (by decide)) (pa_cons (pe_op op_fdiv (pv 11) pe_int) pa_nil)) pa_nil))) pa_nil))))
          (pss_one (ps_set (i := 2) nd rfl (.inl rfl) (pe_op op_cat (pv 2) (pe_def D__law_stretch (hr.mono (by decide)) (pa_cons (pe_op op_fdiv (pv 11) pe_int) pa_nil)))))))))
      (pss_cons (ps_setLc (i := 3) (own := [("_law_name_here", 13), ("_law_value_here", 14)]) (g := gTup K 2 (gCons (gName 13) (gCons (gName 14) gNil))) (by rfl) nd rfl rfl (sw_true rfl rfl rfl (by decide +kernel)) (pi_list (pv 1)) (blkOk_by (N := N_law) (sc := defScope s_law) (by decide +kernel)) (fun _ _ _ _ _ => by exact (pg_tup rfl (pgs_cons (pg_name (i := 13) nd rfl (Or.inl rfl)) (pgs_cons (pg_name (i := 14) nd rfl (Or.inl rfl)) pgs_nil)))) (fun _ _ _ _ _ => pts_nil) (fun _ _ _ _ _ => (pe_make C_Header.make C_Header.ok (hr.mono (by decide)) (by rfl) C_Header.mg C_Header.bd .nil pass0 (pa_cons (pv 13) (pa_cons (pv 14) pa_nil)))))
      (pss_cons (ps_set (i := 4) nd rfl (.inl rfl) (pe_callTy call_list_of (by rfl) T.n_list (by decide +kernel) (pa_cons (pv 2) pa_nil)))
      (pss_cons (ps_set (i := 5) nd rfl (.inl rfl) (pe_make C_Piece.make C_Piece.ok (hr.mono (by decide)) (by rfl) C_Piece.mg bd_Piece dv_Piece pass0 (pa_cons (pv 3) (pa_cons (pv 4) pa_nil))))
      (pss_cons (ps_expr (pe_bm PySem.F.plainAttrs_list PySem.F.slot_list_append PySem.F.type_list_append mt_append (pv 4) (pa_cons pe_int pa_nil)))
      (pss_cons (ps_expr (pe_bm0 PySem.F.plainAttrs_list PySem.F.slot_list_clear PySem.F.type_list_clear mt_clear (pv 3)))
      (pss_cons (ps_set (i := 6) nd rfl (.inl rfl) (pe_def D__law_due (hr.mono (by decide)) (pa_cons (pv 1) (pa_cons (pv 2) pa_nil))))
      (pss_cons (ps_for PassesOwn.never rfl (pi_range1 (by rfl) T.n_range (pa_cons pe_int pa_nil)) (pg_name (i := 7) nd rfl (Or.inl rfl))
        (pss_cons (ps_set (i := 12) nd rfl (.inl rfl) (pe_def D_piece_rows (hr.mono (by decide)) (pa_cons (pv 5) pa_nil)))
        (pss_cons (ps_if (PW.pt (pw_or (pt_not (pt_val (pe_callB (cIsi K) (by rfl) T.n_isinstance (by decide +kernel) (pa_cons (pv 12) (pa_cons (pe_bltn (v := .ty "list") (by rfl) T.n_list (by decide +kernel) rfl) pa_nil))))) (pw_or1 (pt_cmpR (oNeD K hr.units) (pv 12) (pv 6) (nomark _)))))
          (pss_one (ps_ret pe_bl))
          pss_nil)
        (pss_one (ps_expr (pe_bm PySem.F.plainAttrs_list PySem.F.slot_list_append PySem.F.type_list_append mt_append (pv 12) (pa_cons pe_str pa_nil)))))))
      (pss_cons (ps_if (PW.pt (pw_or (pt_cmpR (oNeD K hr.units) (pe_fldK K (pv 5) rfl) (pv 2) (nomark _)) (pw_or1 (pt_cmpR op_notN (pe_fldK K (pv 5) rfl) pe_non (nomark _)))))
        (pss_one (ps_ret pe_bl))
        pss_nil)
      (pss_cons (ps_if (pt_cmpR (oNeD K hr.units) (pe_lc (own := [("_law_one", 15)]) (g := gName 15) (by rfl) nd (pi_list (pe_fldK K (pv 5) rfl)) (blkOk_by (N := N_law) (sc := defScope s_law) (by decide +kernel)) (fun _ _ _ _ _ => (pg_name (i := 15) nd rfl (Or.inl rfl))) (fun _ _ _ _ _ => pts_nil) (fun _ _ _ _ _ => (pe_fldK K (pv 15) rfl))) (pe_lc (own := [("_law_one", 15)]) (g := gName 15) (by rfl) nd (pi_list (pv 1)) (blkOk_by (N := N_law) (sc := defScope s_law) (by decide +kernel)) (fun _ _ _ _ _ => (pg_name (i := 15) nd rfl (Or.inl rfl))) (fun _ _ _ _ _ => pts_nil) (fun _ _ _ _ _ => (pe_ix (ixT K) (pv 15) pe_int (fun _ _ => rfl)))) (nomark _))
        (pss_one (ps_ret pe_bl))
        pss_nil)
      (pss_cons (ps_if (pt_cmpR (oNeD K hr.units) (pe_def D_piece_rows (hr.mono (by decide)) (pa_cons (pe_make C_Piece.make C_Piece.ok (hr.mono (by decide)) (by rfl) C_Piece.mg bd_Piece dv_Piece pass0 (pa_cons (pe_lst pa_nil) (pa_cons (pe_lst (pa_cons pe_int (pa_cons pe_int pa_nil))) pa_nil))) pa_nil)) (pe_lst (pa_cons pe_str (pa_cons pe_str (pa_cons pe_str pa_nil)))) (nomark _))
        (pss_one (ps_ret pe_bl))
        pss_nil)
      (pss_cons (ps_set (i := 8) nd rfl (.inl rfl) (pe_op op_add_str (pe_op op_mul_str pe_str (pe_op op_mod (pe_callB (cLen K) (by rfl) T.n_len (by decide +kernel) (pa_cons (pv 2) pa_nil)) pe_int)) (pe_def D__law_word (hr.mono (by decide)) (pa_cons (pe_callB (cLen K) (by rfl) T.n_len (by decide +kernel) (pa_cons (pv 2) pa_nil)) (pa_cons (pe_op op_add pe_int (pe_op op_mod (pe_callB (cLen K) (by rfl) T.n_len (by decide +kernel) (pa_cons (pv 2) pa_nil)) pe_int)) pa_nil)))))
      (pss_cons (ps_if (pt_cmpR op_eq (pe_op op_mod (pe_callB (cLen K) (by rfl) T.n_len (by decide +kernel) (pa_cons (pv 2) pa_nil)) pe_int) pe_int (nomark _))
        (pss_one (ps_ret (pe_cmpR (oEqD K hr.units) (pe_def D__law_word_of (hr.mono (by decide)) (pa_cons (pe_make C_Piece.make C_Piece.ok (hr.mono (by decide)) (by rfl) C_Piece.mg bd_Piece dv_Piece pass0 (pa_cons (pe_lst (pa_cons (pe_make C_Header.make C_Header.ok (hr.mono (by decide)) (by rfl) C_Header.mg C_Header.bd .nil pass0 (pa_cons pe_str (pa_cons pe_str pa_nil))) (pa_cons (pe_make C_Header.make C_Header.ok (hr.mono (by decide)) (by rfl) C_Header.mg C_Header.bd .nil pass0 (pa_cons pe_str (pa_cons (pv 8) pa_nil))) pa_nil))) (pa_cons (pv 2) pa_nil))) pa_nil)) (pe_lst (pa_cons pe_str (pa_cons pe_str pa_nil))) (nomark _))))
        pss_nil)
      (pss_one (ps_ret pe_bl))))))))))))))))), ?_⟩
    dsimp only [tSeq, tAsg, gName]
    have h63 : cutV (ns.map V.int) none (some 63) = ns.map V.int := by rw [show (63 : Int) = ((63 : Nat) : Int) from rfl, cutV_to, List.take_of_length_le (by rw [List.length_map]; exact hn)]
    have n2 : 2 ≤ sizeLine := by rw [sizeLine_eq]; omega
    refine ⟨Nat.zero_le _, fun pl npl => ⟨Nat.zero_le _, fun r0 nr0 => ?_⟩⟩
    have s1 := same_upd (o := .lst []) npl
    have s2 := same_upd (o := .lst []) nr0
    have s0 := s1.trans s2
    have hpr : pl ≠ r0 := fun e => by rw [← e, upd_same] at nr0; exact nomatch nr0
    refine ⟨.ref a, rfl, _, rfl, a, _, rfl, s0.seq hS, fun c nc => ?_⟩
    rw [h63]
    have s3 := same_upd (o := .lst (ns.map V.int)) nc
    have e1 : upd (upd (upd H pl (.lst [])) r0 (.lst [])) c (.lst (ns.map V.int)) pl = some (.lst []) := s3 _ _ (by rw [upd_ne hpr, upd_same])
    have e2 : upd (upd (upd H pl (.lst [])) r0 (.lst [])) c (.lst (ns.map V.int)) r0 = some (.lst []) := s3 _ _ upd_same
    have ec : upd (upd (upd H pl (.lst [])) r0 (.lst [])) c (.lst (ns.map V.int)) c = some (.lst (ns.map V.int)) := upd_same
    have hcp : c ≠ pl := fun e => by rw [e, upd_ne hpr, upd_same] at nc; exact nomatch nc
    have s03 := s0.trans s3
    have nr0' := s1.free nr0
    generalize upd (upd (upd H pl (.lst [])) r0 (.lst [])) c (.lst (ns.map V.int)) = H0 at e1 e2 ec s03
    refine ⟨c, _, rfl, .inl (.inl ec), for_it walk_enum (fun i σ H' => ∃ (r : Addr) (ts : List Addr) (hs : List (Str × List Str)) (l : List Nat) (y9 y10 y11 : Option V), σ = [some (.ref a), some (.ref pl), some (.ref r), none, none, none, none, none, none, y9, y10, y11, none, none, none, none] ∧ Same H H' ∧ H' c = some (.lst (ns.map V.int)) ∧ H' pl = some (.lst (ts.map V.ref)) ∧ PrsR H' ts hs ∧ (∀ p ∈ hs, HdOk p ∧ 111 ∉ TL.tl p.1) ∧ hs.length ≤ 9 ∧ r ≠ pl ∧ H' r = some (.lst (nb l)) ∧ BytesN l ∧ l.length ≤ 64 * i)
      ⟨r0, [], [], [], none, none, none, rfl, s03, ec, e1, ⟨rfl, fun i hi => absurd hi (Nat.not_lt_zero i)⟩, (fun _ h => by cases h), Nat.zero_le _, Ne.symm hpr, e2, (fun _ h => by cases h), Nat.zero_le _⟩ (fun i σ H' _ h => by obtain ⟨_, _, _, _, _, _, _, rfl, _, hc, _⟩ := h; exact .inl (.inl hc)) (fun i x σ H' H'' hi hP hy => ?_) (fun σ H' hP => ?_)⟩
    · obtain ⟨r, ts, hs, l, y9, y10, y11, rfl, sm, ec', epl, hprs, hok, h9, hrp, er, hb, hl⟩ := hP
      obtain ⟨U, x1, x2, rfl, nU, rfl, f1, f2⟩ := hy
      rw [List.length_map] at hi
      have f2 : (ns.map V.int)[i]? = some x2 := f2
      rw [List.getElem?_map, List.getElem?_eq_getElem hi] at f2
      obtain rfl := Option.some.inj f1
      obtain rfl := Option.some.inj f2
      have sU := same_upd (o := .tup [.int (i : Nat), .int ns[i]]) nU
      refine ⟨U, _, rfl, .inl (.inl upd_same), rfl, _, _, rfl, _, _, rfl, rfl, ?_⟩
      refine ⟨_, rfl, _, rfl, ns[i], (i : Int), rfl, by omega, by omega, fun m hm H3 s3 => ?_⟩
      have sB := sU.trans s3
      have smB := sm.trans sB
      have epl3 := sB _ _ epl
      have er3 := sB _ _ er
      have ec3 := sB _ _ ec'
      have hpr3 := hprs.same sB
      have htl : (ts.map V.ref).length = hs.length := by rw [List.length_map, hprs.1]
      dsimp only [gName, tSeq]
      refine ifT (decide ((m : Int) % 6 = 0) && decide (hs.length < 9)) (fun k q1 => andT (decide ((m : Int) % 6 = 0)) (decide (hs.length < 9)) (fun k q2 => ⟨_, rfl, _, 6, rfl, rfl, (show (0 : Int) < 6 by decide), rfl, _, rfl, TellB.eq (vint_dec _ _) q2 _ (Same.refl _)⟩) (fun _ H4 k s4 q2 => ⟨.ref pl, rfl, pl, _, rfl, .inl (.inl (.inl (s4 _ _ epl3))), _, 9, rfl, rfl, _, rfl, TellB.eq (decide_eq_decide.mpr (by rw [htl]; omega)) q2 _ (Same.refl _)⟩) q1) (fun hc H4 s4 => ?_) (fun hc H4 s4 => ?_)
      · have hc2 : hs.length < 9 := of_decide_eq_true (by rw [Bool.and_eq_true] at hc; exact hc.2)
        refine ⟨.ref pl, rfl, .inl ⟨rfl, _, .inl (.inl (s4 _ _ epl3))⟩, _, rfl, _, 6, rfl, rfl, ⟨by decide, by decide⟩, _, rfl, fun z hz hzl hzo H5 s5 => ⟨_, rfl, _, 18, rfl, rfl, ⟨by decide, by decide⟩, _, rfl, fun ws hws hwsl H6 s6 => ⟨n2, fun t nt => ?_⟩⟩⟩
        have sC := s4.trans (s5.trans s6)
        have st := same_upd (o := .tup [.str z, .str (Txt.join (Str.ofString " ") ws)]) nt
        have sD := sC.trans st
        have epl7 := sD _ _ epl3
        refine ⟨pl, _, _, rfl, rfl, epl7, by rw [htl, sizeLine_eq]; omega, r, ts ++ [t], hs ++ [(z, ws)], l, _, _, _, rfl, fun b x hb => ?_, ?_, ?_, ?_, ?_, ?_, hrp, ?_, hb, by omega⟩
        · rw [upd_ne (ne_of_none hb npl)]
          exact sD _ _ (smB _ _ hb)
        · rw [upd_ne hcp]
          exact sD _ _ ec3
        · rw [upd_same, List.map_append]
          rfl
        · have hp7 := (hpr3.same sD).upd (o := .lst (ts.map V.ref ++ [.ref t])) epl7
          refine ⟨by rw [List.length_append, List.length_append, hprs.1]; rfl, fun j hj => ?_⟩
          rw [List.length_append, List.length_singleton] at hj
          by_cases hj2 : j < hs.length
          · rw [getD_app_l _ _ _ (by rw [hprs.1]; omega), getD_app_l _ _ _ hj2]
            exact hp7.2 j hj2
          · obtain rfl : j = hs.length := by omega
            rw [getD_app_r _ _ _ (by rw [hprs.1]; omega), getD_app_r _ _ _ (Nat.le_refl _), hprs.1, Nat.sub_self]
            show upd _ pl _ t = _
            rw [upd_ne (fun e => by rw [e, sC _ _ epl3] at nt; exact nomatch nt), upd_same]
            rfl
        · intro p hp
          rcases List.mem_append.mp hp with h | h
          · exact hok p h
          · rw [List.mem_singleton.mp h]
            exact ⟨⟨hz, by show z.length ≤ 1000; omega, hws, by show ws.length ≤ 100; omega⟩, hzo⟩
        · rw [List.length_append, List.length_singleton]; omega
        · rw [upd_ne hrp]
          exact sD _ _ er3
      · refine ⟨.ref r, rfl, _, rfl, _, 6, rfl, rfl, ⟨by decide, by decide⟩, _, rfl, fun l2 hb2 hl2 H5 p5 s5 n5 e5 => ⟨r, p5, _, _, rfl, rfl, s5 _ _ (s4 _ _ er3), e5, by rw [nb_len, nb_len, sizeLine_eq]; omega, fun p6 n6 => ?_⟩⟩
        have sD := s4.trans (s5.trans (same_upd (o := .lst (nb l ++ nb l2)) n6))
        have epl7 := sD _ _ epl3
        refine ⟨p6, ts, hs, l ++ l2, _, _, _, rfl, smB.trans sD, sD _ _ ec3, epl7, hpr3.same sD, hok, h9, ?_, ?_, bytes_app hb hb2, by rw [List.length_append]; omega⟩
        · intro e
          rw [e, s5 _ _ (s4 _ _ epl3)] at n6
          exact nomatch n6
        · rw [upd_same, nb_app]
    · obtain ⟨r, ts, hs, l, y9, y10, y11, rfl, sm, ec', epl, hprs, hok, h9, hrp, er, hb, hl⟩ := hP
      rw [List.length_map] at hl
      have hl : l.length ≤ 4040 := by omega
      have hok1 : ∀ p ∈ hs, HdOk p := fun p hp => (hok p hp).1
      have hnb := noBody_of fun p hp => (hok p hp).2
      dsimp only [tSeq, tAsg, gName]
      clear ec ec' e1 e2 s03
      refine ⟨.ref pl, rfl, pl, rfl, ⟨_, .inl (.inl epl)⟩, fun D hD => lc_pairsO (ps := fun i => (.str (hv (hs.getD i (Str.empty, []))).1, .str (hv (hs.getD i (Str.empty, []))).2)) (fun i o => ∃ dx, o = .ins CH dx (hdF (hv (hs.getD i (Str.empty, []))).1 (hv (hs.getD i (Str.empty, []))).2)) (by decide) (.inl (.inl epl)) (fun i hi => .inl (.inl (hprs.2 i (by rw [← hprs.1]; exact hi)))) hD (by rw [hprs.1, sizeLine_eq]; omega) (fun i H2 Q2 hi s2 q2 => ?_) (fun H2 us s2 hul hu eD => ?_)⟩
      · exact ⟨_, rfl, _, rfl, fun x dx nx ndx hne => ⟨x, dx, _, _, rfl, upd_same, fun H3 sb e3 => ⟨rfl, q2 _ x _ (fun b o hb => sb b o (ne_of_none hb nx) (by rw [upd_ne (ne_of_none hb nx), upd_ne (ne_of_none hb ndx)]; exact hb)) nx e3 ⟨dx, rfl⟩⟩⟩⟩
      · have er2 := s2 _ _ er
        have epl2 := s2 _ _ epl
        have hprs2 := hprs.same s2
        have hHd : HdsR H2 CH us (hs.map hv) := HdsR.of_at _ _ (by rw [hul, List.length_map]; exact hprs.1) fun i hi => by
          rw [List.length_map] at hi
          obtain ⟨_, o, ⟨dx, rfl⟩, e⟩ := hu i (by rw [hprs.1]; exact hi)
          rw [getD_map_of hs hv (Str.empty, []) _ i hi]
          exact ⟨dx, e⟩
        have sm2 := sm.trans s2
        have hDpl : D ≠ pl := fun e => by rw [e, epl] at hD; exact nomatch hD
        have hDr : D ≠ r := fun e => by rw [e, er] at hD; exact nomatch hD
        have nD := sm.free hD
        clear hu hul hD
        refine ⟨.ref r, rfl, r, nb l, rfl, .inl (.inl (.inl er2)), fun h nh => ?_⟩
        have hhpl : h ≠ pl := fun e => by rw [e, epl2] at nh; exact nomatch nh
        have hhr : h ≠ r := fun e => by rw [e, er2] at nh; exact nomatch nh
        have hhD : h ≠ D := fun e => by rw [e, eD] at nh; exact nomatch nh
        have nh0 := sm2.free nh
        have s3 := same_upd (o := .lst (nb l)) nh
        have eh3 : upd H2 h (.lst (nb l)) h = some (.lst (nb l)) := upd_same
        have er3 := s3 _ _ er2
        have epl3 := s3 _ _ epl2
        have eD3 := s3 _ _ eD
        have hprs3 := hprs2.same s3
        have hHd3 := hHd.same s3
        have sm3 := sm2.trans s3
        generalize upd H2 h (.lst (nb l)) = H3 at eh3 er3 epl3 eD3 hprs3 hHd3 sm3
        dsimp only [gName, tSeq, tAsg]
        refine ⟨.ref D, rfl, .ref h, rfl, fun x dx nx ndx hne => ?_⟩
        have s4 := (same_upd (o := .own x) ndx)
        have nx4 : upd H3 dx (.own x) x = none := by rw [upd_ne (Ne.symm hne)]; exact nx
        have s5 := s4.trans (same_upd (o := .ins CP dx []) nx4)
        have hxD : D ≠ x := fun e => by rw [← e, eD3] at nx; exact nomatch nx
        have hxh : h ≠ x := fun e => by rw [← e, eh3] at nx; exact nomatch nx
        refine ⟨x, dx, D, h, _, _, rfl, upd_same, s5 _ _ eD3, s5 _ _ eh3, hxD, hxh, fun H6 h2 r2 sb6 ex6 nh2 nr2 eh2 er2' => ⟨rfl, ?_⟩⟩
        have s6 : Same H3 H6 := fun b o hb => sb6 b o (ne_of_none hb nx) (s5 b o hb)
        have nh2' := s5.free nh2
        have nr2' := s5.free nr2
        have eh6 := s6 _ _ eh3
        have er6 := s6 _ _ er3
        have epl6 := s6 _ _ epl3
        have eD6 := s6 _ _ eD3
        have hprs6 := hprs3.same s6
        have hHd6 := hHd3.same s6
        have sm6 := sm3.trans s6
        have hh2h : h2 ≠ h := fun e => by rw [e, eh3] at nh2'; exact nomatch nh2'
        have hh2D : h2 ≠ D := fun e => by rw [e, eD3] at nh2'; exact nomatch nh2'
        have hr2h : r2 ≠ h := fun e => by rw [e, eh3] at nr2'; exact nomatch nr2'
        have hr2D : r2 ≠ D := fun e => by rw [e, eD3] at nr2'; exact nomatch nr2'
        clear sb6 nh2 nr2 s4 s5 nx4
        dsimp only [gName, tSeq, tAsg]
        refine ⟨.ref h, rfl, .inl ⟨rfl, _, .inl (.inl eh6)⟩, h, _, _, rfl, rfl, eh6, by rw [nb_len, sizeLine_eq]; omega, ?_⟩
        have eD7 : upd H6 h (.lst (nb l ++ [.int 98])) D = some (.lst (us.map V.ref)) := by rw [upd_ne (Ne.symm hhD)]; exact eD6
        refine ⟨.ref D, rfl, .inl ⟨rfl, _, .inl (.inl eD7)⟩, D, _, rfl, rfl, eD7, ?_⟩
        have er8 : upd (upd H6 h (.lst (nb l ++ [.int 98]))) D (.lst []) r = some (.lst (nb l)) := by rw [upd_ne (Ne.symm hDr), upd_ne (Ne.symm hhr)]; exact er6
        have epl8 : upd (upd H6 h (.lst (nb l ++ [.int 98]))) D (.lst []) pl = some (.lst (ts.map V.ref)) := by rw [upd_ne (Ne.symm hDpl), upd_ne (Ne.symm hhpl)]; exact epl6
        have hprs8 := (hprs6.upd (o := .lst (nb l ++ [.int 98])) eh6).upd (o := .lst []) eD7
        have hHd8 := (hHd6.upd (o := .lst (nb l ++ [.int 98])) eh6).upd (o := .lst []) eD7
        have hxh6 : x ≠ h := fun e => by rw [e, eh6] at ex6; exact nomatch ex6
        have hxD6 : x ≠ D := fun e => by rw [e, eD6] at ex6; exact nomatch ex6
        have ex8 : upd (upd H6 h (.lst (nb l ++ [.int 98]))) D (.lst []) x = some (.ins CP dx (pcF h2 (.ref r2) .non)) := by rw [upd_ne hxD6, upd_ne hxh6]; exact ex6
        have eh8 : upd (upd H6 h (.lst (nb l ++ [.int 98]))) D (.lst []) h2 = some (.lst (us.map V.ref)) := by rw [upd_ne hh2D, upd_ne hh2h]; exact eh2
        have er28 : upd (upd H6 h (.lst (nb l ++ [.int 98]))) D (.lst []) r2 = some (.lst (nb l)) := by rw [upd_ne hr2D, upd_ne hr2h]; exact er2'
        have sm8 : Same H (upd (upd H6 h (.lst (nb l ++ [.int 98]))) D (.lst [])) := fun b o hb => by
          rw [upd_ne (ne_of_none hb nD), upd_ne (ne_of_none hb nh0)]
          exact sm6 b o hb
        have hPc : PcR (upd (upd H6 h (.lst (nb l ++ [.int 98]))) D (.lst [])) CP CH x (hs.map hv) l := ⟨dx, h2, r2, us, ex8, eh8, hHd8, er28⟩
        generalize upd (upd H6 h (.lst (nb l ++ [.int 98]))) D (.lst []) = H8 at er8 epl8 hprs8 hHd8 ex8 eh8 er28 sm8 hPc
        refine ⟨.ref pl, rfl, .ref r, rfl, pl, r, ts, hs, l, rfl, epl8, hprs8, hok1, by omega, er8, hb, hl, fun H9 dd s9 ndd edd => ?_⟩
        have hlow := piece_low hok1 hb
        have hPc9 := hPc.same s9
        have sm9 := sm8.trans s9
        dsimp only [gName, tSeq, tAsg]
        refine ⟨2, rfl, by decide, by decide, for_it walk_range (fun i σ H' => ∃ (y7 y9 y10 y11 y12 : Option V), σ = [some (.ref a), some (.ref pl), some (.ref r), some (.ref D), some (.ref h), some (.ref x), some (.ref dd), y7, none, y9, y10, y11, y12, none, none, none] ∧ Same H9 H')
          ⟨none, _, _, _, none, rfl, Same.refl _⟩ (fun _ _ _ _ _ => trivial) (fun i z σ H' H'' hi hP hy => ?_) (fun σ H' hP => ?_)⟩
        · obtain ⟨y7, y9, y10, y11, y12, rfl, s10⟩ := hP
          obtain ⟨rfl, rfl⟩ := hy
          refine ⟨.ref x, rfl, x, hs, l, rfl, hPc9.same s10, hnb, hok1, by omega, hb, hl, fun H11 p11 s11 n11 e11 => ?_⟩
          dsimp only [gName, tSeq, tAsg]
          have edd11 := s11 _ _ (s10 _ _ edd)
          refine ifT false (fun k q1 => orT false false (fun k q2 => notT true (fun k q3 => ⟨.ref p11, rfl, .ref p11, .ty "list", _, _, true, rfl, .ty _, .base (.lst e11), kit_ty (by decide +kernel), true, rfl, q3 _ (Same.refl _)⟩) q2) (fun _ H12 k s12 q2 => ⟨.ref p11, rfl, .ref dd, rfl, _, _, dp_strs (.inl (.inl (s12 _ _ e11))), dp_strs (.inl (.inl (s12 _ _ edd11))), shaped_strs _ hlow, shaped_strs _ hlow, _, rfl, TellB.eq (by rw [eqv_strsL, decide_eq_true rfl]; rfl) q2 _ (Same.refl _)⟩) q1) (fun h => nomatch h) (fun _ H12 s12 => ?_)
          dsimp only [tNext]
          have e12 := s12 _ _ e11
          refine ⟨.ref p11, rfl, .inl ⟨rfl, _, .inl (.inl e12)⟩, p11, _, _, rfl, rfl, e12, ?_, _, _, _, _, _, rfl, fun b o hb => ?_⟩
          · have := hlow
            rw [List.length_map, strL_len]
            have h1 := rowsW_many hs hok1
            have h2 := body_many hl
            have h3 := hdRows_many (bodyN, [(bodyW l).1]) ⟨bodyN_ok.1, bodyN_ok.2, way_ok l, by show 1 ≤ 100; decide⟩
            unfold pieceR
            have h4 : (hrows (TL.tl bodyN) [TL.tl (bodyW l).1]).length ≤ 101 := h3
            rw [List.length_append, List.length_append, List.length_cons, sizeLine_eq]
            omega
          · rw [upd_ne (ne_of_none hb (s10.free n11))]
            exact s12 _ _ (s11 _ _ (s10 _ _ hb))
        · obtain ⟨y7, y9, y10, y11, y12, rfl, s10⟩ := hP
          have sA := s9.trans s10
          have ex10 := sA _ _ ex8
          have eh10 := sA _ _ eh8
          have er210 := sA _ _ er28
          have er10 := sA _ _ er8
          have epl10 := sA _ _ epl8
          have hprs10 := hprs8.same sA
          have hHd10 := hHd8.same sA
          have sm10 := sm8.trans sA
          clear sA hprs8 hHd8 hprs6 hHd6 hprs3 hHd3 hprs2 hHd hprs
          dsimp only [tSeq]
          refine ifT false (fun k q1 => orT false false (fun k q2 => ⟨.ref x, rfl, x, CP, dx, _, _, rfl, ex10, R_Piece.i.c, R_Piece.n_row, rfl, .ref r, rfl, _, _, dp_nbs er210, dp_nbs er10, shaped_intsL _, shaped_intsL _, _, rfl, TellB.eq (by rw [eqv_intsL, decide_eq_true rfl]; rfl) q2 _ (Same.refl _)⟩) (fun _ H12 k s12 q2 => ⟨.ref x, rfl, x, CP, dx, _, _, rfl, s12 _ _ ex10, R_Piece.i.c, R_Piece.n_pieces, rfl, rfl, _, rfl, q2 _ (Same.refl _)⟩) q1) (fun h => nomatch h) (fun _ H12 s12 => ?_)
          dsimp only [tNext, tSeq]
          have ex12 := s12 _ _ ex10
          have eh12 := s12 _ _ eh10
          have er12 := s12 _ _ er10
          have epl12 := s12 _ _ epl10
          have hprs12 := hprs10.same s12
          have hHd12 := hHd10.same s12
          have sm12 := sm10.trans s12
          have husl : us.length = hs.length := by rw [hHd12.len, List.length_map]
          have hml : (us.map V.ref).length = hs.length := by rw [List.length_map, husl]
          have hmt : (ts.map V.ref).length = hs.length := by rw [List.length_map, hprs12.1]
          have hnlow : ∀ z ∈ hs.map (fun p => p.1), OkS z := fun z hz => by
            obtain ⟨p, hp, rfl⟩ := List.mem_map.mp hz
            exact name_low (hok1 p hp).1
          have hnm : (List.range hs.length).map (fun i => V.str ((hs.getD i (Str.empty, [])).1)) = (hs.map (fun p => p.1)).map V.str := by
            rw [map_range hs (Str.empty, []) (fun p => V.str p.1), List.map_map]
            rfl
          refine ifT false (fun k q1 => ⟨.ref x, rfl, x, CP, dx, _, _, rfl, ex12, R_Piece.i.c, R_Piece.n_headers, rfl, h2, rfl, ⟨_, .inl (.inl eh12)⟩, fun D1 hD1 => lc_pure (fun i => (us.map V.ref).getD i .non) (fun i => .str ((hs.getD i (Str.empty, [])).1)) walk_listF (fun H13 s13 => s13.seq (.inl (.inl eh12))) hD1 (by rw [hml, sizeLine_eq]; omega) (fun i H13 Q13 hi s13 q13 => ?_) (fun H13 s13 e13 => ⟨.ref pl, rfl, pl, rfl, ⟨_, .inl (.inl (s13 _ _ epl12))⟩, fun D2 hD2 => lc_pure (fun i => (ts.map V.ref).getD i .non) (fun i => .str ((hs.getD i (Str.empty, [])).1)) walk_listF (fun H14 s14 => s14.seq (.inl (.inl (s13 _ _ epl12)))) hD2 (by rw [hmt, sizeLine_eq]; omega) (fun i H14 Q14 hi s14 q14 => ?_) (fun H14 s14 e14 => ?_)⟩)⟩) (fun h => nomatch h) (fun _ H15 s15 => ?_)
          · rw [hml] at hi
            rw [ref_at us i (by omega)]
            obtain ⟨dxi, e⟩ := (hHd12.same s13).at i (by rw [List.length_map]; exact hi)
            rw [getD_map_of hs hv (Str.empty, []) _ i hi] at e
            exact ⟨_, rfl, _, CH, dxi, _, _, rfl, e, R_Header.i.c, R_Header.n_name, rfl, q13 _ (Same.refl _)⟩
          · rw [hmt] at hi
            rw [ref_at ts i (by rw [hprs12.1]; exact hi)]
            have e := ((hprs12.same s13).same s14).2 i hi
            exact ⟨_, rfl, _, _, _, _, rfl, rfl, .inl (.inl e), rfl, q14 _ (Same.refl _)⟩
          · rw [hml, hnm] at e13
            rw [hmt, hnm] at e14
            exact ⟨_, _, dp_strs (.inl (.inl (s14 _ _ e13))), dp_strs (.inl (.inl e14)), shaped_strs _ hnlow, shaped_strs _ hnlow, _, rfl, TellB.eq (by rw [eqv_strsL, decide_eq_true rfl]; rfl) q1 _ (s13.trans s14)⟩
          dsimp only [tNext, tSeq]
          have er15 := s15 _ _ er12
          have sm15 := sm12.trans s15
          clear ex12 eh12 epl12 hprs12 hHd12 ex10 eh10 er210 epl10 hprs10 hHd10
          have hlit : pieceR [] [9, 98] = [TL.tl (Str.ofString "Body: sixteens"), [], TL.tl (Str.ofString "=09b")] := by decide +kernel
          have hstr : strL [TL.tl (Str.ofString "Body: sixteens"), [], TL.tl (Str.ofString "=09b")] = [Str.ofString "Body: sixteens", Str.ofString "", Str.ofString "=09b"] := by decide +kernel
          have hlit2 : ∀ z ∈ [Str.ofString "Body: sixteens", Str.ofString "", Str.ofString "=09b"], OkS z := by
            have : ∀ z ∈ [Str.ofString "Body: sixteens", Str.ofString "", Str.ofString "=09b"], ∀ c ∈ TL.tl z, c < 1114112 := by decide +kernel
            exact this
          refine ifT false (fun k q1 => ⟨Nat.zero_le _, fun g1 ng1 => ⟨n2, fun g2 ng2 => fun x2 dx2 nx2 ndx2 hne2 => ?_⟩⟩) (fun h => nomatch h) (fun _ H16 s16 => ?_)
          · have t1 := same_upd (o := .lst []) ng1
            have t2 := same_upd (o := .lst [V.int 9, .int 98]) ng2
            have h12 : g1 ≠ g2 := fun e => by rw [← e, upd_same] at ng2; exact nomatch ng2
            have eg1 : upd (upd H15 g1 (.lst [])) g2 (.lst [V.int 9, .int 98]) g1 = some (.lst []) := t2 _ _ upd_same
            have eg2 : upd (upd H15 g1 (.lst [])) g2 (.lst [V.int 9, .int 98]) g2 = some (.lst [V.int 9, .int 98]) := upd_same
            have t12 := t1.trans t2
            generalize upd (upd H15 g1 (.lst [])) g2 (.lst [V.int 9, .int 98]) = HG at eg1 eg2 t12 nx2 ndx2
            have s4 := (same_upd (o := .own x2) ndx2)
            have nx4 : upd HG dx2 (.own x2) x2 = none := by rw [upd_ne (Ne.symm hne2)]; exact nx2
            have s5 := s4.trans (same_upd (o := .ins CP dx2 []) nx4)
            refine ⟨x2, dx2, g1, g2, [], _, rfl, upd_same, s5 _ _ eg1, s5 _ _ eg2, (fun e => by rw [← e, eg1] at nx2; exact nomatch nx2), (fun e => by rw [← e, eg2] at nx2; exact nomatch nx2), fun H17 h3 r3 sb e17 _ _ eh3 er3 => ⟨rfl, x2, [], [9, 98], rfl, ⟨dx2, h3, r3, [], e17, eh3, trivial, er3⟩, (fun _ h => by cases h), (fun _ h => by cases h), Nat.zero_le _, bytes_998, by show 2 ≤ 4040; decide, fun H18 p18 s18 n18 e18 => ⟨by show 3 ≤ _; rw [sizeLine_eq]; omega, fun g3 ng3 => ?_⟩⟩⟩
            rw [hlit, hstr] at e18
            have s17 : Same HG H17 := fun b o hb => sb b o (ne_of_none hb nx2) (s5 b o hb)
            exact ⟨_, _, dp_strs (.inl (.inl (same_upd ng3 _ _ e18))), dp_strs (bs := [Str.ofString "Body: sixteens", Str.ofString "", Str.ofString "=09b"]) (.inl (.inl upd_same)), shaped_strs _ hlit2, shaped_strs _ hlit2, _, rfl, TellB.eq (by rw [eqv_strsL, decide_eq_true rfl]; rfl) q1 _ (t12.trans (s17.trans (s18.trans (same_upd ng3))))⟩
          dsimp only [tNext, tSeq, tAsg, gName]
          have er16 := s16 _ _ er15
          have sm16 := sm15.trans s16
          have hnl : ((nb l).length : Int) = (l.length : Nat) := by rw [nb_len]
          have hk0 : 0 ≤ ((nb l).length : Int) % 3 := Int.emod_nonneg _ (by decide)
          have hk3 : ((nb l).length : Int) % 3 < 3 := Int.emod_lt_of_pos _ (by decide)
          have hj0 : 0 ≤ ((nb l).length : Int) % 9 := Int.emod_nonneg _ (by decide)
          have hj9 : ((nb l).length : Int) % 9 < 9 := Int.emod_lt_of_pos _ (by decide)
          have hm60 : ∃ m : Nat, 60 + ((nb l).length : Int) % 9 = (m : Int) ∧ 60 ≤ m ∧ m ≤ 68 := ⟨(60 + ((nb l).length : Int) % 9).toNat, by omega, by omega, by omega⟩
          obtain ⟨m, hm, hm1, hm2⟩ := hm60
          refine ⟨.ref r, rfl, r, _, rfl, .inl (.inl (.inl er16)), _, 3, rfl, rfl, (show (0 : Int) < 3 by decide), _, _, rfl, rfl, by omega, by omega, by decide +kernel, .ref r, rfl, r, _, rfl, .inl (.inl (.inl er16)), .ref r, rfl, r, _, rfl, .inl (.inl (.inl er16)), _, 9, rfl, rfl, (show (0 : Int) < 9 by decide), 60, _, rfl, rfl, _, m, (show [V.int ((nb l).length : Int), V.int (60 + ((nb l).length : Int) % 9)] = _ by rw [hm]), by omega, by omega, fun z hz hzl H17 s17 => ?_⟩
          have hrl : (repS (Str.ofString "a ") (((nb l).length : Int) % 3)).length ≤ 6 := by
            rw [TL.len_tl]
            show ((List.replicate _ (TL.tl (Str.ofString "a "))).flatten).length ≤ 6
            have := flatten_le (k := 2) (List.replicate (((nb l).length : Int) % 3).toNat (TL.tl (Str.ofString "a "))) (fun x hx => by
              rw [(List.mem_replicate.mp hx).2]
              decide +kernel)
            rw [List.length_replicate] at this
            omega
          refine ⟨_, _, rfl, rfl, by rw [sizeLine_eq]; omega, ?_⟩
          rw [long_join z _ hk0 hk3]
          have er17 := s17 _ _ er16
          have sm17 := sm16.trans s17
          generalize hWs : List.replicate (((nb l).length : Int) % 3).toNat (Str.ofString "a") ++ [z] = Ws
          have hWsl : Ws.length ≤ 100 := by rw [← hWs, List.length_append, List.length_replicate, List.length_singleton]; omega
          have hWok : ∀ u ∈ Ws, WordL (TL.tl u) ∧ u.length ≤ 600 := fun u hu => by
            rw [← hWs] at hu
            rcases List.mem_append.mp hu with hu | hu
            · rw [(List.mem_replicate.mp hu).2]
              exact ⟨⟨by decide +kernel, by decide +kernel⟩, by decide +kernel⟩
            · rw [List.mem_singleton.mp hu]
              exact ⟨hz, by omega⟩
          have hWlong : ∃ u ∈ Ws, 60 ≤ u.length := ⟨z, by rw [← hWs]; simp, by omega⟩
          refine ⟨.ref r, rfl, r, _, rfl, .inl (.inl (.inl er17)), _, 9, rfl, rfl, (show (0 : Int) < 9 by decide), rfl, _, rfl, ite2 (fun _ => ?_) (fun _ => ?_)⟩
          · refine fun x3 dx3 nx3 ndx3 hne3 => ⟨x3, dx3, _, _, rfl, upd_same, fun H18 sb18 e18 => ⟨rfl, _, rfl, fun x4 dx4 nx4 ndx4 hne4 => ⟨x4, dx4, _, _, rfl, upd_same, fun H19 sb19 e19 => ⟨rfl, n2, fun g4 ng4 => ⟨.ref r, rfl, fun x5 dx5 nx5 ndx5 hne5 => ?_⟩⟩⟩⟩⟩
            have t3 : Same H17 H18 := fun b o hb => sb18 b o (ne_of_none hb nx3) (by rw [upd_ne (ne_of_none hb nx3), upd_ne (ne_of_none hb ndx3)]; exact hb)
            have t4 : Same H18 H19 := fun b o hb => sb19 b o (ne_of_none hb nx4) (by rw [upd_ne (ne_of_none hb nx4), upd_ne (ne_of_none hb ndx4)]; exact hb)
            have tg := same_upd (o := .lst [V.ref x3, .ref x4]) ng4
            have eg4 : upd H19 g4 (.lst [V.ref x3, .ref x4]) g4 = some (.lst [V.ref x3, .ref x4]) := upd_same
            have e3 := tg _ _ (t4 _ _ e18)
            have e4 := tg _ _ e19
            have er20 := tg _ _ (t4 _ _ (t3 _ _ er17))
            have t34 := t3.trans (t4.trans tg)
            generalize upd H19 g4 (.lst [V.ref x3, .ref x4]) = HG at eg4 e3 e4 er20 t34 nx5 ndx5
            have s4 := (same_upd (o := .own x5) ndx5)
            have nx5' : upd HG dx5 (.own x5) x5 = none := by rw [upd_ne (Ne.symm hne5)]; exact nx5
            have s5 := s4.trans (same_upd (o := .ins CP dx5 []) nx5')
            have hxn : ∀ b o, HG b = some o → b ≠ x5 := fun b o hb => ne_of_none hb nx5
            refine ⟨x5, dx5, g4, r, [V.ref x3, .ref x4], _, rfl, upd_same, s5 _ _ eg4, s5 _ _ er20, hxn _ _ eg4, hxn _ _ er20, fun H21 h6 r6 sb e21 _ _ eh6 er6 => ⟨rfl, x5, [(Str.ofString "x", [Str.ofString "b"])], (Str.ofString "z", Ws), [], l, rfl, ⟨dx5, h6, r6, [x3, x4], e21, eh6, ⟨⟨dx3, ?_⟩, ⟨dx4, sb _ _ (hxn _ _ e4) (s5 _ _ e4)⟩, trivial⟩, er6⟩, ?_, ?_, ?_, by decide, hb, hl, fun H22 p22 s22 n22 e22 => ⟨n2, fun g5 ng5 => ?_⟩⟩⟩
            · have := sb _ _ (hxn _ _ e3) (s5 _ _ e3)
              rw [show (hv (Str.ofString "x", [Str.ofString "b"])).2 = Str.ofString "b" from join_one _]
              exact this
            · refine noBody_of fun p hp => ?_
              rcases List.mem_cons.mp hp with rfl | hp
              · show 111 ∉ TL.tl (Str.ofString "x")
                decide +kernel
              · rw [List.mem_singleton.mp hp]
                show 111 ∉ TL.tl (Str.ofString "z")
                decide +kernel
            · intro p hp
              rw [List.mem_singleton.mp hp]
              refine ⟨by decide +kernel, by decide +kernel, fun x hx => ?_, by show 1 ≤ 100; decide⟩
              rw [List.mem_singleton.mp hx]
              exact ⟨⟨by decide +kernel, by decide +kernel⟩, by decide +kernel⟩
            · exact ⟨show isHN (TL.tl (Str.ofString "z")) = true by decide +kernel, show (Str.ofString "z").length ≤ 1000 by decide +kernel, hWok, hWsl, hWlong⟩
            · have s21 : Same HG H21 := fun b o hb => sb b o (hxn _ _ hb) (s5 b o hb)
              have hsh : ∀ z ∈ [Str.ofString "long", Str.ofString "error"], OkS z := by
                have : ∀ z ∈ [Str.ofString "long", Str.ofString "error"], ∀ c ∈ TL.tl z, c < 1114112 := by decide +kernel
                exact this
              have he : PyData.eqv (.list ([Str.ofString "long", Str.ofString "error"].map PyData.str)) (.list ([Str.ofString "long", Str.ofString "error"].map PyData.str)) = true := by rw [eqv_strsL, decide_eq_true rfl]
              refine ⟨_, _, dp_strs (bs := [Str.ofString "long", Str.ofString "error"]) (.inl (.inl (same_upd ng5 _ _ e22))), dp_strs (bs := [Str.ofString "long", Str.ofString "error"]) (.inl (.inl upd_same)), shaped_strs _ hsh, shaped_strs _ hsh, ?_⟩
              rw [he]
              exact q _
          · dsimp only [tNext]
            exact q _
end
end K20

namespace K20
open PySem PySem.Spec PyProof.Rows L2 LH
set_option maxHeartbeats 2000000 in
theorem all_mk {l : PySem.W.OpenLaw} {w : World} {K : PySem.W.Frag} {h : Heap} {mg : Str → Option Value} {fa : Addr} {f0 f1 f2 f3 f4 f5 f6 f7 f8 f9 f10 f11 f12 f13 f14 f15 f16 f17 f18 f19 f20 f21 f22 f23 f24 f25 f26 f27 f28 f29 f30 f31 f32 f33 f34 f35 f36 f37 f38 f39 f40 f41 f42 f43 f44 f45 f46 f47 f48 : Addr} {t1 t2 t3 t4 t5 t6 t7 t8 t9 t10 t11 t12 t13 t14 : Tok} (X : K.In h) (G : h.Ns mainGlobals mg) (hfa : mg "law" = some (.ref fa))
    {cHeader : Addr}
    (mHeader : PySem.W.nsIn K mainGlobals "Header" = some (some (.ref cHeader))) (pgHeader : PySem.W.plainGet K cHeader Str.empty = true) (hdHeader : PySem.W.hasDictIn K cHeader = true) (poHeader : PySem.W.plainOver K cHeader = true) (saHeader : PySem.W.findIn K (.ref cHeader) "__setattr__" = some (some (.builtin "object.__setattr__"))) (mkHeader : PySem.W.makesIn K cHeader = true) (kpHeader : PySem.W.keepIn K (.ref cHeader) = true) (naHeader0 : PySem.W.findIn K (.ref cHeader) "name" = some none) (naHeader1 : PySem.W.findIn K (.ref cHeader) "_said" = some none)
    (jaHeader : PySem.W.findIn K (.ref cHeader) "__class__" = some (some (.builtin "object.__class__"))) (jbHeader : PySem.W.specialIn K (.builtin "object.__class__") "__get__" = some (some (.builtin "getset_descriptor.__get__"))) (jcHeader : PySem.W.takesIn K (.builtin "object.__class__") = some true) (jdHeader : PySem.W.mroIn K cHeader (.type "object") = some true) (jeHeader : PySem.W.isClsIn K cHeader = true) (jfHeader : PySem.W.typeIn K (.ref cHeader) = some (.type "type")) (jgHeader : PySem.W.subIn K (.ref cHeader) (.ref cHeader) = some true)
    {cPiece : Addr}
    (mPiece : PySem.W.nsIn K mainGlobals "Piece" = some (some (.ref cPiece))) (pgPiece : PySem.W.plainGet K cPiece Str.empty = true) (hdPiece : PySem.W.hasDictIn K cPiece = true) (poPiece : PySem.W.plainOver K cPiece = true) (saPiece : PySem.W.findIn K (.ref cPiece) "__setattr__" = some (some (.builtin "object.__setattr__"))) (mkPiece : PySem.W.makesIn K cPiece = true) (kpPiece : PySem.W.keepIn K (.ref cPiece) = true) (naPiece0 : PySem.W.findIn K (.ref cPiece) "headers" = some none) (naPiece1 : PySem.W.findIn K (.ref cPiece) "row" = some none) (naPiece2 : PySem.W.findIn K (.ref cPiece) "pieces" = some none)
    (jaPiece : PySem.W.findIn K (.ref cPiece) "__class__" = some (some (.builtin "object.__class__"))) (jbPiece : PySem.W.specialIn K (.builtin "object.__class__") "__get__" = some (some (.builtin "getset_descriptor.__get__"))) (jcPiece : PySem.W.takesIn K (.builtin "object.__class__") = some true) (jdPiece : PySem.W.mroIn K cPiece (.type "object") = some true) (jePiece : PySem.W.isClsIn K cPiece = true) (jfPiece : PySem.W.typeIn K (.ref cPiece) = some (.type "type")) (jgPiece : PySem.W.subIn K (.ref cPiece) (.ref cPiece) = some true)
    {od0 an0 : Option Addr} {sl0 : Array (Option Value)} {oc0 kV0 dc0 pm0 cd0 ct0 : Value}
    (a0 : PySem.W.nsIn K mainGlobals "_law_mixed" = some (some (.ref f0)))
    (l0 : K.lookup f0 = some ⟨oc0, od0, .func (PySem.W.fnOf "_law_mixed" "_law_mixed" (defArgs s__law_mixed) (defBody s__law_mixed) (defScope s__law_mixed) .none kV0 dc0 pm0 an0 cd0 ct0), sl0⟩) (c0 : PySem.W.codeIn K cd0 "_law_mixed" = true) (k0 : PySem.W.keepIn K (.ref f0) = true)
    {od1 an1 : Option Addr} {sl1 : Array (Option Value)} {oc1 kV1 dc1 pm1 cd1 ct1 : Value}
    (a1 : PySem.W.nsIn K mainGlobals "_law_name" = some (some (.ref f1)))
    (l1 : K.lookup f1 = some ⟨oc1, od1, .func (PySem.W.fnOf "_law_name" "_law_name" (defArgs s__law_name) (defBody s__law_name) (defScope s__law_name) .none kV1 dc1 pm1 an1 cd1 ct1), sl1⟩) (c1 : PySem.W.codeIn K cd1 "_law_name" = true) (k1 : PySem.W.keepIn K (.ref f1) = true)
    {od2 an2 : Option Addr} {sl2 : Array (Option Value)} {oc2 kV2 dc2 pm2 cd2 ct2 : Value}
    (a2 : PySem.W.nsIn K mainGlobals "_law_signs" = some (some (.ref f2)))
    (l2 : K.lookup f2 = some ⟨oc2, od2, .func (PySem.W.fnOf "_law_signs" "_law_signs" (defArgs s__law_signs) (defBody s__law_signs) (defScope s__law_signs) .none kV2 dc2 pm2 an2 cd2 ct2), sl2⟩) (c2 : PySem.W.codeIn K cd2 "_law_signs" = true) (k2 : PySem.W.keepIn K (.ref f2) = true)
    {od3 an3 : Option Addr} {sl3 : Array (Option Value)} {oc3 kV3 dc3 pm3 cd3 ct3 : Value}
    (a3 : PySem.W.nsIn K mainGlobals "_law_word" = some (some (.ref f3)))
    (l3 : K.lookup f3 = some ⟨oc3, od3, .func (PySem.W.fnOf "_law_word" "_law_word" (defArgs s__law_word) (defBody s__law_word) (defScope s__law_word) .none kV3 dc3 pm3 an3 cd3 ct3), sl3⟩) (c3 : PySem.W.codeIn K cd3 "_law_word" = true) (k3 : PySem.W.keepIn K (.ref f3) = true)
    {od4 an4 : Option Addr} {sl4 : Array (Option Value)} {oc4 kV4 dc4 pm4 cd4 ct4 : Value}
    (a4 : PySem.W.nsIn K mainGlobals "_law_value" = some (some (.ref f4)))
    (l4 : K.lookup f4 = some ⟨oc4, od4, .func (PySem.W.fnOf "_law_value" "_law_value" (defArgs s__law_value) (defBody s__law_value) (defScope s__law_value) .none kV4 dc4 pm4 an4 cd4 ct4), sl4⟩) (c4 : PySem.W.codeIn K cd4 "_law_value" = true) (k4 : PySem.W.keepIn K (.ref f4) = true)
    {od5 an5 : Option Addr} {sl5 : Array (Option Value)} {oc5 kV5 dc5 pm5 cd5 ct5 : Value}
    (a5 : PySem.W.nsIn K mainGlobals "_law_row" = some (some (.ref f5)))
    (l5 : K.lookup f5 = some ⟨oc5, od5, .func (PySem.W.fnOf "_law_row" "_law_row" (defArgs s__law_row) (defBody s__law_row) (defScope s__law_row) .none kV5 dc5 pm5 an5 cd5 ct5), sl5⟩) (c5 : PySem.W.codeIn K cd5 "_law_row" = true) (k5 : PySem.W.keepIn K (.ref f5) = true)
    {od6 an6 : Option Addr} {sl6 : Array (Option Value)} {oc6 kV6 dc6 pm6 cd6 ct6 : Value}
    (a6 : PySem.W.nsIn K mainGlobals "_law_stretch" = some (some (.ref f6)))
    (l6 : K.lookup f6 = some ⟨oc6, od6, .func (PySem.W.fnOf "_law_stretch" "_law_stretch" (defArgs s__law_stretch) (defBody s__law_stretch) (defScope s__law_stretch) .none kV6 dc6 pm6 an6 cd6 ct6), sl6⟩) (c6 : PySem.W.codeIn K cd6 "_law_stretch" = true) (k6 : PySem.W.keepIn K (.ref f6) = true)
    {od7 an7 : Option Addr} {sl7 : Array (Option Value)} {oc7 kV7 dc7 pm7 cd7 ct7 : Value}
    (a7 : PySem.W.findIn K (.ref cHeader) "__init__" = some (some (.ref f7))) (fn7 : PySem.W.isFn K (.ref f7) = true)
    (l7 : K.lookup f7 = some ⟨oc7, od7, .func (PySem.W.fnOf "__init__" "Header.__init__" (defArgs s_Header___init__) (defBody s_Header___init__) (defScope s_Header___init__) .none kV7 dc7 pm7 an7 cd7 ct7), sl7⟩) (c7 : PySem.W.codeIn K cd7 "Header.__init__" = true) (k7 : PySem.W.keepIn K (.ref f7) = true)
    {od8 an8 : Option Addr} {sl8 : Array (Option Value)} {oc8 kV8 dc8 pm8 cd8 ct8 : Value}
    (a8 : PySem.W.nsIn K mainGlobals "own_list" = some (some (.ref f8)))
    (l8 : K.lookup f8 = some ⟨oc8, od8, .func (PySem.W.fnOf "own_list" "own_list" (defArgs s_own_list) (defBody s_own_list) (defScope s_own_list) .none kV8 dc8 pm8 an8 cd8 ct8), sl8⟩) (c8 : PySem.W.codeIn K cd8 "own_list" = true) (k8 : PySem.W.keepIn K (.ref f8) = true)
    {od9 an9 : Option Addr} {sl9 : Array (Option Value)} {oc9 kV9 dc9 pm9 cd9 ct9 : Value}
    {fT9 : Addr}
    (a9 : PySem.W.findIn K (.ref cPiece) "__init__" = some (some (.ref f9))) (fn9 : PySem.W.isFn K (.ref f9) = true)
    (l9 : K.lookup f9 = some ⟨oc9, od9, .func (PySem.W.fnOf "__init__" "Piece.__init__" (defArgs s_Piece___init__) (defBody s_Piece___init__) (defScope s_Piece___init__) (.ref fT9) kV9 dc9 pm9 an9 cd9 ct9), sl9⟩) (c9 : PySem.W.codeIn K cd9 "Piece.__init__" = true) (k9 : PySem.W.keepIn K (.ref f9) = true)
    {odT9 : Option Addr} {ocT9 : Value} {slT9 : Array (Option Value)} {nT9 : Nat} (lT9 : K.lookup fT9 = some ⟨ocT9, odT9, .seq #[.none, .none] nT9, slT9⟩)
    {od10 an10 : Option Addr} {sl10 : Array (Option Value)} {oc10 kV10 dc10 pm10 cd10 ct10 : Value}
    (a10 : PySem.W.nsIn K mainGlobals "_law_folded" = some (some (.ref f10)))
    (l10 : K.lookup f10 = some ⟨oc10, od10, .func (PySem.W.fnOf "_law_folded" "_law_folded" (defArgs s__law_folded) (defBody s__law_folded) (defScope s__law_folded) .none kV10 dc10 pm10 an10 cd10 ct10), sl10⟩) (c10 : PySem.W.codeIn K cd10 "_law_folded" = true) (k10 : PySem.W.keepIn K (.ref f10) = true)
    {od11 an11 : Option Addr} {sl11 : Array (Option Value)} {oc11 kV11 dc11 pm11 cd11 ct11 : Value}
    (a11 : PySem.W.nsIn K mainGlobals "_law_plain" = some (some (.ref f11)))
    (l11 : K.lookup f11 = some ⟨oc11, od11, .func (PySem.W.fnOf "_law_plain" "_law_plain" (defArgs s__law_plain) (defBody s__law_plain) (defScope s__law_plain) .none kV11 dc11 pm11 an11 cd11 ct11), sl11⟩) (c11 : PySem.W.codeIn K cd11 "_law_plain" = true) (k11 : PySem.W.keepIn K (.ref f11) = true)
    {od12 an12 : Option Addr} {sl12 : Array (Option Value)} {oc12 kV12 dc12 pm12 cd12 ct12 : Value}
    (a12 : PySem.W.nsIn K mainGlobals "_law_cut" = some (some (.ref f12)))
    (l12 : K.lookup f12 = some ⟨oc12, od12, .func (PySem.W.fnOf "_law_cut" "_law_cut" (defArgs s__law_cut) (defBody s__law_cut) (defScope s__law_cut) .none kV12 dc12 pm12 an12 cd12 ct12), sl12⟩) (c12 : PySem.W.codeIn K cd12 "_law_cut" = true) (k12 : PySem.W.keepIn K (.ref f12) = true)
    {od13 an13 : Option Addr} {sl13 : Array (Option Value)} {oc13 kV13 dc13 pm13 cd13 ct13 : Value}
    (a13 : PySem.W.nsIn K mainGlobals "_law_unit" = some (some (.ref f13)))
    (l13 : K.lookup f13 = some ⟨oc13, od13, .func (PySem.W.fnOf "_law_unit" "_law_unit" (defArgs s__law_unit) (defBody s__law_unit) (defScope s__law_unit) .none kV13 dc13 pm13 an13 cd13 ct13), sl13⟩) (c13 : PySem.W.codeIn K cd13 "_law_unit" = true) (k13 : PySem.W.keepIn K (.ref f13) = true)
    {od14 an14 : Option Addr} {sl14 : Array (Option Value)} {oc14 kV14 dc14 pm14 cd14 ct14 : Value}
    (a14 : PySem.W.nsIn K mainGlobals "_law_sixteens" = some (some (.ref f14)))
    (l14 : K.lookup f14 = some ⟨oc14, od14, .func (PySem.W.fnOf "_law_sixteens" "_law_sixteens" (defArgs s__law_sixteens) (defBody s__law_sixteens) (defScope s__law_sixteens) .none kV14 dc14 pm14 an14 cd14 ct14), sl14⟩) (c14 : PySem.W.codeIn K cd14 "_law_sixteens" = true) (k14 : PySem.W.keepIn K (.ref f14) = true)
    {od15 an15 : Option Addr} {sl15 : Array (Option Value)} {oc15 kV15 dc15 pm15 cd15 ct15 : Value}
    (a15 : PySem.W.nsIn K mainGlobals "_law_sixty" = some (some (.ref f15)))
    (l15 : K.lookup f15 = some ⟨oc15, od15, .func (PySem.W.fnOf "_law_sixty" "_law_sixty" (defArgs s__law_sixty) (defBody s__law_sixty) (defScope s__law_sixty) .none kV15 dc15 pm15 an15 cd15 ct15), sl15⟩) (c15 : PySem.W.codeIn K cd15 "_law_sixty" = true) (k15 : PySem.W.keepIn K (.ref f15) = true)
    {od16 an16 : Option Addr} {sl16 : Array (Option Value)} {oc16 kV16 dc16 pm16 cd16 ct16 : Value}
    (a16 : PySem.W.nsIn K mainGlobals "_law_body" = some (some (.ref f16)))
    (l16 : K.lookup f16 = some ⟨oc16, od16, .func (PySem.W.fnOf "_law_body" "_law_body" (defArgs s__law_body) (defBody s__law_body) (defScope s__law_body) .none kV16 dc16 pm16 an16 cd16 ct16), sl16⟩) (c16 : PySem.W.codeIn K cd16 "_law_body" = true) (k16 : PySem.W.keepIn K (.ref f16) = true)
    {od17 an17 : Option Addr} {sl17 : Array (Option Value)} {oc17 kV17 dc17 pm17 cd17 ct17 : Value}
    (a17 : PySem.W.nsIn K mainGlobals "_law_due" = some (some (.ref f17)))
    (l17 : K.lookup f17 = some ⟨oc17, od17, .func (PySem.W.fnOf "_law_due" "_law_due" (defArgs s__law_due) (defBody s__law_due) (defScope s__law_due) .none kV17 dc17 pm17 an17 cd17 ct17), sl17⟩) (c17 : PySem.W.codeIn K cd17 "_law_due" = true) (k17 : PySem.W.keepIn K (.ref f17) = true)
    {od18 an18 : Option Addr} {sl18 : Array (Option Value)} {oc18 kV18 dc18 pm18 cd18 ct18 : Value}
    (a18 : PySem.W.nsIn K mainGlobals "are_headers" = some (some (.ref f18)))
    (l18 : K.lookup f18 = some ⟨oc18, od18, .func (PySem.W.fnOf "are_headers" "are_headers" (defArgs s_are_headers) (defBody s_are_headers) (defScope s_are_headers) .none kV18 dc18 pm18 an18 cd18 ct18), sl18⟩) (c18 : PySem.W.codeIn K cd18 "are_headers" = true) (k18 : PySem.W.keepIn K (.ref f18) = true)
    {od19 an19 : Option Addr} {sl19 : Array (Option Value)} {oc19 kV19 dc19 pm19 cd19 ct19 : Value}
    (a19 : PySem.W.nsIn K mainGlobals "is_number" = some (some (.ref f19)))
    (l19 : K.lookup f19 = some ⟨oc19, od19, .func (PySem.W.fnOf "is_number" "is_number" (defArgs s_is_number) (defBody s_is_number) (defScope s_is_number) .none kV19 dc19 pm19 an19 cd19 ct19), sl19⟩) (c19 : PySem.W.codeIn K cd19 "is_number" = true) (k19 : PySem.W.keepIn K (.ref f19) = true)
    {od20 an20 : Option Addr} {sl20 : Array (Option Value)} {oc20 kV20 dc20 pm20 cd20 ct20 : Value}
    (a20 : PySem.W.nsIn K mainGlobals "is_bytes" = some (some (.ref f20)))
    (l20 : K.lookup f20 = some ⟨oc20, od20, .func (PySem.W.fnOf "is_bytes" "is_bytes" (defArgs s_is_bytes) (defBody s_is_bytes) (defScope s_is_bytes) .none kV20 dc20 pm20 an20 cd20 ct20), sl20⟩) (c20 : PySem.W.codeIn K cd20 "is_bytes" = true) (k20 : PySem.W.keepIn K (.ref f20) = true)
    {od21 an21 : Option Addr} {sl21 : Array (Option Value)} {oc21 kV21 dc21 pm21 cd21 ct21 : Value}
    (a21 : PySem.W.nsIn K mainGlobals "is_piece_at" = some (some (.ref f21)))
    (l21 : K.lookup f21 = some ⟨oc21, od21, .func (PySem.W.fnOf "is_piece_at" "is_piece_at" (defArgs s_is_piece_at) (defBody s_is_piece_at) (defScope s_is_piece_at) .none kV21 dc21 pm21 an21 cd21 ct21), sl21⟩) (c21 : PySem.W.codeIn K cd21 "is_piece_at" = true) (k21 : PySem.W.keepIn K (.ref f21) = true)
    {od22 an22 : Option Addr} {sl22 : Array (Option Value)} {oc22 kV22 dc22 pm22 cd22 ct22 : Value}
    (a22 : PySem.W.nsIn K mainGlobals "is_piece" = some (some (.ref f22)))
    (l22 : K.lookup f22 = some ⟨oc22, od22, .func (PySem.W.fnOf "is_piece" "is_piece" (defArgs s_is_piece) (defBody s_is_piece) (defScope s_is_piece) .none kV22 dc22 pm22 an22 cd22 ct22), sl22⟩) (c22 : PySem.W.codeIn K cd22 "is_piece" = true) (k22 : PySem.W.keepIn K (.ref f22) = true)
    {od23 an23 : Option Addr} {sl23 : Array (Option Value)} {oc23 kV23 dc23 pm23 cd23 ct23 : Value}
    (a23 : PySem.W.nsIn K mainGlobals "is_small_word" = some (some (.ref f23)))
    (l23 : K.lookup f23 = some ⟨oc23, od23, .func (PySem.W.fnOf "is_small_word" "is_small_word" (defArgs s_is_small_word) (defBody s_is_small_word) (defScope s_is_small_word) .none kV23 dc23 pm23 an23 cd23 ct23), sl23⟩) (c23 : PySem.W.codeIn K cd23 "is_small_word" = true) (k23 : PySem.W.keepIn K (.ref f23) = true)
    {od24 an24 : Option Addr} {sl24 : Array (Option Value)} {oc24 kV24 dc24 pm24 cd24 ct24 : Value}
    (a24 : PySem.W.nsIn K mainGlobals "is_header_name" = some (some (.ref f24)))
    (l24 : K.lookup f24 = some ⟨oc24, od24, .func (PySem.W.fnOf "is_header_name" "is_header_name" (defArgs s_is_header_name) (defBody s_is_header_name) (defScope s_is_header_name) .none kV24 dc24 pm24 an24 cd24 ct24), sl24⟩) (c24 : PySem.W.codeIn K cd24 "is_header_name" = true) (k24 : PySem.W.keepIn K (.ref f24) = true)
    {od25 an25 : Option Addr} {sl25 : Array (Option Value)} {oc25 kV25 dc25 pm25 cd25 ct25 : Value}
    (a25 : PySem.W.nsIn K mainGlobals "is_sign" = some (some (.ref f25)))
    (l25 : K.lookup f25 = some ⟨oc25, od25, .func (PySem.W.fnOf "is_sign" "is_sign" (defArgs s_is_sign) (defBody s_is_sign) (defScope s_is_sign) .none kV25 dc25 pm25 an25 cd25 ct25), sl25⟩) (c25 : PySem.W.codeIn K cd25 "is_sign" = true) (k25 : PySem.W.keepIn K (.ref f25) = true)
    {od26 an26 : Option Addr} {sl26 : Array (Option Value)} {oc26 kV26 dc26 pm26 cd26 ct26 : Value}
    (a26 : PySem.W.nsIn K mainGlobals "is_value" = some (some (.ref f26)))
    (l26 : K.lookup f26 = some ⟨oc26, od26, .func (PySem.W.fnOf "is_value" "is_value" (defArgs s_is_value) (defBody s_is_value) (defScope s_is_value) .none kV26 dc26 pm26 an26 cd26 ct26), sl26⟩) (c26 : PySem.W.codeIn K cd26 "is_value" = true) (k26 : PySem.W.keepIn K (.ref f26) = true)
    {od27 an27 : Option Addr} {sl27 : Array (Option Value)} {oc27 kV27 dc27 pm27 cd27 ct27 : Value}
    (a27 : PySem.W.nsIn K mainGlobals "great_name" = some (some (.ref f27)))
    (l27 : K.lookup f27 = some ⟨oc27, od27, .func (PySem.W.fnOf "great_name" "great_name" (defArgs s_great_name) (defBody s_great_name) (defScope s_great_name) .none kV27 dc27 pm27 an27 cd27 ct27), sl27⟩) (c27 : PySem.W.codeIn K cd27 "great_name" = true) (k27 : PySem.W.keepIn K (.ref f27) = true)
    {od28 an28 : Option Addr} {sl28 : Array (Option Value)} {oc28 kV28 dc28 pm28 cd28 ct28 : Value}
    (a28 : PySem.W.nsIn K mainGlobals "goes_into_rows" = some (some (.ref f28)))
    (l28 : K.lookup f28 = some ⟨oc28, od28, .func (PySem.W.fnOf "goes_into_rows" "goes_into_rows" (defArgs s_goes_into_rows) (defBody s_goes_into_rows) (defScope s_goes_into_rows) .none kV28 dc28 pm28 an28 cd28 ct28), sl28⟩) (c28 : PySem.W.codeIn K cd28 "goes_into_rows" = true) (k28 : PySem.W.keepIn K (.ref f28) = true)
    {od29 an29 : Option Addr} {sl29 : Array (Option Value)} {oc29 kV29 dc29 pm29 cd29 ct29 : Value}
    (a29 : PySem.W.nsIn K mainGlobals "folded" = some (some (.ref f29)))
    (l29 : K.lookup f29 = some ⟨oc29, od29, .func (PySem.W.fnOf "folded" "folded" (defArgs s_folded) (defBody s_folded) (defScope s_folded) .none kV29 dc29 pm29 an29 cd29 ct29), sl29⟩) (c29 : PySem.W.codeIn K cd29 "folded" = true) (k29 : PySem.W.keepIn K (.ref f29) = true)
    {od30 an30 : Option Addr} {sl30 : Array (Option Value)} {oc30 kV30 dc30 pm30 cd30 ct30 : Value}
    (a30 : PySem.W.findIn K (.ref cHeader) "value" = some (some (.ref f30))) (fn30 : PySem.W.isFn K (.ref f30) = true)
    (l30 : K.lookup f30 = some ⟨oc30, od30, .func (PySem.W.fnOf "value" "Header.value" (defArgs s_Header_value) (defBody s_Header_value) (defScope s_Header_value) .none kV30 dc30 pm30 an30 cd30 ct30), sl30⟩) (c30 : PySem.W.codeIn K cd30 "Header.value" = true) (k30 : PySem.W.keepIn K (.ref f30) = true)
    {od31 an31 : Option Addr} {sl31 : Array (Option Value)} {oc31 kV31 dc31 pm31 cd31 ct31 : Value}
    (a31 : PySem.W.nsIn K mainGlobals "lines_of" = some (some (.ref f31)))
    (l31 : K.lookup f31 = some ⟨oc31, od31, .func (PySem.W.fnOf "lines_of" "lines_of" (defArgs s_lines_of) (defBody s_lines_of) (defScope s_lines_of) .none kV31 dc31 pm31 an31 cd31 ct31), sl31⟩) (c31 : PySem.W.codeIn K cd31 "lines_of" = true) (k31 : PySem.W.keepIn K (.ref f31) = true)
    {od32 an32 : Option Addr} {sl32 : Array (Option Value)} {oc32 kV32 dc32 pm32 cd32 ct32 : Value}
    (a32 : PySem.W.nsIn K mainGlobals "is_sign_byte" = some (some (.ref f32)))
    (l32 : K.lookup f32 = some ⟨oc32, od32, .func (PySem.W.fnOf "is_sign_byte" "is_sign_byte" (defArgs s_is_sign_byte) (defBody s_is_sign_byte) (defScope s_is_sign_byte) .none kV32 dc32 pm32 an32 cd32 ct32), sl32⟩) (c32 : PySem.W.codeIn K cd32 "is_sign_byte" = true) (k32 : PySem.W.keepIn K (.ref f32) = true)
    {od33 an33 : Option Addr} {sl33 : Array (Option Value)} {oc33 kV33 dc33 pm33 cd33 ct33 : Value}
    (a33 : PySem.W.nsIn K mainGlobals "is_plain_line" = some (some (.ref f33)))
    (l33 : K.lookup f33 = some ⟨oc33, od33, .func (PySem.W.fnOf "is_plain_line" "is_plain_line" (defArgs s_is_plain_line) (defBody s_is_plain_line) (defScope s_is_plain_line) .none kV33 dc33 pm33 an33 cd33 ct33), sl33⟩) (c33 : PySem.W.codeIn K cd33 "is_plain_line" = true) (k33 : PySem.W.keepIn K (.ref f33) = true)
    {od34 an34 : Option Addr} {sl34 : Array (Option Value)} {oc34 kV34 dc34 pm34 cd34 ct34 : Value}
    (a34 : PySem.W.nsIn K mainGlobals "sign_of_byte" = some (some (.ref f34)))
    (l34 : K.lookup f34 = some ⟨oc34, od34, .func (PySem.W.fnOf "sign_of_byte" "sign_of_byte" (defArgs s_sign_of_byte) (defBody s_sign_of_byte) (defScope s_sign_of_byte) .none kV34 dc34 pm34 an34 cd34 ct34), sl34⟩) (c34 : PySem.W.codeIn K cd34 "sign_of_byte" = true) (k34 : PySem.W.keepIn K (.ref f34) = true)
    {od35 an35 : Option Addr} {sl35 : Array (Option Value)} {oc35 kV35 dc35 pm35 cd35 ct35 : Value}
    (a35 : PySem.W.nsIn K mainGlobals "figures_of" = some (some (.ref f35)))
    (l35 : K.lookup f35 = some ⟨oc35, od35, .func (PySem.W.fnOf "figures_of" "figures_of" (defArgs s_figures_of) (defBody s_figures_of) (defScope s_figures_of) .none kV35 dc35 pm35 an35 cd35 ct35), sl35⟩) (c35 : PySem.W.codeIn K cd35 "figures_of" = true) (k35 : PySem.W.keepIn K (.ref f35) = true)
    {od36 an36 : Option Addr} {sl36 : Array (Option Value)} {oc36 kV36 dc36 pm36 cd36 ct36 : Value}
    (a36 : PySem.W.nsIn K mainGlobals "part_of" = some (some (.ref f36)))
    (l36 : K.lookup f36 = some ⟨oc36, od36, .func (PySem.W.fnOf "part_of" "part_of" (defArgs s_part_of) (defBody s_part_of) (defScope s_part_of) .none kV36 dc36 pm36 an36 cd36 ct36), sl36⟩) (c36 : PySem.W.codeIn K cd36 "part_of" = true) (k36 : PySem.W.keepIn K (.ref f36) = true)
    {od37 an37 : Option Addr} {sl37 : Array (Option Value)} {oc37 kV37 dc37 pm37 cd37 ct37 : Value}
    (a37 : PySem.W.nsIn K mainGlobals "parts_of" = some (some (.ref f37)))
    (l37 : K.lookup f37 = some ⟨oc37, od37, .func (PySem.W.fnOf "parts_of" "parts_of" (defArgs s_parts_of) (defBody s_parts_of) (defScope s_parts_of) .none kV37 dc37 pm37 an37 cd37 ct37), sl37⟩) (c37 : PySem.W.codeIn K cd37 "parts_of" = true) (k37 : PySem.W.keepIn K (.ref f37) = true)
    {od38 an38 : Option Addr} {sl38 : Array (Option Value)} {oc38 kV38 dc38 pm38 cd38 ct38 : Value}
    (a38 : PySem.W.nsIn K mainGlobals "cut" = some (some (.ref f38)))
    (l38 : K.lookup f38 = some ⟨oc38, od38, .func (PySem.W.fnOf "cut" "cut" (defArgs s_cut) (defBody s_cut) (defScope s_cut) .none kV38 dc38 pm38 an38 cd38 ct38), sl38⟩) (c38 : PySem.W.codeIn K cd38 "cut" = true) (k38 : PySem.W.keepIn K (.ref f38) = true)
    {od39 an39 : Option Addr} {sl39 : Array (Option Value)} {oc39 kV39 dc39 pm39 cd39 ct39 : Value}
    (a39 : PySem.W.nsIn K mainGlobals "sixteens_of" = some (some (.ref f39)))
    (l39 : K.lookup f39 = some ⟨oc39, od39, .func (PySem.W.fnOf "sixteens_of" "sixteens_of" (defArgs s_sixteens_of) (defBody s_sixteens_of) (defScope s_sixteens_of) .none kV39 dc39 pm39 an39 cd39 ct39), sl39⟩) (c39 : PySem.W.codeIn K cd39 "sixteens_of" = true) (k39 : PySem.W.keepIn K (.ref f39) = true)
    {od40 an40 : Option Addr} {sl40 : Array (Option Value)} {oc40 kV40 dc40 pm40 cd40 ct40 : Value}
    (a40 : PySem.W.nsIn K mainGlobals "four_of" = some (some (.ref f40)))
    (l40 : K.lookup f40 = some ⟨oc40, od40, .func (PySem.W.fnOf "four_of" "four_of" (defArgs s_four_of) (defBody s_four_of) (defScope s_four_of) .none kV40 dc40 pm40 an40 cd40 ct40), sl40⟩) (c40 : PySem.W.codeIn K cd40 "four_of" = true) (k40 : PySem.W.keepIn K (.ref f40) = true)
    {od41 an41 : Option Addr} {sl41 : Array (Option Value)} {oc41 kV41 dc41 pm41 cd41 ct41 : Value}
    (a41 : PySem.W.nsIn K mainGlobals "sixty_of" = some (some (.ref f41)))
    (l41 : K.lookup f41 = some ⟨oc41, od41, .func (PySem.W.fnOf "sixty_of" "sixty_of" (defArgs s_sixty_of) (defBody s_sixty_of) (defScope s_sixty_of) .none kV41 dc41 pm41 an41 cd41 ct41), sl41⟩) (c41 : PySem.W.codeIn K cd41 "sixty_of" = true) (k41 : PySem.W.keepIn K (.ref f41) = true)
    {od42 an42 : Option Addr} {sl42 : Array (Option Value)} {oc42 kV42 dc42 pm42 cd42 ct42 : Value}
    (a42 : PySem.W.nsIn K mainGlobals "many_signs" = some (some (.ref f42)))
    (l42 : K.lookup f42 = some ⟨oc42, od42, .func (PySem.W.fnOf "many_signs" "many_signs" (defArgs s_many_signs) (defBody s_many_signs) (defScope s_many_signs) .none kV42 dc42 pm42 an42 cd42 ct42), sl42⟩) (c42 : PySem.W.codeIn K cd42 "many_signs" = true) (k42 : PySem.W.keepIn K (.ref f42) = true)
    {od43 an43 : Option Addr} {sl43 : Array (Option Value)} {oc43 kV43 dc43 pm43 cd43 ct43 : Value}
    (a43 : PySem.W.nsIn K mainGlobals "written_bytes" = some (some (.ref f43)))
    (l43 : K.lookup f43 = some ⟨oc43, od43, .func (PySem.W.fnOf "written_bytes" "written_bytes" (defArgs s_written_bytes) (defBody s_written_bytes) (defScope s_written_bytes) .none kV43 dc43 pm43 an43 cd43 ct43), sl43⟩) (c43 : PySem.W.codeIn K cd43 "written_bytes" = true) (k43 : PySem.W.keepIn K (.ref f43) = true)
    {od44 an44 : Option Addr} {sl44 : Array (Option Value)} {oc44 kV44 dc44 pm44 cd44 ct44 : Value}
    (a44 : PySem.W.nsIn K mainGlobals "written_pieces" = some (some (.ref f44)))
    (l44 : K.lookup f44 = some ⟨oc44, od44, .func (PySem.W.fnOf "written_pieces" "written_pieces" (defArgs s_written_pieces) (defBody s_written_pieces) (defScope s_written_pieces) .none kV44 dc44 pm44 an44 cd44 ct44), sl44⟩) (c44 : PySem.W.codeIn K cd44 "written_pieces" = true) (k44 : PySem.W.keepIn K (.ref f44) = true)
    {od45 an45 : Option Addr} {sl45 : Array (Option Value)} {oc45 kV45 dc45 pm45 cd45 ct45 : Value}
    (a45 : PySem.W.nsIn K mainGlobals "written_rows" = some (some (.ref f45)))
    (l45 : K.lookup f45 = some ⟨oc45, od45, .func (PySem.W.fnOf "written_rows" "written_rows" (defArgs s_written_rows) (defBody s_written_rows) (defScope s_written_rows) .none kV45 dc45 pm45 an45 cd45 ct45), sl45⟩) (c45 : PySem.W.codeIn K cd45 "written_rows" = true) (k45 : PySem.W.keepIn K (.ref f45) = true)
    {od46 an46 : Option Addr} {sl46 : Array (Option Value)} {oc46 kV46 dc46 pm46 cd46 ct46 : Value}
    (a46 : PySem.W.nsIn K mainGlobals "piece_rows" = some (some (.ref f46)))
    (l46 : K.lookup f46 = some ⟨oc46, od46, .func (PySem.W.fnOf "piece_rows" "piece_rows" (defArgs s_piece_rows) (defBody s_piece_rows) (defScope s_piece_rows) .none kV46 dc46 pm46 an46 cd46 ct46), sl46⟩) (c46 : PySem.W.codeIn K cd46 "piece_rows" = true) (k46 : PySem.W.keepIn K (.ref f46) = true)
    {od47 an47 : Option Addr} {sl47 : Array (Option Value)} {oc47 kV47 dc47 pm47 cd47 ct47 : Value}
    (a47 : PySem.W.nsIn K mainGlobals "_law_word_of" = some (some (.ref f47)))
    (l47 : K.lookup f47 = some ⟨oc47, od47, .func (PySem.W.fnOf "_law_word_of" "_law_word_of" (defArgs s__law_word_of) (defBody s__law_word_of) (defScope s__law_word_of) .none kV47 dc47 pm47 an47 cd47 ct47), sl47⟩) (c47 : PySem.W.codeIn K cd47 "_law_word_of" = true) (k47 : PySem.W.keepIn K (.ref f47) = true)
    {od48 an48 : Option Addr} {sl48 : Array (Option Value)} {oc48 kV48 dc48 pm48 cd48 ct48 : Value}
    (a48 : PySem.W.nsIn K mainGlobals "law" = some (some (.ref f48)))
    (l48 : K.lookup f48 = some ⟨oc48, od48, .func (PySem.W.fnOf "law" "law" (defArgs s_law) (defBody s_law) (defScope s_law) .none kV48 dc48 pm48 an48 cd48 ct48), sl48⟩) (c48 : PySem.W.codeIn K cd48 "law" = true) (k48 : PySem.W.keepIn K (.ref f48) = true)
    {e0 e1 e2 e3 e4 e5 e6 e7 : Addr}
    (m0 : PySem.W.nsIn K mainGlobals "HouseError" = some (some (.ref e0)))
    (m1 : PySem.W.nsIn K mainGlobals "BadBytes" = some (some (.ref e1)))
    (m2 : PySem.W.nsIn K mainGlobals "BadName" = some (some (.ref e2)))
    (m3 : PySem.W.nsIn K mainGlobals "BadValue" = some (some (.ref e3)))
    (m4 : PySem.W.nsIn K mainGlobals "TooLong" = some (some (.ref e4)))
    (m5 : PySem.W.nsIn K mainGlobals "BadPiece" = some (some (.ref e5)))
    (m6 : PySem.W.nsIn K mainGlobals "Wrong" = some (some (.ref e6)))
    (m7 : PySem.W.nsIn K mainGlobals "BadRow" = some (some (.ref e7)))
    (ic0 : PySem.W.isClsIn K e0 = true) (tp0 : PySem.W.typeIn K (.ref e0) = some (.type "type"))
    (ic1 : PySem.W.isClsIn K e1 = true) (tp1 : PySem.W.typeIn K (.ref e1) = some (.type "type"))
    (ic2 : PySem.W.isClsIn K e2 = true) (tp2 : PySem.W.typeIn K (.ref e2) = some (.type "type"))
    (ic3 : PySem.W.isClsIn K e3 = true) (tp3 : PySem.W.typeIn K (.ref e3) = some (.type "type"))
    (ic4 : PySem.W.isClsIn K e4 = true) (tp4 : PySem.W.typeIn K (.ref e4) = some (.type "type"))
    (ic5 : PySem.W.isClsIn K e5 = true) (tp5 : PySem.W.typeIn K (.ref e5) = some (.type "type"))
    (ic6 : PySem.W.isClsIn K e6 = true) (tp6 : PySem.W.typeIn K (.ref e6) = some (.type "type"))
    (ic7 : PySem.W.isClsIn K e7 = true) (tp7 : PySem.W.typeIn K (.ref e7) = some (.type "type"))
    (hb0 : PySem.W.subIn K (.ref e0) (.type "BaseException") = some true)
    (kp2 : PySem.W.keepIn K (.ref e2) = true) (sb2 : PySem.W.subIn K (.ref e2) (.type "BaseException") = some true) (ty2 : PySem.W.typeIn K (.ref e2) = some (.type "type")) (x0_2 : PySem.W.findIn K (.ref e2) "__getattribute__" = some (some (.builtin "BaseException.__getattribute__"))) (x1_2 : PySem.W.findIn K (.ref e2) "__getattr__" = some none) (x2_2 : PySem.W.subIn K (.ref e2) (.type "BaseException") = some true) (x3_2 : PySem.W.hasDictIn K e2 = true) (x4_2 : PySem.W.findIn K (.ref e2) "__class__" = some (some (.builtin "object.__class__"))) (x5_2 : PySem.W.specialIn K (.builtin "object.__class__") "__get__" = some (some (.builtin "getset_descriptor.__get__"))) (x6_2 : PySem.W.takesIn K (.builtin "object.__class__") = some true) (x7_2 : PySem.W.mroIn K e2 (.type "object") = some true) (fi2 : PySem.W.subIn K (.ref e2) (.ref e0) = some true) (ba2 : PySem.W.subIn K (.ref e2) (.type "ValueError") = some true) (ki2_0 : PySem.W.subIn K (.ref e2) (.ref e1) = some false) (nq2_0 : (e2 == e1) = false) (ki2_1 : PySem.W.subIn K (.ref e2) (.ref e2) = some true) (ki2_2 : PySem.W.subIn K (.ref e2) (.ref e3) = some false) (nq2_2 : (e2 == e3) = false) (ki2_3 : PySem.W.subIn K (.ref e2) (.ref e4) = some false) (nq2_3 : (e2 == e4) = false) (ki2_4 : PySem.W.subIn K (.ref e2) (.ref e5) = some false) (nq2_4 : (e2 == e5) = false) (ki2_5 : PySem.W.subIn K (.ref e2) (.ref e6) = some false) (nq2_5 : (e2 == e6) = false) (ki2_6 : PySem.W.subIn K (.ref e2) (.ref e7) = some false) (nq2_6 : (e2 == e7) = false)
    (kp3 : PySem.W.keepIn K (.ref e3) = true) (sb3 : PySem.W.subIn K (.ref e3) (.type "BaseException") = some true) (ty3 : PySem.W.typeIn K (.ref e3) = some (.type "type")) (x0_3 : PySem.W.findIn K (.ref e3) "__getattribute__" = some (some (.builtin "BaseException.__getattribute__"))) (x1_3 : PySem.W.findIn K (.ref e3) "__getattr__" = some none) (x2_3 : PySem.W.subIn K (.ref e3) (.type "BaseException") = some true) (x3_3 : PySem.W.hasDictIn K e3 = true) (x4_3 : PySem.W.findIn K (.ref e3) "__class__" = some (some (.builtin "object.__class__"))) (x5_3 : PySem.W.specialIn K (.builtin "object.__class__") "__get__" = some (some (.builtin "getset_descriptor.__get__"))) (x6_3 : PySem.W.takesIn K (.builtin "object.__class__") = some true) (x7_3 : PySem.W.mroIn K e3 (.type "object") = some true) (fi3 : PySem.W.subIn K (.ref e3) (.ref e0) = some true) (ba3 : PySem.W.subIn K (.ref e3) (.type "ValueError") = some true) (ki3_0 : PySem.W.subIn K (.ref e3) (.ref e1) = some false) (nq3_0 : (e3 == e1) = false) (ki3_1 : PySem.W.subIn K (.ref e3) (.ref e2) = some false) (nq3_1 : (e3 == e2) = false) (ki3_2 : PySem.W.subIn K (.ref e3) (.ref e3) = some true) (ki3_3 : PySem.W.subIn K (.ref e3) (.ref e4) = some false) (nq3_3 : (e3 == e4) = false) (ki3_4 : PySem.W.subIn K (.ref e3) (.ref e5) = some false) (nq3_4 : (e3 == e5) = false) (ki3_5 : PySem.W.subIn K (.ref e3) (.ref e6) = some false) (nq3_5 : (e3 == e6) = false) (ki3_6 : PySem.W.subIn K (.ref e3) (.ref e7) = some false) (nq3_6 : (e3 == e7) = false)
    (kp4 : PySem.W.keepIn K (.ref e4) = true) (sb4 : PySem.W.subIn K (.ref e4) (.type "BaseException") = some true) (ty4 : PySem.W.typeIn K (.ref e4) = some (.type "type")) (x0_4 : PySem.W.findIn K (.ref e4) "__getattribute__" = some (some (.builtin "BaseException.__getattribute__"))) (x1_4 : PySem.W.findIn K (.ref e4) "__getattr__" = some none) (x2_4 : PySem.W.subIn K (.ref e4) (.type "BaseException") = some true) (x3_4 : PySem.W.hasDictIn K e4 = true) (x4_4 : PySem.W.findIn K (.ref e4) "__class__" = some (some (.builtin "object.__class__"))) (x5_4 : PySem.W.specialIn K (.builtin "object.__class__") "__get__" = some (some (.builtin "getset_descriptor.__get__"))) (x6_4 : PySem.W.takesIn K (.builtin "object.__class__") = some true) (x7_4 : PySem.W.mroIn K e4 (.type "object") = some true) (fi4 : PySem.W.subIn K (.ref e4) (.ref e0) = some true) (ba4 : PySem.W.subIn K (.ref e4) (.type "ValueError") = some true) (ki4_0 : PySem.W.subIn K (.ref e4) (.ref e1) = some false) (nq4_0 : (e4 == e1) = false) (ki4_1 : PySem.W.subIn K (.ref e4) (.ref e2) = some false) (nq4_1 : (e4 == e2) = false) (ki4_2 : PySem.W.subIn K (.ref e4) (.ref e3) = some false) (nq4_2 : (e4 == e3) = false) (ki4_3 : PySem.W.subIn K (.ref e4) (.ref e4) = some true) (ki4_4 : PySem.W.subIn K (.ref e4) (.ref e5) = some false) (nq4_4 : (e4 == e5) = false) (ki4_5 : PySem.W.subIn K (.ref e4) (.ref e6) = some false) (nq4_5 : (e4 == e6) = false) (ki4_6 : PySem.W.subIn K (.ref e4) (.ref e7) = some false) (nq4_6 : (e4 == e7) = false)
    (kp5 : PySem.W.keepIn K (.ref e5) = true) (sb5 : PySem.W.subIn K (.ref e5) (.type "BaseException") = some true) (ty5 : PySem.W.typeIn K (.ref e5) = some (.type "type")) (x0_5 : PySem.W.findIn K (.ref e5) "__getattribute__" = some (some (.builtin "BaseException.__getattribute__"))) (x1_5 : PySem.W.findIn K (.ref e5) "__getattr__" = some none) (x2_5 : PySem.W.subIn K (.ref e5) (.type "BaseException") = some true) (x3_5 : PySem.W.hasDictIn K e5 = true) (x4_5 : PySem.W.findIn K (.ref e5) "__class__" = some (some (.builtin "object.__class__"))) (x5_5 : PySem.W.specialIn K (.builtin "object.__class__") "__get__" = some (some (.builtin "getset_descriptor.__get__"))) (x6_5 : PySem.W.takesIn K (.builtin "object.__class__") = some true) (x7_5 : PySem.W.mroIn K e5 (.type "object") = some true) (fi5 : PySem.W.subIn K (.ref e5) (.ref e0) = some true) (ba5 : PySem.W.subIn K (.ref e5) (.type "ValueError") = some true) (ki5_0 : PySem.W.subIn K (.ref e5) (.ref e1) = some false) (nq5_0 : (e5 == e1) = false) (ki5_1 : PySem.W.subIn K (.ref e5) (.ref e2) = some false) (nq5_1 : (e5 == e2) = false) (ki5_2 : PySem.W.subIn K (.ref e5) (.ref e3) = some false) (nq5_2 : (e5 == e3) = false) (ki5_3 : PySem.W.subIn K (.ref e5) (.ref e4) = some false) (nq5_3 : (e5 == e4) = false) (ki5_4 : PySem.W.subIn K (.ref e5) (.ref e5) = some true) (ki5_5 : PySem.W.subIn K (.ref e5) (.ref e6) = some false) (nq5_5 : (e5 == e6) = false) (ki5_6 : PySem.W.subIn K (.ref e5) (.ref e7) = some false) (nq5_6 : (e5 == e7) = false)
    {fH ccH cdaH TH : Addr} {r0 r1 r2 r3 r4 r5 r6 r7 r8 r9 r10 r11 r12 r13 r14 r15 r16 : Pos} {u0h : Nat} {och kvh doch pmh cth cclh clh octh : Value} {odh anh cddh cldh odth : Option Addr} {slh csh cslh slth : Array (Option Value)} {vsh : Array Value} {dvh : Value} {fileh : Str} {tfh : Tok} {mh : Nat}
    (yi : PySem.W.findIn K (.ref e0) "__init__" = some (some (.ref fH)))
    (yl : K.lookup fH = some ⟨och, odh, .func (PySem.W.ksFn "__init__" "HouseError.__init__" (hA ⟨r0, r1, r2, r3, r4, r5, r6, r7, r8, r9, r10, r11, r12, r13, r14, r15, r16, u0h⟩) (hB ⟨r0, r1, r2, r3, r4, r5, r6, r7, r8, r9, r10, r11, r12, r13, r14, r15, r16, u0h⟩) hS (.ref TH) kvh doch pmh anh (.ref cdaH) cth ccH), slh⟩)
    (yc : PySem.W.codeIn K (.ref cdaH) "HouseError.__init__" = true) (yq1 : (r5.endLine == r6.line) = true) (yq2 : (r14.endLine == r15.line) = true) (yT : K.lookup TH = some ⟨octh, odth, .seq #[dvh] mh, slth⟩)
    (yd : K.lookup cdaH = some ⟨cclh, cddh, .fields vsh, csh⟩) (ye : vsh[2]? = some (.str fileh tfh)) (yf : ((l.prog.main.file : Str) == fileh) = true) (yg : K.lookup ccH = some ⟨clh, cldh, .cell (some (.ref e0)), cslh⟩)
    (yy : PySem.W.typeIn K (.ref fH) = some (.type "function")) (yfn : PySem.W.fnIn K fH = true) (yj : PySem.W.nsIn K mainGlobals "super" = some none) (yk : (l.prog.main.scope.names.lookup ("super" : Str)).isSome = false) (ym : PySem.W.nsIn K cStatics "thirdparty.any" = some none)
    (yj2 : PySem.W.findIn K (.ref e2) "__init__" = some (some (.ref fH)))
    {odn2 : Option Addr} {cdn2 : ClassData} {sln2 : Array (Option Value)} {nmn2 : Str} {tkn2 : Tok}
    (yx2 : PySem.W.excInitIn K e2 bmV "ValueError.__new__" = true) (yo2 : PySem.W.excOver K e2 bmV = true) (ys2 : PySem.W.findIn K (.ref e2) "__setattr__" = some (some (.builtin "object.__setattr__"))) (yt2 : PySem.W.takerIn K e2 "kind" = some none) (yv2 : PySem.W.mroIn K e2 (.ref e0) = some true) (yw2 : PySem.W.ks_superIn K e2 e0 "__init__" = some (some (.builtin "ValueError.__init__"))) (yr2 : PySem.W.readsIn K e2 (.type "type") = true) (yn2 : PySem.W.findCls K (.ref e2) (.type "type") "__name__" = some (.get (.builtin "getset_descriptor.__get__") (.builtin "type.__name__") (.ref e2) (.type "type"))) (yz2 : K.lookup e2 = some ⟨.type "type", odn2, .cls cdn2, sln2⟩) (yza2 : sln2[2]? = some (some (.str nmn2 tkn2))) (yzb2 : nmn2.length ≤ 5592405) (yzc2 : Txt.lower nmn2 = ("badname" : Str))
    (yj3 : PySem.W.findIn K (.ref e3) "__init__" = some (some (.ref fH)))
    {odn3 : Option Addr} {cdn3 : ClassData} {sln3 : Array (Option Value)} {nmn3 : Str} {tkn3 : Tok}
    (yx3 : PySem.W.excInitIn K e3 bmV "ValueError.__new__" = true) (yo3 : PySem.W.excOver K e3 bmV = true) (ys3 : PySem.W.findIn K (.ref e3) "__setattr__" = some (some (.builtin "object.__setattr__"))) (yt3 : PySem.W.takerIn K e3 "kind" = some none) (yv3 : PySem.W.mroIn K e3 (.ref e0) = some true) (yw3 : PySem.W.ks_superIn K e3 e0 "__init__" = some (some (.builtin "ValueError.__init__"))) (yr3 : PySem.W.readsIn K e3 (.type "type") = true) (yn3 : PySem.W.findCls K (.ref e3) (.type "type") "__name__" = some (.get (.builtin "getset_descriptor.__get__") (.builtin "type.__name__") (.ref e3) (.type "type"))) (yz3 : K.lookup e3 = some ⟨.type "type", odn3, .cls cdn3, sln3⟩) (yza3 : sln3[2]? = some (some (.str nmn3 tkn3))) (yzb3 : nmn3.length ≤ 5592405) (yzc3 : Txt.lower nmn3 = ("badvalue" : Str))
    (yj4 : PySem.W.findIn K (.ref e4) "__init__" = some (some (.ref fH)))
    {odn4 : Option Addr} {cdn4 : ClassData} {sln4 : Array (Option Value)} {nmn4 : Str} {tkn4 : Tok}
    (yx4 : PySem.W.excInitIn K e4 bmV "ValueError.__new__" = true) (yo4 : PySem.W.excOver K e4 bmV = true) (ys4 : PySem.W.findIn K (.ref e4) "__setattr__" = some (some (.builtin "object.__setattr__"))) (yt4 : PySem.W.takerIn K e4 "kind" = some none) (yv4 : PySem.W.mroIn K e4 (.ref e0) = some true) (yw4 : PySem.W.ks_superIn K e4 e0 "__init__" = some (some (.builtin "ValueError.__init__"))) (yr4 : PySem.W.readsIn K e4 (.type "type") = true) (yn4 : PySem.W.findCls K (.ref e4) (.type "type") "__name__" = some (.get (.builtin "getset_descriptor.__get__") (.builtin "type.__name__") (.ref e4) (.type "type"))) (yz4 : K.lookup e4 = some ⟨.type "type", odn4, .cls cdn4, sln4⟩) (yza4 : sln4[2]? = some (some (.str nmn4 tkn4))) (yzb4 : nmn4.length ≤ 5592405) (yzc4 : Txt.lower nmn4 = ("toolong" : Str))
    (yj5 : PySem.W.findIn K (.ref e5) "__init__" = some (some (.ref fH)))
    {odn5 : Option Addr} {cdn5 : ClassData} {sln5 : Array (Option Value)} {nmn5 : Str} {tkn5 : Tok}
    (yx5 : PySem.W.excInitIn K e5 bmV "ValueError.__new__" = true) (yo5 : PySem.W.excOver K e5 bmV = true) (ys5 : PySem.W.findIn K (.ref e5) "__setattr__" = some (some (.builtin "object.__setattr__"))) (yt5 : PySem.W.takerIn K e5 "kind" = some none) (yv5 : PySem.W.mroIn K e5 (.ref e0) = some true) (yw5 : PySem.W.ks_superIn K e5 e0 "__init__" = some (some (.builtin "ValueError.__init__"))) (yr5 : PySem.W.readsIn K e5 (.type "type") = true) (yn5 : PySem.W.findCls K (.ref e5) (.type "type") "__name__" = some (.get (.builtin "getset_descriptor.__get__") (.builtin "type.__name__") (.ref e5) (.type "type"))) (yz5 : K.lookup e5 = some ⟨.type "type", odn5, .cls cdn5, sln5⟩) (yza5 : sln5[2]? = some (some (.str nmn5 tkn5))) (yzb5 : nmn5.length ≤ 5592405) (yzc5 : Txt.lower nmn5 = ("badpiece" : Str))
    (z0 : PySem.W.nsIn K mainGlobals "ValueError" = some none)
    (z1 : PySem.W.nsIn K mainGlobals "all" = some none)
    (z2 : PySem.W.nsIn K mainGlobals "bool" = some none)
    (z3 : PySem.W.nsIn K mainGlobals "dict" = some none)
    (z4 : PySem.W.nsIn K mainGlobals "enumerate" = some none)
    (z5 : PySem.W.nsIn K mainGlobals "int" = some none)
    (z6 : PySem.W.nsIn K mainGlobals "isinstance" = some none)
    (z7 : PySem.W.nsIn K mainGlobals "len" = some none)
    (z8 : PySem.W.nsIn K mainGlobals "list" = some none)
    (z9 : PySem.W.nsIn K mainGlobals "ord" = some none)
    (z10 : PySem.W.nsIn K mainGlobals "range" = some none)
    (z11 : PySem.W.nsIn K mainGlobals "str" = some none)
    (z12 : PySem.W.nsIn K mainGlobals "sum" = some none)
    (v0 : PySem.W.nsIn K mainGlobals "PERCENT" = some (some (.int 37 t1)))
    (v1 : PySem.W.nsIn K mainGlobals "ROW_END" = some (some (.int 10 t2)))
    (v2 : PySem.W.nsIn K mainGlobals "ROW_SIGNS" = some (some (.int 60 t3)))
    (v3 : PySem.W.nsIn K mainGlobals "SIGNS" = some (some (.str MSIGNS t4)))
    (v4 : PySem.W.nsIn K mainGlobals "SIXTY_FOUR" = some (some (.str S64 t5)))
    (v5 : PySem.W.nsIn K mainGlobals "SMALL" = some (some (.str SMALL t6)))
    (v6 : PySem.W.nsIn K mainGlobals "HEADER_WORDS" = some (some (.int 3 t7)))
    (v7 : PySem.W.nsIn K mainGlobals "HEADER_LETTERS" = some (some (.int 8 t8)))
    (v8 : PySem.W.nsIn K mainGlobals "BODY" = some (some (.str (Str.ofString "body") t9)))
    (v9 : PySem.W.nsIn K mainGlobals "PLAIN" = some (some (.str (Str.ofString "plain") t10)))
    (v10 : PySem.W.nsIn K mainGlobals "SIXTEENS" = some (some (.str (Str.ofString "sixteens") t11)))
    (v11 : PySem.W.nsIn K mainGlobals "SIXTY" = some (some (.str (Str.ofString "sixty") t12)))
    (v12 : PySem.W.nsIn K mainGlobals "MOST_PIECES" = some (some (.int 8 t13)))
    (v13 : PySem.W.nsIn K mainGlobals "MOST_DEEP" = some (some (.int 4 t14))) :
    ∃ fd : FuncData, (∀ (s : Shared) (v : Value), BindsTo s fd ⟨[v], []⟩ [("_law_script", v)]) ∧ ∀ base : Heap, K.In base → base.Ns mainGlobals mg → FnOk l.prog w K mg base CX0 9 fa fd ["_law_script"] (spLaw K) := by
  have e := hfa.symm.trans (PySem.W.mg_of X G a48)
  cases e
  have F0 := fun_mk (st := s__law_mixed) l0 c0 k0
  have b0 := F0.binds (ps := ["_law_cell", "_law_k"]) fun _ _ _ _ _ _ us hl => match us, hl with | [_, _], _ => rfl
  have F1 := fun_mk (st := s__law_name) l1 c1 k1
  have b1 := F1.binds (ps := ["_law_n"]) fun _ _ _ _ _ _ us hl => match us, hl with | [_], _ => rfl
  have F2 := fun_mk (st := s__law_signs) l2 c2 k2
  have b2 := F2.binds (ps := []) fun _ _ _ _ _ _ us hl => match us, hl with | [], _ => rfl
  have F3 := fun_mk (st := s__law_word) l3 c3 k3
  have b3 := F3.binds (ps := ["_law_n", "_law_size"]) fun _ _ _ _ _ _ us hl => match us, hl with | [_, _], _ => rfl
  have F4 := fun_mk (st := s__law_value) l4 c4 k4
  have b4 := F4.binds (ps := ["_law_n"]) fun _ _ _ _ _ _ us hl => match us, hl with | [_], _ => rfl
  have F5 := fun_mk (st := s__law_row) l5 c5 k5
  have b5 := F5.binds (ps := ["_law_n", "_law_size"]) fun _ _ _ _ _ _ us hl => match us, hl with | [_, _], _ => rfl
  have F6 := fun_mk (st := s__law_stretch) l6 c6 k6
  have b6 := F6.binds (ps := ["_law_n"]) fun _ _ _ _ _ _ us hl => match us, hl with | [_], _ => rfl
  have F7 := fun_mk (st := s_Header___init__) l7 c7 k7
  have b7 := F7.binds (ps := ["self", "name", "text"]) fun _ _ _ _ _ _ us hl => match us, hl with | [_, _, _], _ => rfl
  have F8 := fun_mk (st := s_own_list) l8 c8 k8
  have b8 := F8.binds (ps := ["thing"]) fun _ _ _ _ _ _ us hl => match us, hl with | [_], _ => rfl
  have F9 := funD_mk (st := s_Piece___init__) l9 c9 k9 lT9
  have b9 := F9.binds1 (ps := ["self", "headers", "row", "pieces"]) 3 1 (by simp) rfl fun _ _ _ _ _ _ _ us its hl hd => match us, its, hl, hd with | [_, _, _], [_, _], _, _ => ⟨_, rfl, rfl⟩
  have F10 := fun_mk (st := s__law_folded) l10 c10 k10
  have b10 := F10.binds (ps := ["_law_name_here", "_law_value_here"]) fun _ _ _ _ _ _ us hl => match us, hl with | [_, _], _ => rfl
  have F11 := fun_mk (st := s__law_plain) l11 c11 k11
  have b11 := F11.binds (ps := ["_law_row_here"]) fun _ _ _ _ _ _ us hl => match us, hl with | [_], _ => rfl
  have F12 := fun_mk (st := s__law_cut) l12 c12 k12
  have b12 := F12.binds (ps := ["_law_units"]) fun _ _ _ _ _ _ us hl => match us, hl with | [_], _ => rfl
  have F13 := fun_mk (st := s__law_unit) l13 c13 k13
  have b13 := F13.binds (ps := ["_law_row_here", "_law_at"]) fun _ _ _ _ _ _ us hl => match us, hl with | [_, _], _ => rfl
  have F14 := fun_mk (st := s__law_sixteens) l14 c14 k14
  have b14 := F14.binds (ps := ["_law_row_here"]) fun _ _ _ _ _ _ us hl => match us, hl with | [_], _ => rfl
  have F15 := fun_mk (st := s__law_sixty) l15 c15 k15
  have b15 := F15.binds (ps := ["_law_row_here"]) fun _ _ _ _ _ _ us hl => match us, hl with | [_], _ => rfl
  have F16 := fun_mk (st := s__law_body) l16 c16 k16
  have b16 := F16.binds (ps := ["_law_row_here"]) fun _ _ _ _ _ _ us hl => match us, hl with | [_], _ => rfl
  have F17 := fun_mk (st := s__law_due) l17 c17 k17
  have b17 := F17.binds (ps := ["_law_pairs", "_law_row_here"]) fun _ _ _ _ _ _ us hl => match us, hl with | [_, _], _ => rfl
  have F18 := fun_mk (st := s_are_headers) l18 c18 k18
  have b18 := F18.binds (ps := ["thing"]) fun _ _ _ _ _ _ us hl => match us, hl with | [_], _ => rfl
  have F19 := fun_mk (st := s_is_number) l19 c19 k19
  have b19 := F19.binds (ps := ["thing"]) fun _ _ _ _ _ _ us hl => match us, hl with | [_], _ => rfl
  have F20 := fun_mk (st := s_is_bytes) l20 c20 k20
  have b20 := F20.binds (ps := ["thing"]) fun _ _ _ _ _ _ us hl => match us, hl with | [_], _ => rfl
  have F21 := fun_mk (st := s_is_piece_at) l21 c21 k21
  have b21 := F21.binds (ps := ["thing", "deep"]) fun _ _ _ _ _ _ us hl => match us, hl with | [_, _], _ => rfl
  have F22 := fun_mk (st := s_is_piece) l22 c22 k22
  have b22 := F22.binds (ps := ["thing"]) fun _ _ _ _ _ _ us hl => match us, hl with | [_], _ => rfl
  have F23 := fun_mk (st := s_is_small_word) l23 c23 k23
  have b23 := F23.binds (ps := ["text", "most"]) fun _ _ _ _ _ _ us hl => match us, hl with | [_, _], _ => rfl
  have F24 := fun_mk (st := s_is_header_name) l24 c24 k24
  have b24 := F24.binds (ps := ["thing"]) fun _ _ _ _ _ _ us hl => match us, hl with | [_], _ => rfl
  have F25 := fun_mk (st := s_is_sign) l25 c25 k25
  have b25 := F25.binds (ps := ["sign"]) fun _ _ _ _ _ _ us hl => match us, hl with | [_], _ => rfl
  have F26 := fun_mk (st := s_is_value) l26 c26 k26
  have b26 := F26.binds (ps := ["thing"]) fun _ _ _ _ _ _ us hl => match us, hl with | [_], _ => rfl
  have F27 := fun_mk (st := s_great_name) l27 c27 k27
  have b27 := F27.binds (ps := ["name"]) fun _ _ _ _ _ _ us hl => match us, hl with | [_], _ => rfl
  have F28 := fun_mk (st := s_goes_into_rows) l28 c28 k28
  have b28 := F28.binds (ps := ["word"]) fun _ _ _ _ _ _ us hl => match us, hl with | [_], _ => rfl
  have F29 := fun_mk (st := s_folded) l29 c29 k29
  have b29 := F29.binds (ps := ["name", "value"]) fun _ _ _ _ _ _ us hl => match us, hl with | [_, _], _ => rfl
  have F30 := fun_mk (st := s_Header_value) l30 c30 k30
  have b30 := F30.binds (ps := ["self"]) fun _ _ _ _ _ _ us hl => match us, hl with | [_], _ => rfl
  have F31 := fun_mk (st := s_lines_of) l31 c31 k31
  have b31 := F31.binds (ps := ["row"]) fun _ _ _ _ _ _ us hl => match us, hl with | [_], _ => rfl
  have F32 := fun_mk (st := s_is_sign_byte) l32 c32 k32
  have b32 := F32.binds (ps := ["byte"]) fun _ _ _ _ _ _ us hl => match us, hl with | [_], _ => rfl
  have F33 := fun_mk (st := s_is_plain_line) l33 c33 k33
  have b33 := F33.binds (ps := ["line"]) fun _ _ _ _ _ _ us hl => match us, hl with | [_], _ => rfl
  have F34 := fun_mk (st := s_sign_of_byte) l34 c34 k34
  have b34 := F34.binds (ps := ["byte"]) fun _ _ _ _ _ _ us hl => match us, hl with | [_], _ => rfl
  have F35 := fun_mk (st := s_figures_of) l35 c35 k35
  have b35 := F35.binds (ps := ["byte"]) fun _ _ _ _ _ _ us hl => match us, hl with | [_], _ => rfl
  have F36 := fun_mk (st := s_part_of) l36 c36 k36
  have b36 := F36.binds (ps := ["byte"]) fun _ _ _ _ _ _ us hl => match us, hl with | [_], _ => rfl
  have F37 := fun_mk (st := s_parts_of) l37 c37 k37
  have b37 := F37.binds (ps := ["line"]) fun _ _ _ _ _ _ us hl => match us, hl with | [_], _ => rfl
  have F38 := fun_mk (st := s_cut) l38 c38 k38
  have b38 := F38.binds (ps := ["parts"]) fun _ _ _ _ _ _ us hl => match us, hl with | [_], _ => rfl
  have F39 := fun_mk (st := s_sixteens_of) l39 c39 k39
  have b39 := F39.binds (ps := ["row"]) fun _ _ _ _ _ _ us hl => match us, hl with | [_], _ => rfl
  have F40 := fun_mk (st := s_four_of) l40 c40 k40
  have b40 := F40.binds (ps := ["row"]) fun _ _ _ _ _ _ us hl => match us, hl with | [_], _ => rfl
  have F41 := fun_mk (st := s_sixty_of) l41 c41 k41
  have b41 := F41.binds (ps := ["row"]) fun _ _ _ _ _ _ us hl => match us, hl with | [_], _ => rfl
  have F42 := fun_mk (st := s_many_signs) l42 c42 k42
  have b42 := F42.binds (ps := ["rows"]) fun _ _ _ _ _ _ us hl => match us, hl with | [_], _ => rfl
  have F43 := fun_mk (st := s_written_bytes) l43 c43 k43
  have b43 := F43.binds (ps := ["row"]) fun _ _ _ _ _ _ us hl => match us, hl with | [_], _ => rfl
  have F44 := fun_mk (st := s_written_pieces) l44 c44 k44
  have b44 := F44.binds (ps := ["pieces"]) fun _ _ _ _ _ _ us hl => match us, hl with | [_], _ => rfl
  have F45 := fun_mk (st := s_written_rows) l45 c45 k45
  have b45 := F45.binds (ps := ["piece"]) fun _ _ _ _ _ _ us hl => match us, hl with | [_], _ => rfl
  have F46 := fun_mk (st := s_piece_rows) l46 c46 k46
  have b46 := F46.binds (ps := ["piece"]) fun _ _ _ _ _ _ us hl => match us, hl with | [_], _ => rfl
  have F47 := fun_mk (st := s__law_word_of) l47 c47 k47
  have b47 := F47.binds (ps := ["_law_piece"]) fun _ _ _ _ _ _ us hl => match us, hl with | [_], _ => rfl
  have F48 := fun_mk (st := s_law) l48 c48 k48
  have T : Tx mg (fun i => [t1, t2, t3, t4, t5, t6, t7, t8, t9, t10, t11, t12, t13, t14].getD i t1) := ⟨PySem.W.mg_none_of X G z0, PySem.W.mg_none_of X G z1, PySem.W.mg_none_of X G z2, PySem.W.mg_none_of X G z3, PySem.W.mg_none_of X G z4, PySem.W.mg_none_of X G z5, PySem.W.mg_none_of X G z6, PySem.W.mg_none_of X G z7, PySem.W.mg_none_of X G z8, PySem.W.mg_none_of X G z9, PySem.W.mg_none_of X G z10, PySem.W.mg_none_of X G z11, PySem.W.mg_none_of X G z12, PySem.W.mg_of X G v0, PySem.W.mg_of X G v1, PySem.W.mg_of X G v2, PySem.W.mg_of X G v3, PySem.W.mg_of X G v4, PySem.W.mg_of X G v5, PySem.W.mg_of X G v6, PySem.W.mg_of X G v7, PySem.W.mg_of X G v8, PySem.W.mg_of X G v9, PySem.W.mg_of X G v10, PySem.W.mg_of X G v11, PySem.W.mg_of X G v12, PySem.W.mg_of X G v13⟩
  have KHeader : Cls K cHeader := ⟨pgHeader, hdHeader, poHeader, saHeader⟩
  have RHeader : Hc K mg cHeader := ⟨⟨KHeader, jaHeader, jbHeader, jcHeader, jdHeader, kit_ref jeHeader jfHeader jgHeader (.inr rfl)⟩, PySem.W.mg_of X G mHeader, naHeader0, naHeader1⟩
  have KPiece : Cls K cPiece := ⟨pgPiece, hdPiece, poPiece, saPiece⟩
  have RPiece : Pc K mg cPiece := ⟨⟨KPiece, jaPiece, jbPiece, jcPiece, jdPiece, kit_ref jePiece jfPiece jgPiece (.inr rfl)⟩, PySem.W.mg_of X G mPiece, naPiece0, naPiece1, naPiece2⟩
  have E : Ex K mg (fun i => [e0, e1, e2, e3, e4, e5, e6, e7].getD i e0) := ⟨PySem.W.mg_of X G m0, PySem.W.mg_of X G m1, PySem.W.mg_of X G m2, PySem.W.mg_of X G m3, PySem.W.mg_of X G m4, PySem.W.mg_of X G m5, PySem.W.mg_of X G m6, PySem.W.mg_of X G m7, ⟨⟨x0_2, x1_2, x2_2, x3_2, x4_2, x5_2, x6_2, x7_2⟩, exm_ref hb0 ic0 tp0 fi2, kit_base ba2⟩, ⟨rfl, fun j hj => match j, hj with | 0, _ => kit_ref ic1 tp1 ki2_0 (.inl nq2_0) | 1, _ => kit_ref ic2 tp2 ki2_1 (.inr rfl) | 2, _ => kit_ref ic3 tp3 ki2_2 (.inl nq2_2) | 3, _ => kit_ref ic4 tp4 ki2_3 (.inl nq2_3) | 4, _ => kit_ref ic5 tp5 ki2_4 (.inl nq2_4) | 5, _ => kit_ref ic6 tp6 ki2_5 (.inl nq2_5) | 6, _ => kit_ref ic7 tp7 ki2_6 (.inl nq2_6) | n + 7, h => absurd h (by omega)⟩, ⟨⟨x0_3, x1_3, x2_3, x3_3, x4_3, x5_3, x6_3, x7_3⟩, exm_ref hb0 ic0 tp0 fi3, kit_base ba3⟩, ⟨rfl, fun j hj => match j, hj with | 0, _ => kit_ref ic1 tp1 ki3_0 (.inl nq3_0) | 1, _ => kit_ref ic2 tp2 ki3_1 (.inl nq3_1) | 2, _ => kit_ref ic3 tp3 ki3_2 (.inr rfl) | 3, _ => kit_ref ic4 tp4 ki3_3 (.inl nq3_3) | 4, _ => kit_ref ic5 tp5 ki3_4 (.inl nq3_4) | 5, _ => kit_ref ic6 tp6 ki3_5 (.inl nq3_5) | 6, _ => kit_ref ic7 tp7 ki3_6 (.inl nq3_6) | n + 7, h => absurd h (by omega)⟩, ⟨⟨x0_4, x1_4, x2_4, x3_4, x4_4, x5_4, x6_4, x7_4⟩, exm_ref hb0 ic0 tp0 fi4, kit_base ba4⟩, ⟨rfl, fun j hj => match j, hj with | 0, _ => kit_ref ic1 tp1 ki4_0 (.inl nq4_0) | 1, _ => kit_ref ic2 tp2 ki4_1 (.inl nq4_1) | 2, _ => kit_ref ic3 tp3 ki4_2 (.inl nq4_2) | 3, _ => kit_ref ic4 tp4 ki4_3 (.inr rfl) | 4, _ => kit_ref ic5 tp5 ki4_4 (.inl nq4_4) | 5, _ => kit_ref ic6 tp6 ki4_5 (.inl nq4_5) | 6, _ => kit_ref ic7 tp7 ki4_6 (.inl nq4_6) | n + 7, h => absurd h (by omega)⟩, ⟨⟨x0_5, x1_5, x2_5, x3_5, x4_5, x5_5, x6_5, x7_5⟩, exm_ref hb0 ic0 tp0 fi5, kit_base ba5⟩, ⟨rfl, fun j hj => match j, hj with | 0, _ => kit_ref ic1 tp1 ki5_0 (.inl nq5_0) | 1, _ => kit_ref ic2 tp2 ki5_1 (.inl nq5_1) | 2, _ => kit_ref ic3 tp3 ki5_2 (.inl nq5_2) | 3, _ => kit_ref ic4 tp4 ki5_3 (.inl nq5_3) | 4, _ => kit_ref ic5 tp5 ki5_4 (.inr rfl) | 5, _ => kit_ref ic6 tp6 ki5_5 (.inl nq5_5) | 6, _ => kit_ref ic7 tp7 ki5_6 (.inl nq5_6) | n + 7, h => absurd h (by omega)⟩⟩
  have WC_BadName : HeC l.prog K mg "BadName" e2 e0 fH ccH cdaH "badname" := ⟨(⟨yx2, yo2, ys2, yt2, x3_2, yy, ⟨_, _, _, _, _, _, _, _, ⟨r0, r1, r2, r3, r4, r5, r6, r7, r8, r9, r10, r11, r12, r13, r14, r15, r16, u0h⟩, _, _, _, _, yl, yc, yq1, yq2, yT, rfl⟩, ⟨_, _, _, _, _, _, yd, ye, yf⟩, ⟨_, _, _, yg⟩, ic0, yv2, yj, yk, ym, yw2, ba2, ⟨x0_2, x1_2, x2_2, x3_2, x4_2, x5_2, x6_2, x7_2⟩, ic2, yr2, yn2, ⟨_, _, _, _, _, yz2, yza2, yzb2, yzc2⟩⟩ : HeTxt l.prog K e2 e0 fH ccH cdaH "badname"), yj2, PySem.W.mg_of X G m2, kp2, sb2, ty2⟩
  have WC_BadValue : HeC l.prog K mg "BadValue" e3 e0 fH ccH cdaH "badvalue" := ⟨(⟨yx3, yo3, ys3, yt3, x3_3, yy, ⟨_, _, _, _, _, _, _, _, ⟨r0, r1, r2, r3, r4, r5, r6, r7, r8, r9, r10, r11, r12, r13, r14, r15, r16, u0h⟩, _, _, _, _, yl, yc, yq1, yq2, yT, rfl⟩, ⟨_, _, _, _, _, _, yd, ye, yf⟩, ⟨_, _, _, yg⟩, ic0, yv3, yj, yk, ym, yw3, ba3, ⟨x0_3, x1_3, x2_3, x3_3, x4_3, x5_3, x6_3, x7_3⟩, ic3, yr3, yn3, ⟨_, _, _, _, _, yz3, yza3, yzb3, yzc3⟩⟩ : HeTxt l.prog K e3 e0 fH ccH cdaH "badvalue"), yj3, PySem.W.mg_of X G m3, kp3, sb3, ty3⟩
  have WC_TooLong : HeC l.prog K mg "TooLong" e4 e0 fH ccH cdaH "toolong" := ⟨(⟨yx4, yo4, ys4, yt4, x3_4, yy, ⟨_, _, _, _, _, _, _, _, ⟨r0, r1, r2, r3, r4, r5, r6, r7, r8, r9, r10, r11, r12, r13, r14, r15, r16, u0h⟩, _, _, _, _, yl, yc, yq1, yq2, yT, rfl⟩, ⟨_, _, _, _, _, _, yd, ye, yf⟩, ⟨_, _, _, yg⟩, ic0, yv4, yj, yk, ym, yw4, ba4, ⟨x0_4, x1_4, x2_4, x3_4, x4_4, x5_4, x6_4, x7_4⟩, ic4, yr4, yn4, ⟨_, _, _, _, _, yz4, yza4, yzb4, yzc4⟩⟩ : HeTxt l.prog K e4 e0 fH ccH cdaH "toolong"), yj4, PySem.W.mg_of X G m4, kp4, sb4, ty4⟩
  have WC_BadPiece : HeC l.prog K mg "BadPiece" e5 e0 fH ccH cdaH "badpiece" := ⟨(⟨yx5, yo5, ys5, yt5, x3_5, yy, ⟨_, _, _, _, _, _, _, _, ⟨r0, r1, r2, r3, r4, r5, r6, r7, r8, r9, r10, r11, r12, r13, r14, r15, r16, u0h⟩, _, _, _, _, yl, yc, yq1, yq2, yT, rfl⟩, ⟨_, _, _, _, _, _, yd, ye, yf⟩, ⟨_, _, _, yg⟩, ic0, yv5, yj, yk, ym, yw5, ba5, ⟨x0_5, x1_5, x2_5, x3_5, x4_5, x5_5, x6_5, x7_5⟩, ic5, yr5, yn5, ⟨_, _, _, _, _, yz5, yza5, yzb5, yzc5⟩⟩ : HeTxt l.prog K e5 e0 fH ccH cdaH "badpiece"), yj5, PySem.W.mg_of X G m5, kp5, sb5, ty5⟩
  refine ⟨PySem.W.fnOf "law" "law" (defArgs s_law) (defBody s_law) (defScope s_law) .none kV48 dc48 pm48 an48 cd48 ct48, fun s v => .of_eq rfl, fun base _ _ => ?_⟩
  have D0 : Def l.prog w K mg base "_law_mixed" 1 f0 _ ["_law_cell", "_law_k"] sp_mixed := ⟨ok_mixed F0, PySem.W.mg_of X G a0, F0.kp, b0⟩
  have D1 : Def l.prog w K mg base "_law_name" 2 f1 _ ["_law_n"] sp_lname := ⟨ok_lname F1 T D0, PySem.W.mg_of X G a1, F1.kp, b1⟩
  have D2 : Def l.prog w K mg base "_law_signs" 1 f2 _ [] sp_signs := ⟨ok_signs F2, PySem.W.mg_of X G a2, F2.kp, b2⟩
  have D3 : Def l.prog w K mg base "_law_word" 2 f3 _ ["_law_n", "_law_size"] sp_lword := ⟨ok_lword F3 T D0 D2, PySem.W.mg_of X G a3, F3.kp, b3⟩
  have D4 : Def l.prog w K mg base "_law_value" 3 f4 _ ["_law_n"] sp_lvalue := ⟨ok_lvalue F4 T D0 D3, PySem.W.mg_of X G a4, F4.kp, b4⟩
  have D5 : Def l.prog w K mg base "_law_row" 2 f5 _ ["_law_n", "_law_size"] sp_lrow := ⟨ok_lrow F5 T D0 D2, PySem.W.mg_of X G a5, F5.kp, b5⟩
  have D6 : Def l.prog w K mg base "_law_stretch" 3 f6 _ ["_law_n"] sp_stretch := ⟨ok_stretch F6 T D0 D5, PySem.W.mg_of X G a6, F6.kp, b6⟩
  have D7 : DefC l.prog w K mg base "Header" cHeader 1 f7 _ ["self", "name", "text"] (sp_hinit cHeader) := ⟨⟨mkHeader, a7, fn7, kpHeader⟩, ok_hinit F7 RHeader, PySem.W.mg_of X G mHeader, b7⟩
  have D8 : Def l.prog w K mg base "own_list" 1 f8 _ ["thing"] sp_own := ⟨ok_own F8 T, PySem.W.mg_of X G a8, F8.kp, b8⟩
  have D9 : DefCd l.prog w K mg base "Piece" cPiece 2 f9 _ ["self", "headers", "row", "pieces"] [.non] (sp_pinit cPiece) := ⟨⟨mkPiece, a9, fn9, kpPiece⟩, ok_pinit F9 RPiece D8, PySem.W.mg_of X G mPiece, b9⟩
  have D10 : Def l.prog w K mg base "_law_folded" 1 f10 _ ["_law_name_here", "_law_value_here"] sp_lfolded := ⟨ok_lfolded F10 T, PySem.W.mg_of X G a10, F10.kp, b10⟩
  have D11 : Def l.prog w K mg base "_law_plain" 2 f11 _ ["_law_row_here"] sp_lplain := ⟨ok_lplain F11 T D2, PySem.W.mg_of X G a11, F11.kp, b11⟩
  have D12 : Def l.prog w K mg base "_law_cut" 1 f12 _ ["_law_units"] sp_cut := ⟨ok_lcut F12 T, PySem.W.mg_of X G a12, F12.kp, b12⟩
  have D13 : Def l.prog w K mg base "_law_unit" 2 f13 _ ["_law_row_here", "_law_at"] sp_lunit := ⟨ok_lunit F13 T D2, PySem.W.mg_of X G a13, F13.kp, b13⟩
  have D14 : Def l.prog w K mg base "_law_sixteens" 3 f14 _ ["_law_row_here"] sp_sixteens := ⟨ok_lsixteens F14 T D12 D13, PySem.W.mg_of X G a14, F14.kp, b14⟩
  have D15 : Def l.prog w K mg base "_law_sixty" 1 f15 _ ["_law_row_here"] sp_lsixty := ⟨ok_lsixty F15 T, PySem.W.mg_of X G a15, F15.kp, b15⟩
  have D16 : Def l.prog w K mg base "_law_body" 4 f16 _ ["_law_row_here"] sp_lbody := ⟨ok_lbody F16 T D11 D14 D15, PySem.W.mg_of X G a16, F16.kp, b16⟩
  have D17 : Def l.prog w K mg base "_law_due" 5 f17 _ ["_law_pairs", "_law_row_here"] sp_ldue := ⟨ok_ldue F17 T D10 D16, PySem.W.mg_of X G a17, F17.kp, b17⟩
  have D18 : Def l.prog w K mg base "are_headers" 1 f18 _ ["thing"] (sp_are cHeader) := ⟨ok_are F18 T RHeader, PySem.W.mg_of X G a18, F18.kp, b18⟩
  have D19 : Def l.prog w K mg base "is_number" 1 f19 _ ["thing"] sp_is_number := ⟨ok_is_number F19 T, PySem.W.mg_of X G a19, F19.kp, b19⟩
  have D20 : Def l.prog w K mg base "is_bytes" 2 f20 _ ["thing"] (sp_is_bytesG K) := ⟨ok_is_bytesG F20 T D19, PySem.W.mg_of X G a20, F20.kp, b20⟩
  have DR20 : Def l.prog w K mg base "is_bytes" 2 f20 _ ["thing"] sp_is_bytes := ⟨ok_is_bytes D20.ok, PySem.W.mg_of X G a20, F20.kp, b20⟩
  have D21 : Def l.prog w K mg base "is_piece_at" 3 f21 _ ["thing", "deep"] (sp_piece_at cPiece cHeader) := ⟨ok_piece_at F21 T RPiece D18 DR20 ⟨fn_never, PySem.W.mg_of X G a21, F21.kp, b21⟩, PySem.W.mg_of X G a21, F21.kp, b21⟩
  have D22 : Def l.prog w K mg base "is_piece" 4 f22 _ ["thing"] (sp_is_piece cPiece cHeader) := ⟨ok_is_piece F22 T D21, PySem.W.mg_of X G a22, F22.kp, b22⟩
  have D23 : Def l.prog w K mg base "is_small_word" 1 f23 _ ["text", "most"] sp_small_word := ⟨ok_small_word F23 T, PySem.W.mg_of X G a23, F23.kp, b23⟩
  have D24 : Def l.prog w K mg base "is_header_name" 2 f24 _ ["thing"] (sp_header_name K) := ⟨ok_header_name F24 T D23, PySem.W.mg_of X G a24, F24.kp, b24⟩
  have D25 : Def l.prog w K mg base "is_sign" 1 f25 _ ["sign"] sp_is_sign := ⟨ok_is_sign F25 T, PySem.W.mg_of X G a25, F25.kp, b25⟩
  have D26 : Def l.prog w K mg base "is_value" 2 f26 _ ["thing"] (sp_value K) := ⟨ok_value F26 T D25, PySem.W.mg_of X G a26, F26.kp, b26⟩
  have D27 : Def l.prog w K mg base "great_name" 1 f27 _ ["name"] sp_great := ⟨ok_great F27, PySem.W.mg_of X G a27, F27.kp, b27⟩
  have D28 : Def l.prog w K mg base "goes_into_rows" 1 f28 _ ["word"] sp_goes := ⟨ok_goes F28 T, PySem.W.mg_of X G a28, F28.kp, b28⟩
  have D29 : Def l.prog w K mg base "folded" 3 f29 _ ["name", "value"] sp_folded := ⟨ok_folded F29 T D24 D26 D27 D28, PySem.W.mg_of X G a29, F29.kp, b29⟩
  have DX29 : DefX l.prog w K mg base "folded" 3 f29 _ ["name", "value"] (sp_foldedA (fun i => [e0, e1, e2, e3, e4, e5, e6, e7].getD i e0)) := ⟨fn_or (ok_foldedX (ca := (fun i => [e0, e1, e2, e3, e4, e5, e6, e7].getD i e0)) F29 T WC_BadName WC_BadValue WC_TooLong D24 D26 D27 D28) (fn_toX (ok_folded F29 T D24 D26 D27 D28)), PySem.W.mg_of X G a29, F29.kp, b29⟩
  have D30 : DefM l.prog w K mg base cHeader "value" 1 f30 _ ["self"] (sp_hvalue cHeader) := ⟨KHeader, ⟨a30, fn30, k30⟩, ok_hvalue F30 RHeader, b30⟩
  have D31 : Def l.prog w K mg base "lines_of" 1 f31 _ ["row"] sp_lines := ⟨ok_lines F31 T, PySem.W.mg_of X G a31, F31.kp, b31⟩
  have D32 : Def l.prog w K mg base "is_sign_byte" 1 f32 _ ["byte"] sp_sign_byte := ⟨ok_sign_byte F32 T, PySem.W.mg_of X G a32, F32.kp, b32⟩
  have D33 : Def l.prog w K mg base "is_plain_line" 2 f33 _ ["line"] sp_plain := ⟨ok_plain F33 T D32, PySem.W.mg_of X G a33, F33.kp, b33⟩
  have D34 : Def l.prog w K mg base "sign_of_byte" 1 f34 _ ["byte"] sp_sign_of := ⟨ok_sign_of F34 T, PySem.W.mg_of X G a34, F34.kp, b34⟩
  have D35 : Def l.prog w K mg base "figures_of" 1 f35 _ ["byte"] sp_figures := ⟨ok_figures F35, PySem.W.mg_of X G a35, F35.kp, b35⟩
  have D36 : Def l.prog w K mg base "part_of" 2 f36 _ ["byte"] sp_part_of := ⟨ok_part_of F36 T D32 D34 D35, PySem.W.mg_of X G a36, F36.kp, b36⟩
  have D37 : Def l.prog w K mg base "parts_of" 3 f37 _ ["line"] sp_parts_of := ⟨ok_parts_of F37 T D36 D35, PySem.W.mg_of X G a37, F37.kp, b37⟩
  have D38 : Def l.prog w K mg base "cut" 1 f38 _ ["parts"] sp_cut := ⟨ok_cut F38 T, PySem.W.mg_of X G a38, F38.kp, b38⟩
  have D39 : Def l.prog w K mg base "sixteens_of" 4 f39 _ ["row"] sp_sixteens := ⟨ok_sixteens F39 T DR20 D31 D37 D38, PySem.W.mg_of X G a39, F39.kp, b39⟩
  have D40 : Def l.prog w K mg base "four_of" 1 f40 _ ["row"] sp_four_of := ⟨ok_four_of F40 T, PySem.W.mg_of X G a40, F40.kp, b40⟩
  have D41 : Def l.prog w K mg base "sixty_of" 3 f41 _ ["row"] (sp_sixty_of ptext) := ⟨ok_sixty_of F41 T D20 D40, PySem.W.mg_of X G a41, F41.kp, b41⟩
  have D42 : Def l.prog w K mg base "many_signs" 1 f42 _ ["rows"] sp_many := ⟨ok_many F42 T, PySem.W.mg_of X G a42, F42.kp, b42⟩
  have D43 : Def l.prog w K mg base "written_bytes" 5 f43 _ ["row"] sp_wbytes := ⟨ok_wbytes F43 T D31 D33 D34 D39 D41 D42, PySem.W.mg_of X G a43, F43.kp, b43⟩
  have D44 : Def l.prog w K mg base "written_pieces" 1 f44 _ ["pieces"] sp_never := ⟨ok_wpieces F44, PySem.W.mg_of X G a44, F44.kp, b44⟩
  have D45 : Def l.prog w K mg base "written_rows" 6 f45 _ ["piece"] (sp_written cPiece cHeader) := ⟨ok_written F45 T RHeader RPiece D29 D30 D43 ⟨fn_never, PySem.W.mg_of X G a44, F44.kp, b44⟩, PySem.W.mg_of X G a45, F45.kp, b45⟩
  have DX45 : DefX l.prog w K mg base "written_rows" 6 f45 _ ["piece"] (sp_writtenX (fun i => [e0, e1, e2, e3, e4, e5, e6, e7].getD i e0) cPiece cHeader) := ⟨ok_writtenX (ca := (fun i => [e0, e1, e2, e3, e4, e5, e6, e7].getD i e0)) F45 T RHeader RPiece DX29 D30 D43 ⟨fn_never, PySem.W.mg_of X G a44, F44.kp, b44⟩, PySem.W.mg_of X G a45, F45.kp, b45⟩
  have D46 : Def l.prog w K mg base "piece_rows" 7 f46 _ ["piece"] (sp_piece_rows cPiece cHeader) := ⟨ok_piece_rows F46 D22 D45, PySem.W.mg_of X G a46, F46.kp, b46⟩
  have DX46 : DefX l.prog w K mg base "piece_rows" 7 f46 _ ["piece"] (sp_piece_rowsX (fun i => [e0, e1, e2, e3, e4, e5, e6, e7].getD i e0) cPiece cHeader) := ⟨ok_piece_rowsX (ca := (fun i => [e0, e1, e2, e3, e4, e5, e6, e7].getD i e0)) F46 WC_BadPiece D22 DX45, PySem.W.mg_of X G a46, F46.kp, b46⟩
  have D47 : Def l.prog w K mg base "_law_word_of" 8 f47 _ ["_law_piece"] (sp_lwordof cPiece cHeader) := ⟨ok_lwordof (ca := (fun i => [e0, e1, e2, e3, e4, e5, e6, e7].getD i e0)) F47 T E DX46, PySem.W.mg_of X G a47, F47.kp, b47⟩
  exact ok_law F48 T RHeader RPiece D0 D1 D4 D6 D7 D9 D17 D46 D3 D47
end K20
open PySem PySem.W PyProof.Rows
set_option maxHeartbeats 0 in
theorem PySem.Challenge.cw_letterhouse_k20_pieces_of_bytes_written_holds : PySem.Challenge.rw_letterhouse_k20_pieces_of_bytes_written.Holds := by
  w_on; o_law; k_head; (case hw => w_witness2)
  k_fill
  refine L2.walk_of (l := PySem.Challenge.rw_letterhouse_k20_pieces_of_bytes_written) (n := 63) (k := 9) (x := "_law_script") (CX := fun _ => L2.CX0) (sp := fun w => K20.spLaw _) rfl (by decide) rfl ⟨rfl, by decide, by decide⟩ (fun w h Y => PySem.W.kIn_of Y) ?F (fun _ _ a ns hl _ hS => ⟨a, ns, rfl, hS, hl, fun _ => rfl⟩) (fun _ _ _ _ _ h => h)
  case F =>
    intro w mg fa h KX G hmg
    refine' K20.all_mk KX G hmg ?mHeader ?pgHeader ?hdHeader ?poHeader ?saHeader ?mkHeader ?kpHeader ?naHeader0 ?naHeader1 ?jaHeader ?jbHeader ?jcHeader ?jdHeader ?jeHeader ?jfHeader ?jgHeader ?mPiece ?pgPiece ?hdPiece ?poPiece ?saPiece ?mkPiece ?kpPiece ?naPiece0 ?naPiece1 ?naPiece2 ?jaPiece ?jbPiece ?jcPiece ?jdPiece ?jePiece ?jfPiece ?jgPiece ?a0 ?l0 ?c0 ?k0 ?a1 ?l1 ?c1 ?k1 ?a2 ?l2 ?c2 ?k2 ?a3 ?l3 ?c3 ?k3 ?a4 ?l4 ?c4 ?k4 ?a5 ?l5 ?c5 ?k5 ?a6 ?l6 ?c6 ?k6 ?a7 ?fn7 ?l7 ?c7 ?k7 ?a8 ?l8 ?c8 ?k8 ?a9 ?fn9 ?l9 ?c9 ?k9 ?lT9 ?a10 ?l10 ?c10 ?k10 ?a11 ?l11 ?c11 ?k11 ?a12 ?l12 ?c12 ?k12 ?a13 ?l13 ?c13 ?k13 ?a14 ?l14 ?c14 ?k14 ?a15 ?l15 ?c15 ?k15 ?a16 ?l16 ?c16 ?k16 ?a17 ?l17 ?c17 ?k17 ?a18 ?l18 ?c18 ?k18 ?a19 ?l19 ?c19 ?k19 ?a20 ?l20 ?c20 ?k20 ?a21 ?l21 ?c21 ?k21 ?a22 ?l22 ?c22 ?k22 ?a23 ?l23 ?c23 ?k23 ?a24 ?l24 ?c24 ?k24 ?a25 ?l25 ?c25 ?k25 ?a26 ?l26 ?c26 ?k26 ?a27 ?l27 ?c27 ?k27 ?a28 ?l28 ?c28 ?k28 ?a29 ?l29 ?c29 ?k29 ?a30 ?fn30 ?l30 ?c30 ?k30 ?a31 ?l31 ?c31 ?k31 ?a32 ?l32 ?c32 ?k32 ?a33 ?l33 ?c33 ?k33 ?a34 ?l34 ?c34 ?k34 ?a35 ?l35 ?c35 ?k35 ?a36 ?l36 ?c36 ?k36 ?a37 ?l37 ?c37 ?k37 ?a38 ?l38 ?c38 ?k38 ?a39 ?l39 ?c39 ?k39 ?a40 ?l40 ?c40 ?k40 ?a41 ?l41 ?c41 ?k41 ?a42 ?l42 ?c42 ?k42 ?a43 ?l43 ?c43 ?k43 ?a44 ?l44 ?c44 ?k44 ?a45 ?l45 ?c45 ?k45 ?a46 ?l46 ?c46 ?k46 ?a47 ?l47 ?c47 ?k47 ?a48 ?l48 ?c48 ?k48 ?m0 ?m1 ?m2 ?m3 ?m4 ?m5 ?m6 ?m7 ?ic0 ?tp0 ?ic1 ?tp1 ?ic2 ?tp2 ?ic3 ?tp3 ?ic4 ?tp4 ?ic5 ?tp5 ?ic6 ?tp6 ?ic7 ?tp7 ?hb0 ?kp2 ?sb2 ?ty2 ?x0_2 ?x1_2 ?x2_2 ?x3_2 ?x4_2 ?x5_2 ?x6_2 ?x7_2 ?fi2 ?ba2 ?ki2_0 ?nq2_0 ?ki2_1 ?ki2_2 ?nq2_2 ?ki2_3 ?nq2_3 ?ki2_4 ?nq2_4 ?ki2_5 ?nq2_5 ?ki2_6 ?nq2_6 ?kp3 ?sb3 ?ty3 ?x0_3 ?x1_3 ?x2_3 ?x3_3 ?x4_3 ?x5_3 ?x6_3 ?x7_3 ?fi3 ?ba3 ?ki3_0 ?nq3_0 ?ki3_1 ?nq3_1 ?ki3_2 ?ki3_3 ?nq3_3 ?ki3_4 ?nq3_4 ?ki3_5 ?nq3_5 ?ki3_6 ?nq3_6 ?kp4 ?sb4 ?ty4 ?x0_4 ?x1_4 ?x2_4 ?x3_4 ?x4_4 ?x5_4 ?x6_4 ?x7_4 ?fi4 ?ba4 ?ki4_0 ?nq4_0 ?ki4_1 ?nq4_1 ?ki4_2 ?nq4_2 ?ki4_3 ?ki4_4 ?nq4_4 ?ki4_5 ?nq4_5 ?ki4_6 ?nq4_6 ?kp5 ?sb5 ?ty5 ?x0_5 ?x1_5 ?x2_5 ?x3_5 ?x4_5 ?x5_5 ?x6_5 ?x7_5 ?fi5 ?ba5 ?ki5_0 ?nq5_0 ?ki5_1 ?nq5_1 ?ki5_2 ?nq5_2 ?ki5_3 ?nq5_3 ?ki5_4 ?ki5_5 ?nq5_5 ?ki5_6 ?nq5_6 ?yi ?yl ?yc ?yq1 ?yq2 ?yT ?yd ?ye ?yf ?yg ?yy ?yfn ?yj ?yk ?ym ?yj2 ?yx2 ?yo2 ?ys2 ?yt2 ?yv2 ?yw2 ?yr2 ?yn2 ?yz2 ?yza2 ?yzb2 ?yzc2 ?yj3 ?yx3 ?yo3 ?ys3 ?yt3 ?yv3 ?yw3 ?yr3 ?yn3 ?yz3 ?yza3 ?yzb3 ?yzc3 ?yj4 ?yx4 ?yo4 ?ys4 ?yt4 ?yv4 ?yw4 ?yr4 ?yn4 ?yz4 ?yza4 ?yzb4 ?yzc4 ?yj5 ?yx5 ?yo5 ?ys5 ?yt5 ?yv5 ?yw5 ?yr5 ?yn5 ?yz5 ?yza5 ?yzb5 ?yzc5 ?z0 ?z1 ?z2 ?z3 ?z4 ?z5 ?z6 ?z7 ?z8 ?z9 ?z10 ?z11 ?z12 ?v0 ?v1 ?v2 ?v3 ?v4 ?v5 ?v6 ?v7 ?v8 ?v9 ?v10 ?v11 ?v12 ?v13
    (case mHeader => k_is); (case pgHeader => k_is); (case hdHeader => k_is); (case poHeader => k_is); (case saHeader => k_is); (case mkHeader => k_is); (case kpHeader => k_is); (case naHeader0 => k_is); (case naHeader1 => k_is); (case jaHeader => k_is); (case jbHeader => k_is); (case jcHeader => k_is); (case jdHeader => k_is); (case jeHeader => k_is); (case jfHeader => k_is); (case jgHeader => k_is); (case mPiece => k_is); (case pgPiece => k_is); (case hdPiece => k_is); (case poPiece => k_is); (case saPiece => k_is); (case mkPiece => k_is); (case kpPiece => k_is); (case naPiece0 => k_is); (case naPiece1 => k_is); (case naPiece2 => k_is); (case jaPiece => k_is); (case jbPiece => k_is); (case jcPiece => k_is); (case jdPiece => k_is); (case jePiece => k_is); (case jfPiece => k_is); (case jgPiece => k_is); (case a0 => k_is); (case l0 => k_is); (case c0 => k_is); (case k0 => k_is); (case a1 => k_is); (case l1 => k_is); (case c1 => k_is); (case k1 => k_is); (case a2 => k_is); (case l2 => k_is); (case c2 => k_is); (case k2 => k_is); (case a3 => k_is); (case l3 => k_is); (case c3 => k_is); (case k3 => k_is); (case a4 => k_is); (case l4 => k_is); (case c4 => k_is); (case k4 => k_is); (case a5 => k_is); (case l5 => k_is); (case c5 => k_is); (case k5 => k_is); (case a6 => k_is); (case l6 => k_is); (case c6 => k_is); (case k6 => k_is); (case a7 => k_is); (case fn7 => k_is); (case l7 => k_is); (case c7 => k_is); (case k7 => k_is); (case a8 => k_is); (case l8 => k_is); (case c8 => k_is); (case k8 => k_is); (case a9 => k_is); (case fn9 => k_is); (case l9 => k_is); (case c9 => k_is); (case k9 => k_is); (case lT9 => k_is); (case a10 => k_is); (case l10 => k_is); (case c10 => k_is); (case k10 => k_is); (case a11 => k_is); (case l11 => k_is); (case c11 => k_is); (case k11 => k_is); (case a12 => k_is); (case l12 => k_is); (case c12 => k_is); (case k12 => k_is); (case a13 => k_is); (case l13 => k_is); (case c13 => k_is); (case k13 => k_is); (case a14 => k_is); (case l14 => k_is); (case c14 => k_is); (case k14 => k_is); (case a15 => k_is); (case l15 => k_is); (case c15 => k_is); (case k15 => k_is); (case a16 => k_is); (case l16 => k_is); (case c16 => k_is); (case k16 => k_is); (case a17 => k_is); (case l17 => k_is); (case c17 => k_is); (case k17 => k_is); (case a18 => k_is); (case l18 => k_is); (case c18 => k_is); (case k18 => k_is); (case a19 => k_is); (case l19 => k_is); (case c19 => k_is); (case k19 => k_is); (case a20 => k_is); (case l20 => k_is); (case c20 => k_is); (case k20 => k_is); (case a21 => k_is); (case l21 => k_is); (case c21 => k_is); (case k21 => k_is); (case a22 => k_is); (case l22 => k_is); (case c22 => k_is); (case k22 => k_is); (case a23 => k_is); (case l23 => k_is); (case c23 => k_is); (case k23 => k_is); (case a24 => k_is); (case l24 => k_is); (case c24 => k_is); (case k24 => k_is); (case a25 => k_is); (case l25 => k_is); (case c25 => k_is); (case k25 => k_is); (case a26 => k_is); (case l26 => k_is); (case c26 => k_is); (case k26 => k_is); (case a27 => k_is); (case l27 => k_is); (case c27 => k_is); (case k27 => k_is); (case a28 => k_is); (case l28 => k_is); (case c28 => k_is); (case k28 => k_is); (case a29 => k_is); (case l29 => k_is); (case c29 => k_is); (case k29 => k_is); (case a30 => k_is); (case fn30 => k_is); (case l30 => k_is); (case c30 => k_is); (case k30 => k_is); (case a31 => k_is); (case l31 => k_is); (case c31 => k_is); (case k31 => k_is); (case a32 => k_is); (case l32 => k_is); (case c32 => k_is); (case k32 => k_is); (case a33 => k_is); (case l33 => k_is); (case c33 => k_is); (case k33 => k_is); (case a34 => k_is); (case l34 => k_is); (case c34 => k_is); (case k34 => k_is); (case a35 => k_is); (case l35 => k_is); (case c35 => k_is); (case k35 => k_is); (case a36 => k_is); (case l36 => k_is); (case c36 => k_is); (case k36 => k_is); (case a37 => k_is); (case l37 => k_is); (case c37 => k_is); (case k37 => k_is); (case a38 => k_is); (case l38 => k_is); (case c38 => k_is); (case k38 => k_is); (case a39 => k_is); (case l39 => k_is); (case c39 => k_is); (case k39 => k_is); (case a40 => k_is); (case l40 => k_is); (case c40 => k_is); (case k40 => k_is); (case a41 => k_is); (case l41 => k_is); (case c41 => k_is); (case k41 => k_is); (case a42 => k_is); (case l42 => k_is); (case c42 => k_is); (case k42 => k_is); (case a43 => k_is); (case l43 => k_is); (case c43 => k_is); (case k43 => k_is); (case a44 => k_is); (case l44 => k_is); (case c44 => k_is); (case k44 => k_is); (case a45 => k_is); (case l45 => k_is); (case c45 => k_is); (case k45 => k_is); (case a46 => k_is); (case l46 => k_is); (case c46 => k_is); (case k46 => k_is); (case a47 => k_is); (case l47 => k_is); (case c47 => k_is); (case k47 => k_is); (case a48 => k_is); (case l48 => k_is); (case c48 => k_is); (case k48 => k_is); (case m0 => k_is); (case m1 => k_is); (case m2 => k_is); (case m3 => k_is); (case m4 => k_is); (case m5 => k_is); (case m6 => k_is); (case m7 => k_is); (case ic0 => k_is); (case tp0 => k_is); (case ic1 => k_is); (case tp1 => k_is); (case ic2 => k_is); (case tp2 => k_is); (case ic3 => k_is); (case tp3 => k_is); (case ic4 => k_is); (case tp4 => k_is); (case ic5 => k_is); (case tp5 => k_is); (case ic6 => k_is); (case tp6 => k_is); (case ic7 => k_is); (case tp7 => k_is); (case hb0 => k_is); (case kp2 => k_is); (case sb2 => k_is); (case ty2 => k_is); (case x0_2 => k_is); (case x1_2 => k_is); (case x2_2 => k_is); (case x3_2 => k_is); (case x4_2 => k_is); (case x5_2 => k_is); (case x6_2 => k_is); (case x7_2 => k_is); (case fi2 => k_is); (case ba2 => k_is); (case ki2_0 => k_is); (case nq2_0 => exact rfl); (case ki2_1 => k_is); (case ki2_2 => k_is); (case nq2_2 => exact rfl); (case ki2_3 => k_is); (case nq2_3 => exact rfl); (case ki2_4 => k_is); (case nq2_4 => exact rfl); (case ki2_5 => k_is); (case nq2_5 => exact rfl); (case ki2_6 => k_is); (case nq2_6 => exact rfl); (case kp3 => k_is); (case sb3 => k_is); (case ty3 => k_is); (case x0_3 => k_is); (case x1_3 => k_is); (case x2_3 => k_is); (case x3_3 => k_is); (case x4_3 => k_is); (case x5_3 => k_is); (case x6_3 => k_is); (case x7_3 => k_is); (case fi3 => k_is); (case ba3 => k_is); (case ki3_0 => k_is); (case nq3_0 => exact rfl); (case ki3_1 => k_is); (case nq3_1 => exact rfl); (case ki3_2 => k_is); (case ki3_3 => k_is); (case nq3_3 => exact rfl); (case ki3_4 => k_is); (case nq3_4 => exact rfl); (case ki3_5 => k_is); (case nq3_5 => exact rfl); (case ki3_6 => k_is); (case nq3_6 => exact rfl); (case kp4 => k_is); (case sb4 => k_is); (case ty4 => k_is); (case x0_4 => k_is); (case x1_4 => k_is); (case x2_4 => k_is); (case x3_4 => k_is); (case x4_4 => k_is); (case x5_4 => k_is); (case x6_4 => k_is); (case x7_4 => k_is); (case fi4 => k_is); (case ba4 => k_is); (case ki4_0 => k_is); (case nq4_0 => exact rfl); (case ki4_1 => k_is); (case nq4_1 => exact rfl); (case ki4_2 => k_is); (case nq4_2 => exact rfl); (case ki4_3 => k_is); (case ki4_4 => k_is); (case nq4_4 => exact rfl); (case ki4_5 => k_is); (case nq4_5 => exact rfl); (case ki4_6 => k_is); (case nq4_6 => exact rfl); (case kp5 => k_is); (case sb5 => k_is); (case ty5 => k_is); (case x0_5 => k_is); (case x1_5 => k_is); (case x2_5 => k_is); (case x3_5 => k_is); (case x4_5 => k_is); (case x5_5 => k_is); (case x6_5 => k_is); (case x7_5 => k_is); (case fi5 => k_is); (case ba5 => k_is); (case ki5_0 => k_is); (case nq5_0 => exact rfl); (case ki5_1 => k_is); (case nq5_1 => exact rfl); (case ki5_2 => k_is); (case nq5_2 => exact rfl); (case ki5_3 => k_is); (case nq5_3 => exact rfl); (case ki5_4 => k_is); (case ki5_5 => k_is); (case nq5_5 => exact rfl); (case ki5_6 => k_is); (case nq5_6 => exact rfl); (case yi => k_is); (case yl => k_is); (case yc => k_is); (case yq1 => exact rfl); (case yq2 => exact rfl); (case yT => k_is); (case yd => k_is); (case ye => exact rfl); (case yf => decide +kernel); (case yg => k_is); (case yy => k_is); (case yfn => k_is); (case yj => k_is); (case yk => decide +kernel); (case ym => k_is); (case yj2 => k_is); (case yx2 => kx_is); (case yo2 => kx_is); (case ys2 => k_is); (case yt2 => k_is); (case yv2 => k_is); (case yw2 => ks_is); (case yr2 => k_is); (case yn2 => k_is); (case yz2 => k_is); (case yza2 => exact rfl); (case yzb2 => decide +kernel); (case yzc2 => decide +kernel); (case yj3 => k_is); (case yx3 => kx_is); (case yo3 => kx_is); (case ys3 => k_is); (case yt3 => k_is); (case yv3 => k_is); (case yw3 => ks_is); (case yr3 => k_is); (case yn3 => k_is); (case yz3 => k_is); (case yza3 => exact rfl); (case yzb3 => decide +kernel); (case yzc3 => decide +kernel); (case yj4 => k_is); (case yx4 => kx_is); (case yo4 => kx_is); (case ys4 => k_is); (case yt4 => k_is); (case yv4 => k_is); (case yw4 => ks_is); (case yr4 => k_is); (case yn4 => k_is); (case yz4 => k_is); (case yza4 => exact rfl); (case yzb4 => decide +kernel); (case yzc4 => decide +kernel); (case yj5 => k_is); (case yx5 => kx_is); (case yo5 => kx_is); (case ys5 => k_is); (case yt5 => k_is); (case yv5 => k_is); (case yw5 => ks_is); (case yr5 => k_is); (case yn5 => k_is); (case yz5 => k_is); (case yza5 => exact rfl); (case yzb5 => decide +kernel); (case yzc5 => decide +kernel); (case z0 => k_is); (case z1 => k_is); (case z2 => k_is); (case z3 => k_is); (case z4 => k_is); (case z5 => k_is); (case z6 => k_is); (case z7 => k_is); (case z8 => k_is); (case z9 => k_is); (case z10 => k_is); (case z11 => k_is); (case z12 => k_is); (case v0 => k_is); (case v1 => k_is); (case v2 => k_is); (case v3 => k_is); (case v4 => k_is); (case v5 => k_is); (case v6 => k_is); (case v7 => k_is); (case v8 => k_is); (case v9 => k_is); (case v10 => k_is); (case v11 => k_is); (case v12 => k_is); (case v13 => k_is)

