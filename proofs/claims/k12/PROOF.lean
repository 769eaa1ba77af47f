import PyProof.Rows.All
import Wide.All
import OpenK.AllK
import Wide.FinOn
import HandS.ForMost
import HandS.Walk
import HandS.IsInst
import HandS.MapJoin
import HandS.Style
import HandS.FStr
import HandS.Codes
import HandS.Deep
import HandS.Replace
import HandS.Exc
import HandS.ForExc
import HandS.ExcIs
import HandS.Ends
import HandS.JoinGen
import HandS.StrMore
import HandS.TupAny
import HandS.RaiseFrom
import HandS.ExcField
import HandS.ExcCtx
import HandS.SuiteRaise
import KE.KAsSuite
import KE.KTupSum
import KE.GoesMore
import KE.KxField
import KE.KExcLine
import KE.KExcIs
import KE.KTypeName
import PyProof.Rows.StrIntSpec
import PyProof.FString3
import PySem.Challenge.RW_letterhouse_k12_times_refused
set_option Elab.async false
set_option linter.all false
set_option maxRecDepth 100000
namespace LH
open PySem PySem.Spec PyProof.Rows L2
/-! ### heaps -/
theorem same_upd {H : Hp} {p : Addr} {o : HO} (h : H p = none) : Same H (upd H p o) := fun b x e => by
  rw [upd_ne (ne_of_none e h)]
  exact e
theorem seqT {K : PySem.W.Frag} {H H' : Hp} {a : Addr} {xs : List V} (e : Same H H') (h : SqT K H a xs) : SqT K H' a xs := by
  rcases h with (h | ⟨o, h⟩) | h
  · exact .inl (.inl (e _ _ h))
  · exact .inl (.inr ⟨o, e _ _ h⟩)
  · exact .inr h
/-- a list that is told new, in a heap that keeps all that stood -/
def New (H : Hp) (xs : List V) (Q : VK) : Prop := ∀ H' p, Same H H' → H p = none → H' p = some (.lst xs) → Q (.ref p) H'
/-- a value that is told in a heap that keeps all that stood -/
def Tell (H : Hp) (v : V) (Q : VK) : Prop := ∀ H', Same H H' → Q v H'
/-! ### a comprehension over anything that yields xs 0 .. xs (n - 1), its element f i -/
theorem lc_pure {J : It} {n : Nat} {G : Hp → Prop} {te : TE} {c : Nat} {σ : L2.St} {H1 : Hp} {D : Addr} {Qd : Hp → Prop} (xs f : Nat → V) (w : Walk J n G (YFn xs)) (hG : ∀ H, Same H1 H → G H) (hD : H1 D = none) (hn : n ≤ sizeLine)
    (he : ∀ i H Q, i < n → Same H1 H → Tell H (f i) Q → te ((σ.set c none).set c (some (xs i))) H Q)
    (hd : ∀ H, Same H1 H → H D = some (.lst ((List.range n).map f)) → Qd H) :
    ∃ W : Nat → Nat → Hp → Prop, (∃ m, W 0 m (upd H1 D (.lst []))) ∧ ∀ i m H, W i m H →
      (J.stop i H ∧ Qd H) ∨ (J.go i H ∧ ∃ Nx : Hp → Prop, (∀ H', Nx H' → ∃ m', m' < m ∧ W (i + 1) m' H') ∧ ∀ x H', J.yld i H x H' → gName c x (wipe σ [c]) H' fun σ2 H2 => wipe σ2 [c] = wipe σ [c] ∧ tYes σ2 H2 fun b H3 =>
        if b = true then te σ2 H3 fun y H4 => ∃ acc, H4 D = some (.lst acc) ∧ acc.length < sizeLine ∧ Nx (upd H4 D (.lst (acc ++ [y]))) else Nx H3) := by
  refine lc_it w (fun i H => Same H1 H ∧ H D = some (.lst ((List.range i).map f))) ⟨same_upd hD, upd_same⟩ (fun i H _ h => hG H h.1) (fun i x H H' hi hP hy => ?_) (fun H h => hd H h.1 h.2)
  obtain ⟨sm, eD⟩ := hP
  obtain ⟨rfl, rfl⟩ := hy
  refine ⟨?_, ?_⟩
  rotate_left
  · show (if true = true then te ((σ.set c none).set c (some (xs i))) H' fun y H4 => ∃ acc, H4 D = some (.lst acc) ∧ acc.length < sizeLine ∧ Same H1 (upd H4 D (.lst (acc ++ [y]))) ∧ upd H4 D (.lst (acc ++ [y])) D = some (.lst ((List.range (i + 1)).map f)) else (Same H1 H' ∧ H' D = some (.lst ((List.range (i + 1)).map f))))
    rw [if_pos rfl]
    refine he i H' _ hi sm fun H2 s2 => ⟨_, s2 _ _ eD, ?_, ?_, ?_⟩
    · rw [List.length_map, List.length_range]
      omega
    · intro b o hb
      rw [upd_ne (ne_of_none hb hD)]
      exact s2 _ _ (sm _ _ hb)
    · rw [upd_same, List.range_succ, List.map_append]
      rfl
  · show (((σ.set c none).set c (some (xs i))).set c none) = σ.set c none
    rw [List.set_set, List.set_set]
/-! ### a def as its callers see it -/
structure Def (P : Program) (w : World) (K : PySem.W.Frag) (mg : Str → Option Value) (base : Heap) (x : Str) (k : Nat) (f : Addr) (fd : FuncData) (ps : List Str) (sp : Sp) : Prop where
  ok : FnOk P w K mg base CX0 k f fd ps sp
  mg : mg x = some (.ref f)
  kp : PySem.W.keepIn K (.ref f) = true
  bd : Binds K fd ps []
section
variable {X : Cx} {x : Str} {k j : Nat} {f : Addr} {fd : FuncData} {ps : List Str} {sp : Sp} {e : Expr} {es : List Expr} {t : TA} {p pos : Pos}
theorem pe_def (D : Def X.prog X.w X.K X.mg X.base x k f fd ps sp) (hr : Room k X.A) (ha : PA X (e :: es) t) (hg : Gl X x := by rfl) (hdb : (x == ("__debug__" : Str)) = false := by decide)
    (he : starEach (e :: es) X.env = (false, eval e X.env) :: starEach es X.env := by rfl) (hpl : (backTo pos (starEach es X.env)).any (·.1) = false := by rfl) : PE X (.Call (.Name x p) (e :: es) [] pos) (tCall sp [] E0 t) :=
  pe_call D.ok hr hg D.mg D.kp D.bd .nil pass0 ha hdb he hpl
theorem pe_def0 (D : Def X.prog X.w X.K X.mg X.base x k f fd ps sp) (hr : Room k X.A) (hg : Gl X x := by rfl) (hdb : (x == ("__debug__" : Str)) = false := by decide) : PE X (.Call (.Name x p) [] [] pos) (tCall sp [] E0 tNil) :=
  pe_call0 D.ok hr hg D.mg D.kp D.bd .nil pass0 hdb
end
/-! ### a text times a number -/
section
variable {X : Cx}
def repS (x : Str) (n : Int) : Str := ⟨(List.replicate n.toNat x.cps.toList).flatten.toArray⟩
theorem foldl_app (l : List (Array Nat)) : ∀ a : Array Nat, (l.foldl (· ++ ·) a).toList = a.toList ++ (l.map (·.toList)).flatten := by
  induction l with
  | nil => intro a; simp
  | cons x r ih => intro a; simp [ih]
theorem mul_rep (x : Str) (n : Int) : Txt.mul x n = repS x n := by
  unfold Txt.mul repS
  by_cases h : n < 1
  · rw [if_pos h, show n.toNat = 0 by omega]
    rfl
  · rw [if_neg h]
    by_cases h2 : (n == 1 || x.length == 0) = true
    · rw [if_pos h2]
      refine TL.ext_tl ?_
      show x.cps.toList = (List.replicate n.toNat x.cps.toList).flatten
      rcases (Bool.or_eq_true _ _).mp h2 with e | e
      · have : n = 1 := eq_of_beq e
        subst this
        simp
      · have : x.cps.toList = [] := by
          have e' : x.length = 0 := eq_of_beq e
          have e3 : x.cps.toList.length = 0 := by simpa [Str.length] using e'
          exact List.length_eq_zero_iff.mp e3
        rw [this]
        simp
    · rw [if_neg h2]
      refine TL.ext_tl ?_
      show ((List.replicate n.toNat x.cps).foldl (· ++ ·) #[]).toList = (List.replicate n.toNat x.cps.toList).flatten
      rw [foldl_app]
      simp
theorem op_mul_str : OpR X (binaryOp .Mult) (fun x y H Q => ∃ z n, x = .str z ∧ y = .int n ∧ -(2 ^ 63) ≤ n ∧ n ≤ 4096 ∧ z.length ≤ 4096 ∧ Q (.str (repS z n)) H) := by
  intro pins s σ H x y v u Q I rx ry h
  obtain ⟨z, n, rfl, rfl, h0, h1, h2, q⟩ := h
  obtain ⟨t, rfl⟩ := rx
  obtain ⟨t', rfl⟩ := ry
  refine SB.mul (mulOk_of 4096 4096 h2 (by exact_mod_cast h1) h0 (by decide) (by decide)) fun t2 k => ?_
  rw [mul_rep]
  exact ⟨.str (repS z n), H, I.tok _, ⟨_, rfl⟩, q⟩
end
/-! ### chunks -/
def chunks {α : Type} (k : Nat) (t : List α) : List (List α) := (List.range ((t.length + (k - 1)) / k)).map fun i => (t.drop (i * k)).take k
theorem chunks_nil {α : Type} {k : Nat} (hk : 0 < k) : chunks k ([] : List α) = [] := by
  unfold chunks
  rw [show (([] : List α).length + (k - 1)) / k = 0 from Nat.div_eq_of_lt (by simp; omega)]
  rfl
theorem chunks_cons {α : Type} {k : Nat} (hk : 0 < k) {t : List α} (ht : t ≠ []) : chunks k t = t.take k :: chunks k (t.drop k) := by
  unfold chunks
  have hl : 0 < t.length := List.length_pos_iff.mpr ht
  have e : (t.length + (k - 1)) / k = ((t.drop k).length + (k - 1)) / k + 1 := by
    rw [List.length_drop]
    by_cases h : t.length ≤ k
    · rw [show t.length - k = 0 by omega, show (0 + (k - 1)) / k = 0 from Nat.div_eq_of_lt (by omega)]
      exact Nat.div_eq_of_lt_le (by omega) (by omega)
    · rw [show t.length + (k - 1) = (t.length - k + (k - 1)) + k by omega, Nat.add_div_right _ hk]
  rw [e, List.range_succ_eq_map, List.map_cons, List.map_map]
  congr 1
  · simp
  · refine List.map_congr_left fun i _ => ?_
    show (t.drop ((i + 1) * k)).take k = ((t.drop k).drop (i * k)).take k
    rw [List.drop_drop, Nat.succ_mul, Nat.add_comm]
/-! ### slices and ranges -/
theorem cutS_at (z : Str) (a b : Nat) : cutS z (some (a : Int)) (some (b : Int)) = ⟨((TL.tl z).drop a |>.take (b - a)).toArray⟩ := by
  unfold cutS
  rw [HT.sIx_nat, HT.sIx_nat]
  refine TL.ext_tl ?_
  show ((TL.tl z).drop (min a z.length)).take (min b z.length - min a z.length) = ((TL.tl z).drop a).take (b - a)
  have hz : z.length = (TL.tl z).length := TL.len_tl z
  rw [hz]
  generalize TL.tl z = l
  by_cases h : a ≤ l.length
  · rw [Nat.min_eq_left h]
    by_cases h2 : b ≤ l.length
    · rw [Nat.min_eq_left h2]
    · rw [Nat.min_eq_right (by omega), List.take_of_length_le (by rw [List.length_drop]; omega), List.take_of_length_le (by rw [List.length_drop]; omega)]
  · have h' : l.length ≤ a := by omega
    rw [Nat.min_eq_right h', List.drop_of_length_le (Nat.le_refl _), List.drop_of_length_le h']
    simp
theorem cutV_at (z : List V) (a b : Nat) : cutV z (some (a : Int)) (some (b : Int)) = (z.drop a).take (b - a) := by
  unfold cutV
  rw [HT.sIx_nat, HT.sIx_nat]
  by_cases h : a ≤ z.length
  · rw [Nat.min_eq_left h]
    by_cases h2 : b ≤ z.length
    · rw [Nat.min_eq_left h2]
    · rw [Nat.min_eq_right (by omega), List.take_of_length_le (by rw [List.length_drop]; omega), List.take_of_length_le (by rw [List.length_drop]; omega)]
  · have h' : z.length ≤ a := by omega
    rw [Nat.min_eq_right h', List.drop_of_length_le (Nat.le_refl _), List.drop_of_length_le h']
    simp
theorem cutV_to (z : List V) (b : Nat) : cutV z none (some (b : Int)) = z.take b := by
  unfold cutV
  rw [HT.sIx_nat, HT.sIx_none]
  by_cases h2 : b ≤ z.length
  · rw [Nat.min_eq_left h2]; simp
  · rw [Nat.min_eq_right (by omega), List.take_of_length_le (by simp), List.take_of_length_le (by omega)]; simp
theorem cutS_to (z : Str) (b : Nat) : cutS z none (some (b : Int)) = ⟨((TL.tl z).take b).toArray⟩ := by
  have := cutS_at z 0 b
  have e : cutS z none (some (b : Int)) = cutS z (some ((0 : Nat) : Int)) (some (b : Int)) := by
    unfold cutS
    rw [HT.sIx_none, HT.sIx_nat, HT.sIx_nat, Nat.zero_min]
  rw [e, this]
  simp
theorem cutS_from (z : Str) (a : Nat) : cutS z (some (a : Int)) none = ⟨((TL.tl z).drop a).toArray⟩ := by
  have e : cutS z (some (a : Int)) none = cutS z (some (a : Int)) (some ((z.length : Nat) : Int)) := by
    unfold cutS
    rw [HT.sIx_none, HT.sIx_nat, HT.sIx_nat]
    simp
  rw [e, cutS_at, TL.len_tl, List.take_of_length_le (by simp)]
theorem rgC (n k : Nat) (hk : 0 < k) (hk2 : k < 1000) (hn : n < 2 ^ 40) : RgC 0 (n : Int) (k : Int) ((n + (k - 1)) / k) := by
  refine ⟨by omega, by omega, ?_, ?_⟩
  · have e := rangeSize_pos (len := (n : Int)) (c := (k : Int)) (by omega) (by omega)
    have q : ((n : Int) + (k : Int) - 1) / (k : Int) ≤ (n : Int) + (k : Int) - 1 := Int.ediv_le_self _ (by omega)
    have q0 : 0 ≤ ((n : Int) + (k : Int) - 1) / (k : Int) := Int.ediv_nonneg (by omega) (by omega)
    unfold Builtin.Range.small
    rw [e]
    simp only [Builtin.Range.rangeFitsLong, Bool.and_eq_true, Bool.or_eq_true, decide_eq_true_eq, beq_iff_eq, show ((k : Int) > 0) by omega, if_true]
    have p1 : (0:Int) < 2 ^ 63 := by decide
    omega
  · rw [rangeSize_pos (by omega) (by omega)]
    rw [show (n : Int) + (k : Int) - 1 = ((n + (k - 1) : Nat) : Int) by omega]
    exact (Int.natCast_ediv _ _).symm
end LH
namespace LH
open PySem PySem.Spec PyProof.Rows L2
theorem walk_listF {K : PySem.W.Frag} {a : Addr} {xs : List V} : Walk (Itl K a) xs.length (fun H => SqL K H a xs) (YFn fun i => xs.getD i .non) :=
  walk_list.mono (fun _ h => h) fun i H x H' hi _ y => ⟨y.1, by show x = xs.getD i .non; rw [List.getD_eq_getElem?_getD, y.2]; rfl⟩
theorem walk_tupF {K : PySem.W.Frag} {a : Addr} {xs : List V} : Walk (Itt K a) xs.length (fun H => SqT K H a xs) (YFn fun i => xs.getD i .non) :=
  walk_tup.mono (fun _ h => h) fun i H x H' hi _ y => ⟨y.1, by show x = xs.getD i .non; rw [List.getD_eq_getElem?_getD, y.2]; rfl⟩
theorem getD_map_int (bs : List Int) (i : Nat) (h : i < bs.length) : (bs.map V.int).getD i .non = .int (bs.getD i 0) := by
  rw [List.getD_eq_getElem?_getD, List.getElem?_map, List.getElem?_eq_getElem h, List.getD_eq_getElem?_getD, List.getElem?_eq_getElem h]
  rfl
theorem range_getD {α : Type} (xs : List α) (d : α) : (List.range xs.length).map (fun i => xs.getD i d) = xs := by
  apply List.ext_getElem?
  intro i
  rw [List.getElem?_map]
  by_cases h : i < xs.length
  · rw [List.getElem?_range h]
    show some (xs.getD i d) = _
    rw [List.getD_eq_getElem?_getD, List.getElem?_eq_getElem h]
    rfl
  · rw [List.getElem?_eq_none (by rw [List.length_range]; omega), List.getElem?_eq_none (by omega)]
    rfl
section
variable {X : Cx}
theorem ixL (K : PySem.W.Frag) (h : X.K = K := by rfl) : IxR X (rIxL K) := h ▸ ix_list
theorem ixT (K : PySem.W.Frag) (h : X.K = K := by rfl) : IxR X (rIxT K) := h ▸ ix_tup
theorem slL (K : PySem.W.Frag) (h : X.K = K := by rfl) : SlR X (rSlL K) := h ▸ sl_list
theorem slT (K : PySem.W.Frag) (h : X.K = K := by rfl) : SlR X (rSlT K) := h ▸ sl_tup
theorem cIsi (K : PySem.W.Frag) (h : X.K = K := by rfl) : CallR X (.builtin "isinstance") (rIsi K) := h ▸ call_isi
def rLenS (K : PySem.W.Frag) : List V → Hp → VK → Prop := fun xs H Q => ∃ p ys, xs = [.ref p] ∧ (SqL K H p ys ∨ SqT K H p ys) ∧ Q (.int ys.length) H
theorem cLen (K : PySem.W.Frag) (h : X.K = K := by rfl) : CallR X (.builtin "len") (rLenS K) := h ▸ call_len_seq
theorem cAll (K : PySem.W.Frag) (h : X.K = K := by rfl) (hc : X.calm = true := by rfl) : CallR X (.builtin "all") (rAll K) := h ▸ cr_all hc
theorem cAny (K : PySem.W.Frag) (h : X.K = K := by rfl) (hc : X.calm = true := by rfl) : CallR X (.builtin "any") (rAny K) := h ▸ cr_any hc
theorem oIn (K : PySem.W.Frag) (h : X.K = K := by rfl) : OpR X (compareOp .In) (rIn K false) := h ▸ op_in_seq
theorem oNotIn (K : PySem.W.Frag) (h : X.K = K := by rfl) : OpR X (compareOp .NotIn) (rIn K true) := h ▸ op_notIn_seq
theorem oEqD (K : PySem.W.Frag) (hu : X.A.units + 64 < cLine) (h : X.K = K := by rfl) : OpR X (compareOp .Eq) (rEqD K) := h ▸ op_eqD hu
theorem oNeD (K : PySem.W.Frag) (hu : X.A.units + 64 < cLine) (h : X.K = K := by rfl) : OpR X (compareOp .NotEq) (rNeD K) := h ▸ op_neD hu
end
end LH
namespace LH
open PySem PySem.Spec PyProof.Rows L2
/-! ### data: flat lists compared -/
def OkS (x : Str) : Prop := ∀ c ∈ TL.tl x, c < 1114112
theorem strOk_of (x : Str) (h : OkS x) : PyData.strOk x = true := by
  unfold PyData.strOk
  rw [Array.all_eq_true']
  intro c hc
  exact decide_eq_true (h c (Array.mem_toList_iff.mpr hc))
theorem dpAll_ints {K : PySem.W.Frag} {H : Hp} : ∀ bs : List Int, DpAll K H (bs.map V.int) (bs.map PyData.int)
  | [] => .nil
  | b :: r => .cons (.int b) (dpAll_ints r)
theorem dpAll_strs {K : PySem.W.Frag} {H : Hp} : ∀ bs : List Str, DpAll K H (bs.map V.str) (bs.map PyData.str)
  | [] => .nil
  | b :: r => .cons (.str b) (dpAll_strs r)
theorem dp_ints {K : PySem.W.Frag} {H : Hp} {a : Addr} {bs : List Int} (h : SqL K H a (bs.map V.int)) : Dp K H (.ref a) (.list (bs.map PyData.int)) := .lst h (dpAll_ints bs)
theorem dp_strs {K : PySem.W.Frag} {H : Hp} {a : Addr} {bs : List Str} (h : SqL K H a (bs.map V.str)) : Dp K H (.ref a) (.list (bs.map PyData.str)) := .lst h (dpAll_strs bs)
theorem lay_strs : ∀ bs : List Str, (∀ x ∈ bs, OkS x) → PyData.canLayAll0 (bs.map PyData.str) = true
  | [], _ => by simp [PyData.canLayAll0]
  | b :: r, h => by simp [PyData.canLayAll0, PyData.canLay0, strOk_of b (h b (by simp)), lay_strs r fun x hx => h x (by simp [hx])]
theorem depth_strs : ∀ bs : List Str, PyData.depthAll (bs.map PyData.str) = 0
  | [] => rfl
  | _ :: r => by simp [PyData.depthAll, PyData.depth, depth_strs r]
theorem shaped_strs (bs : List Str) (h : ∀ x ∈ bs, OkS x) : SeqAt.shaped (.list (bs.map PyData.str)) = true := by
  simp [SeqAt.shaped, PyData.canLay0, PyData.depth, lay_strs bs h, depth_strs]
theorem shaped_intsL (bs : List Int) : SeqAt.shaped (.list (bs.map PyData.int)) = true := PySem.W.ke_shaped_ints bs
theorem eqv_ints : ∀ bs cs : List Int, PyData.eqvAll (bs.map PyData.int) (cs.map PyData.int) = decide (bs = cs)
  | [], [] => by simp [PyData.eqvAll]
  | [], _ :: _ => by simp [PyData.eqvAll]
  | _ :: _, [] => by simp [PyData.eqvAll]
  | b :: r, c :: q => by
    rw [List.map_cons, List.map_cons, PyData.eqvAll, PyData.eqv, eqv_ints r q]
    by_cases h : b = c <;> simp [h]
theorem eqv_strs : ∀ bs cs : List Str, PyData.eqvAll (bs.map PyData.str) (cs.map PyData.str) = decide (bs = cs)
  | [], [] => by simp [PyData.eqvAll]
  | [], _ :: _ => by simp [PyData.eqvAll]
  | _ :: _, [] => by simp [PyData.eqvAll]
  | b :: r, c :: q => by
    rw [List.map_cons, List.map_cons, PyData.eqvAll, PyData.eqv, eqv_strs r q]
    by_cases h : b = c <;> simp [h]
theorem eqv_intsL (bs cs : List Int) : PyData.eqv (.list (bs.map PyData.int)) (.list (cs.map PyData.int)) = decide (bs = cs) := by rw [PyData.eqv, eqv_ints]
theorem eqv_strsL (bs cs : List Str) : PyData.eqv (.list (bs.map PyData.str)) (.list (cs.map PyData.str)) = decide (bs = cs) := by rw [PyData.eqv, eqv_strs]
theorem map_true {α : Type} (l : List α) : (l.map fun _ => true).all id = true := by
  induction l with
  | nil => rfl
  | cons x r ih => simpa using ih
end LH

namespace LH
open PySem PySem.Spec PyProof.Rows L2
/-! ### a comprehension with a test -/
theorem lc_filt {J : It} {n : Nat} {G : Hp → Prop} {tt : TT} {te : TE} {c : Nat} {σ : L2.St} {H1 : Hp} {D : Addr} {Qd : Hp → Prop} (xs f : Nat → V) (b : Nat → Bool) (w : Walk J n G (YFn xs)) (hG : ∀ H, Same H1 H → G H) (hD : H1 D = none) (hn : n ≤ sizeLine)
    (ht : ∀ (i : Nat) (H : Hp) (Q : Bool → Hp → Prop), i < n → Same H1 H → (∀ H', Same H H' → Q (b i) H') → tt ((σ.set c none).set c (some (xs i))) H Q)
    (he : ∀ i H Q, i < n → Same H1 H → b i = true → Tell H (f i) Q → te ((σ.set c none).set c (some (xs i))) H Q)
    (hd : ∀ H, Same H1 H → H D = some (.lst (((List.range n).filter b).map f)) → Qd H) :
    ∃ W : Nat → Nat → Hp → Prop, (∃ m, W 0 m (upd H1 D (.lst []))) ∧ ∀ i m H, W i m H →
      (J.stop i H ∧ Qd H) ∨ (J.go i H ∧ ∃ Nx : Hp → Prop, (∀ H', Nx H' → ∃ m', m' < m ∧ W (i + 1) m' H') ∧ ∀ x H', J.yld i H x H' → gName c x (wipe σ [c]) H' fun σ2 H2 => wipe σ2 [c] = wipe σ [c] ∧ tt σ2 H2 fun b H3 =>
        if b = true then te σ2 H3 fun y H4 => ∃ acc, H4 D = some (.lst acc) ∧ acc.length < sizeLine ∧ Nx (upd H4 D (.lst (acc ++ [y]))) else Nx H3) := by
  refine lc_it w (fun i H => Same H1 H ∧ H D = some (.lst (((List.range i).filter b).map f))) ⟨same_upd hD, upd_same⟩ (fun i H _ h => hG H h.1) (fun i x H H' hi hP hy => ?_) (fun H h => hd H h.1 h.2)
  obtain ⟨sm, eD⟩ := hP
  obtain ⟨rfl, rfl⟩ := hy
  refine ⟨?_, ?_⟩
  rotate_left
  · refine ht i H' _ hi sm fun H2 s2 => ?_
    cases hb : b i with
    | true =>
      rw [if_pos rfl]
      refine he i H2 _ hi (sm.trans s2) hb fun H3 s3 => ⟨_, s3 _ _ (s2 _ _ eD), ?_, ?_, ?_⟩
      · rw [List.length_map]
        have := List.length_filter_le b (List.range i)
        rw [List.length_range] at this
        omega
      · intro b' o hb'
        rw [upd_ne (ne_of_none hb' hD)]
        exact s3 _ _ (s2 _ _ (sm _ _ hb'))
      · rw [upd_same, List.range_succ, List.filter_append, List.map_append]
        simp [hb]
    | false =>
      rw [if_neg Bool.false_ne_true]
      refine ⟨sm.trans s2, ?_⟩
      rw [s2 _ _ eD, List.range_succ, List.filter_append, List.map_append]
      simp [hb]
  · show (((σ.set c none).set c (some (xs i))).set c none) = σ.set c none
    rw [List.set_set, List.set_set]
/-! ### the signs of a text -/
theorem walk_strF {z : Str} : Walk (Its z) (TL.tl z).length (fun _ => True) (YFn fun i => .str ⟨#[(TL.tl z).getD i 0]⟩) := by
  have e : (TL.tl z).length = z.cps.size := Array.length_toList
  rw [e]
  refine walk_str.mono (fun _ h => h) fun i H x H' hi _ y => ⟨y.1, ?_⟩
  obtain ⟨_, c, hc, rfl⟩ := y
  show V.str ⟨#[c]⟩ = .str ⟨#[(TL.tl z).getD i 0]⟩
  have : (TL.tl z)[i]? = some c := by rw [← hc]; exact Array.getElem?_toList
  rw [List.getD_eq_getElem?_getD, this]
  rfl
theorem lall_range {α : Type} (l : List α) (d : α) (p : α → Bool) : ((List.range l.length).map fun i => p (l.getD i d)).all id = l.all p := by
  have e : ((List.range l.length).map fun i => p (l.getD i d)) = ((List.range l.length).map fun i => l.getD i d).map p := by rw [List.map_map]; rfl
  rw [e, range_getD, List.all_map]
  rfl
/-! ### one sign's split -/
def splitL (s : Nat) : List Nat → List (List Nat)
  | [] => [[]]
  | c :: r => if c = s then [] :: splitL s r else (c :: (splitL s r).headD []) :: (splitL s r).tail
theorem splitL_ne (s : Nat) (l : List Nat) : splitL s l ≠ [] := by
  cases l with
  | nil => simp [splitL]
  | cons c r => unfold splitL; split <;> simp
theorem splitL_eta (s : Nat) (l : List Nat) : splitL s l = (splitL s l).headD [] :: (splitL s l).tail := by
  cases h : splitL s l with
  | nil => exact absurd h (splitL_ne s l)
  | cons x r => rfl
theorem spl_one (s : Nat) : ∀ (l acc : List Nat), TL.spl [s] 0 acc l = (acc ++ (splitL s l).headD []) :: (splitL s l).tail
  | [], acc => by rw [TL.spl_nil]; simp [splitL]
  | c :: r, acc => by
    by_cases h : c = s
    · subst h
      rw [TL.spl_hit (show TL.pre [c] (c :: r) = true by simp [TL.pre])]
      show acc :: TL.spl [c] 0 [] r = _
      rw [spl_one c r []]
      have e : splitL c (c :: r) = [] :: splitL c r := by
        conv => lhs; unfold splitL
        rw [if_pos rfl]
      rw [e]
      simp only [List.headD_cons, List.tail_cons, List.append_nil, List.nil_append]
      rw [← splitL_eta]
    · rw [TL.spl_miss (show TL.pre [s] (c :: r) = false by simp [TL.pre]; exact h), spl_one s r]
      conv => rhs; unfold splitL
      rw [if_neg h]
      simp
theorem split_tl {x y : Str} {s : Nat} (hy : TL.tl y = [s]) (hs : s < 256) : (Txt.split x y).map TL.tl = splitL s (TL.tl x) := by
  rw [TL.split_spl x y (by rw [hy]; simp) (TL.kind_ok ?_), hy, spl_one, List.nil_append, ← splitL_eta]
  rw [Array.all_eq_true']
  intro c hc
  have : c ∈ TL.tl y := Array.mem_toList_iff.mpr hc
  rw [hy] at this
  exact decide_eq_true (by rw [List.mem_singleton.mp this]; exact hs)
theorem splitL_len (s : Nat) : ∀ l : List Nat, (splitL s l).length ≤ l.length + 1
  | [] => Nat.le_refl _
  | c :: r => by
    have ih := splitL_len s r
    unfold splitL
    split
    · simp only [List.length_cons]; omega
    · have := splitL_eta s r
      have h2 := congrArg List.length this
      simp only [List.length_cons] at h2 ⊢
      omega
theorem splitL_mem (s : Nat) : ∀ (l : List Nat) (w : List Nat), w ∈ splitL s l → ∀ c ∈ w, c ∈ l
  | [], w, h, c, hc => by
    simp [splitL] at h
    rw [h] at hc
    cases hc
  | d :: r, w, h, c, hc => by
    unfold splitL at h
    have e := splitL_eta s r
    split at h
    · rcases List.mem_cons.mp h with rfl | h
      · cases hc
      · exact List.mem_cons_of_mem _ (splitL_mem s r w h c hc)
    · rcases List.mem_cons.mp h with rfl | h
      · rcases List.mem_cons.mp hc with rfl | hc
        · exact List.mem_cons_self
        · exact List.mem_cons_of_mem _ (splitL_mem s r _ (by rw [e]; exact List.mem_cons_self) c hc)
      · exact List.mem_cons_of_mem _ (splitL_mem s r w (by rw [e]; exact List.mem_cons_of_mem _ h) c hc)
theorem splitL_le (s : Nat) : ∀ (l : List Nat) (w : List Nat), w ∈ splitL s l → w.length ≤ l.length
  | [], w, h => by
    simp [splitL] at h
    rw [h]
    exact Nat.le_refl _
  | d :: r, w, h => by
    unfold splitL at h
    have e := splitL_eta s r
    have mem1 : (splitL s r).headD [] ∈ splitL s r := by rw [e]; exact List.mem_cons_self
    have mem2 : ∀ x ∈ (splitL s r).tail, x ∈ splitL s r := fun x hx => by rw [e]; exact List.mem_cons_of_mem _ hx
    split at h
    · rcases List.mem_cons.mp h with rfl | h
      · exact Nat.zero_le _
      · exact Nat.le_succ_of_le (splitL_le s r w h)
    · rcases List.mem_cons.mp h with rfl | h
      · exact Nat.succ_le_succ (splitL_le s r _ mem1)
      · exact Nat.le_succ_of_le (splitL_le s r w (mem2 w h))
theorem mk_len (l : List Nat) : (⟨l.toArray⟩ : Str).length = l.length := by rw [TL.len_tl]
theorem str_eq_iff (x y : Str) : x = y ↔ TL.tl x = TL.tl y := ⟨fun h => by rw [h], TL.ext_tl⟩
end LH
namespace LH
open PySem PySem.Spec PyProof.Rows L2
/-! ### an empty part in a split: a sign at an end, or two side by side -/
def Gap (s : Nat) (l : List Nat) : Prop := ∃ i, l[i]? = some s ∧ (l[i + 1]? = none ∨ l[i + 1]? = some s)
theorem gap_nil (s : Nat) : ¬ Gap s [] := fun ⟨i, h, _⟩ => by simp at h
theorem gap_cons (s c : Nat) (r : List Nat) : Gap s (c :: r) ↔ (c = s ∧ (r = [] ∨ r[0]? = some s)) ∨ Gap s r := by
  constructor
  · rintro ⟨i, h1, h2⟩
    cases i with
    | zero =>
      left
      have : c = s := by simpa using h1
      refine ⟨this, ?_⟩
      rcases h2 with h2 | h2
      · left
        have : r[0]? = none := by simpa using h2
        cases r with
        | nil => rfl
        | cons x r => simp at this
      · right; simpa using h2
    | succ i => exact .inr ⟨i, by simpa using h1, by simpa using h2⟩
  · rintro (⟨rfl, h⟩ | ⟨i, h1, h2⟩)
    · refine ⟨0, by simp, ?_⟩
      rcases h with rfl | h
      · left; rfl
      · right; simpa using h
    · exact ⟨i + 1, by simpa using h1, by simpa using h2⟩
theorem split_head (s : Nat) (l : List Nat) : (splitL s l).headD [] = [] ↔ l = [] ∨ l[0]? = some s := by
  cases l with
  | nil => simp [splitL]
  | cons c r =>
    unfold splitL
    by_cases h : c = s
    · rw [if_pos h]; simp [h]
    · rw [if_neg h]; simp [h]
theorem split_tail (s : Nat) : ∀ l : List Nat, [] ∈ (splitL s l).tail ↔ Gap s l
  | [] => by simp [splitL, gap_nil]
  | c :: r => by
    rw [gap_cons, ← split_tail s r]
    by_cases h : c = s
    · have e : splitL s (c :: r) = [] :: splitL s r := by
        conv => lhs; unfold splitL
        rw [if_pos h]
      rw [e, List.tail_cons, splitL_eta s r, List.mem_cons, eq_comm, split_head]
      simp [h]
    · have e : splitL s (c :: r) = (c :: (splitL s r).headD []) :: (splitL s r).tail := by
        conv => lhs; unfold splitL
        rw [if_neg h]
      rw [e, List.tail_cons]
      simp [h]
theorem split_gap (s : Nat) (l : List Nat) : [] ∈ splitL s l ↔ l = [] ∨ l[0]? = some s ∨ Gap s l := by
  rw [splitL_eta s l, List.mem_cons, eq_comm, split_head, split_tail, or_assoc]
theorem joinL_nil (l : List (List Nat)) : TL.joinL [] l = l.flatten := by
  induction l with
  | nil => rfl
  | cons x r ih =>
    cases r with
    | nil => simp [TL.joinL]
    | cons y r => rw [TL.joinL, ih]; simp
theorem tl_empty : TL.tl (Str.ofString "") = [] := by decide +kernel
theorem tl_join0 (ys : List Str) : TL.tl (Txt.join (Str.ofString "") ys) = (ys.map TL.tl).flatten := by
  rw [TL.join_eq, TL.tl_join, tl_empty, joinL_nil]
theorem flatten_le {α : Type} {k : Nat} : ∀ l : List (List α), (∀ x ∈ l, x.length ≤ k) → l.flatten.length ≤ k * l.length
  | [], _ => Nat.le_refl _
  | x :: r, h => by
    have ih := flatten_le r fun y hy => h y (List.mem_cons_of_mem _ hy)
    have hx := h x (by simp)
    rw [List.flatten_cons, List.length_append, List.length_cons, Nat.mul_succ]
    omega
theorem chunks_len {α : Type} (k : Nat) (t : List α) : (chunks k t).length = (t.length + (k - 1)) / k := by
  unfold chunks
  rw [List.length_map, List.length_range]
theorem sum_len (ys : List Str) : (ys.map (·.length)).sum = ((ys.map TL.tl).flatten).length := by
  rw [List.length_flatten, List.map_map]
  rfl
/-! ### texts and their signs -/
theorem okS_app {x y : Str} (hx : OkS x) (hy : OkS y) : OkS (x ++ y) := fun c hc => by
  rw [TL.tl_append] at hc
  rcases List.mem_append.mp hc with h | h
  · exact hx c h
  · exact hy c h
theorem len_app (x y : Str) : (x ++ y).length = x.length + y.length := by
  rw [TL.len_tl, TL.tl_append, List.length_append, ← TL.len_tl, ← TL.len_tl]
theorem okS_cut {x : Str} (hx : OkS x) (lo hi : Option Int) : OkS (cutS x lo hi) := fun c hc => hx c (List.mem_of_mem_drop (List.mem_of_mem_take hc))
theorem okS_one {c : Nat} (h : c < 1114112) : OkS ⟨#[c]⟩ := fun d hd => by
  have : d = c := by simpa [TL.tl] using hd
  rw [this]; exact h
theorem joinL_mem (S : List Nat) : ∀ (ps : List (List Nat)) (c : Nat), c ∈ TL.joinL S ps → c ∈ S ∨ ∃ p ∈ ps, c ∈ p
  | [], c, h => by cases h
  | [p], c, h => .inr ⟨p, by simp, h⟩
  | p :: q :: r, c, h => by
    rw [TL.joinL] at h
    rcases List.mem_append.mp h with h | h
    · exact .inr ⟨p, by simp, h⟩
    · rcases List.mem_append.mp h with h | h
      · exact .inl h
      · rcases joinL_mem S (q :: r) c h with h | ⟨x, hx, hc⟩
        · exact .inl h
        · exact .inr ⟨x, List.mem_cons_of_mem _ hx, hc⟩
theorem joinL_len (S : List Nat) : ∀ (ps : List (List Nat)), (TL.joinL S ps).length ≤ (ps.map List.length).sum + ps.length * S.length
  | [] => by simp [TL.joinL]
  | [p] => by simp [TL.joinL]
  | p :: q :: r => by
    have ih := joinL_len S (q :: r)
    rw [TL.joinL, List.length_append, List.length_append, List.map_cons, List.sum_cons, List.length_cons, Nat.succ_mul]
    omega
theorem sum_le (k : Nat) : ∀ l : List Nat, (∀ x ∈ l, x ≤ k) → l.sum ≤ l.length * k
  | [], _ => by simp
  | x :: r, h => by
    have ih := sum_le k r fun y hy => h y (List.mem_cons_of_mem _ hy)
    have hx := h x (by simp)
    rw [List.sum_cons, List.length_cons, Nat.succ_mul]
    omega
theorem join_len_le {sep : Str} {ws : List Str} {k n : Nat} (hw : ∀ x ∈ ws, x.length ≤ k) (hn : ws.length ≤ n) : (ws.map (·.length)).sum + ws.length * sep.length ≤ n * (k + sep.length) := by
  have h1 := sum_le k (ws.map (·.length)) fun x hx => by
    obtain ⟨y, hy, rfl⟩ := List.mem_map.mp hx
    exact hw y hy
  rw [List.length_map] at h1
  calc (ws.map (·.length)).sum + ws.length * sep.length ≤ ws.length * k + ws.length * sep.length := Nat.add_le_add_right h1 _
    _ = ws.length * (k + sep.length) := (Nat.mul_add _ _ _).symm
    _ ≤ n * (k + sep.length) := Nat.mul_le_mul_right _ hn
theorem joined_len (sep : Str) (ws : List Str) : (Txt.join sep ws).length ≤ (ws.map (·.length)).sum + ws.length * sep.length := by
  rw [TL.len_tl, TL.join_eq, TL.tl_join]
  refine Nat.le_trans (joinL_len _ _) ?_
  rw [List.map_map, List.length_map, ← TL.len_tl]
  have : (ws.map (List.length ∘ TL.tl)) = ws.map (·.length) := List.map_congr_left fun x _ => (TL.len_tl x).symm
  rw [this]
  exact Nat.le_refl _
theorem okS_join {sep : Str} {ws : List Str} (hs : OkS sep) (hw : ∀ x ∈ ws, OkS x) : OkS (Txt.join sep ws) := fun c hc => by
  rw [TL.join_eq, TL.tl_join] at hc
  rcases joinL_mem _ _ c hc with h | ⟨p, hp, hc⟩
  · exact hs c h
  · obtain ⟨x, hx, rfl⟩ := List.mem_map.mp hp
    exact hw x hx c hc
/-- lists of truth values compared -/
theorem dpAll_bls {K : PySem.W.Frag} {H : Hp} : ∀ bs : List Bool, DpAll K H (bs.map V.bl) (bs.map PyData.bool)
  | [] => .nil
  | b :: r => .cons (.bl b) (dpAll_bls r)
theorem dp_bls {K : PySem.W.Frag} {H : Hp} {a : Addr} {bs : List Bool} (h : SqL K H a (bs.map V.bl)) : Dp K H (.ref a) (.list (bs.map PyData.bool)) := .lst h (dpAll_bls bs)
theorem lay_bls : ∀ bs : List Bool, PyData.canLayAll0 (bs.map PyData.bool) = true
  | [] => by simp [PyData.canLayAll0]
  | b :: r => by simp [PyData.canLayAll0, PyData.canLay0, lay_bls r]
theorem depth_bls : ∀ bs : List Bool, PyData.depthAll (bs.map PyData.bool) = 0
  | [] => rfl
  | _ :: r => by simp [PyData.depthAll, PyData.depth, depth_bls r]
theorem shaped_bls (bs : List Bool) : SeqAt.shaped (.list (bs.map PyData.bool)) = true := by
  simp [SeqAt.shaped, PyData.canLay0, PyData.depth, lay_bls bs, depth_bls]
theorem eqv_bls : ∀ bs cs : List Bool, PyData.eqvAll (bs.map PyData.bool) (cs.map PyData.bool) = decide (bs = cs)
  | [], [] => by simp [PyData.eqvAll]
  | [], _ :: _ => by simp [PyData.eqvAll]
  | _ :: _, [] => by simp [PyData.eqvAll]
  | b :: r, c :: q => by
    rw [List.map_cons, List.map_cons, PyData.eqvAll, PyData.eqv, eqv_bls r q]
    by_cases h : b = c <;> simp [h]
theorem eqv_blsL (bs cs : List Bool) : PyData.eqv (.list (bs.map PyData.bool)) (.list (cs.map PyData.bool)) = decide (bs = cs) := by rw [PyData.eqv, eqv_bls]
theorem lat_of {α : Type} {xs : List α} {z : Int} {j : Nat} {v : α} (e : z = (j : Int)) (h : xs[j]? = some v) : atI xs z = some v := by
  rw [e]
  exact atI_nat h
theorem getD_str (ws : List Str) (i : Nat) (hi : i < ws.length) : (ws.map V.str).getD i .non = .str (ws.getD i Str.empty) := by
  rw [List.getD_eq_getElem?_getD, List.getElem?_map, List.getElem?_eq_getElem hi, List.getD_eq_getElem?_getD, List.getElem?_eq_getElem hi]
  rfl
end LH
namespace LH
open PySem PySem.Spec PyProof.Rows L2
/-! ### and, or of values, each part told by its truth -/
theorem andV {ta tb : TE} {σ : L2.St} {H : Hp} {Q : VK} (c d : Bool) (ha : ∀ Q' : VK, Tell H (.bl c) Q' → ta σ H Q') (hb : c = true → ∀ (H1 : Hp) (Q' : VK), Same H H1 → Tell H1 (.bl d) Q' → tb σ H1 Q') (q : Tell H (.bl (c && d)) Q) : tAndV ta tb σ H Q := by
  refine ha _ fun H1 s1 => ⟨c, rfl, ?_⟩
  cases c with
  | true => exact iteT (hb rfl H1 Q s1 fun H2 s2 => q H2 (s1.trans s2))
  | false => exact iteF (q H1 s1)
theorem orV {ta tb : TE} {σ : L2.St} {H : Hp} {Q : VK} (c d : Bool) (ha : ∀ Q' : VK, Tell H (.bl c) Q' → ta σ H Q') (hb : c = false → ∀ (H1 : Hp) (Q' : VK), Same H H1 → Tell H1 (.bl d) Q' → tb σ H1 Q') (q : Tell H (.bl (c || d)) Q) : tOrV ta tb σ H Q := by
  refine ha _ fun H1 s1 => ⟨c, rfl, ?_⟩
  cases c with
  | true => exact iteT (q H1 s1)
  | false => exact iteF (hb rfl H1 Q s1 fun H2 s2 => q H2 (s1.trans s2))
/-- two blanks side by side -/
def dbl (s : Nat) (l : List Nat) : Bool := (List.range l.length).any fun i => decide (l[i]? = some s) && decide (l[i + 1]? = some s)
theorem dbl_iff (s : Nat) (l : List Nat) : dbl s l = true ↔ ∃ i, l[i]? = some s ∧ l[i + 1]? = some s := by
  unfold dbl
  rw [List.any_eq_true]
  constructor
  · rintro ⟨i, _, h⟩
    rw [Bool.and_eq_true, decide_eq_true_eq, decide_eq_true_eq] at h
    exact ⟨i, h⟩
  · rintro ⟨i, h1, h2⟩
    refine ⟨i, List.mem_range.mpr (List.getElem?_eq_some_iff.mp h1).1, ?_⟩
    rw [Bool.and_eq_true, decide_eq_true_eq, decide_eq_true_eq]
    exact ⟨h1, h2⟩
theorem take2 (s : Nat) : ∀ (l : List Nat) (i : Nat), (l.drop i).take 2 = [s, s] ↔ l[i]? = some s ∧ l[i + 1]? = some s
  | [], i => by simp
  | c :: r, 0 => by cases r <;> simp
  | c :: r, i + 1 => by simpa using take2 s r i
theorem in_two {x y : Str} {s : Nat} (hy : TL.tl y = [s, s]) : (!(Builtin.Str.occurrences x y 0 x.length 1).isEmpty) = dbl s (TL.tl x) := by
  rw [Bool.eq_iff_iff, PySem.StrLaws.found_iff, dbl_iff]
  have hyl : y.length = 2 := by rw [TL.len_tl, hy]; rfl
  constructor
  · rintro ⟨i, h1, h2⟩
    rw [PySem.StrLaws.subAt_eq, hyl] at h2
    exact ⟨i, (take2 s _ i).mp ((eq_of_beq h2).trans hy)⟩
  · rintro ⟨i, h⟩
    have hl := (List.getElem?_eq_some_iff.mp h.2).1
    refine ⟨i, by rw [hyl, TL.len_tl]; omega, ?_⟩
    rw [PySem.StrLaws.subAt_eq, hyl]
    refine beq_iff_eq.mpr ?_
    rw [show x.cps.toList = TL.tl x from rfl, (take2 s _ i).mpr h]
    exact hy.symm
theorem take1 (s : Nat) (l : List Nat) : l.take 1 = [s] ↔ l[0]? = some s := by cases l <;> simp
theorem dropL (s : Nat) (l : List Nat) : l.drop (l.length - 1) = [s] ↔ ∃ i, l[i]? = some s ∧ l[i + 1]? = none := by
  constructor
  · intro h
    refine ⟨l.length - 1, ?_, ?_⟩
    · have := congrArg (fun m : List Nat => m[0]?) h
      simpa using this
    · rw [List.getElem?_eq_none_iff]; omega
  · rintro ⟨i, h1, h2⟩
    obtain ⟨hl, e⟩ := List.getElem?_eq_some_iff.mp h1
    have hl2 := List.getElem?_eq_none_iff.mp h2
    have : i = l.length - 1 := by omega
    subst this
    rw [List.drop_eq_getElem_cons hl, e, List.drop_of_length_le (by omega)]
theorem blanks_iff (s : Nat) (l : List Nat) (h0 : l ≠ []) : (decide (l.take 1 = [s]) || (decide (l.drop (l.length - 1) = [s]) || dbl s l)) = decide ([] ∈ splitL s l) := by
  rw [Bool.eq_iff_iff, Bool.or_eq_true, Bool.or_eq_true, decide_eq_true_eq, decide_eq_true_eq, dbl_iff, decide_eq_true_eq, split_gap, take1, dropL]
  constructor
  · rintro (h | ⟨i, h1, h2⟩ | ⟨i, h1, h2⟩)
    · exact .inr (.inl h)
    · exact .inr (.inr ⟨i, h1, .inl h2⟩)
    · exact .inr (.inr ⟨i, h1, .inr h2⟩)
  · rintro (h | h | ⟨i, h1, h2 | h2⟩)
    · exact absurd h h0
    · exact .inl h
    · exact .inr (.inl ⟨i, h1, h2⟩)
    · exact .inr (.inr ⟨i, h1, h2⟩)
theorem cutS_last (z : Str) : TL.tl (cutS z (some (-1)) none) = (TL.tl z).drop ((TL.tl z).length - 1) := by
  unfold cutS
  rw [HT.sIx_none]
  have e : HT.sIx z.length 0 (some (-1)) = z.length - 1 := by
    show (if (-1 : Int) < 0 then (-1 + ((z.length : Nat) : Int)).toNat else min (-1 : Int).toNat z.length) = _
    rw [if_pos (by decide)]
    omega
  rw [e]
  show ((TL.tl z).drop (z.length - 1)).take (z.length - (z.length - 1)) = _
  rw [TL.len_tl]
  exact List.take_of_length_le (by rw [List.length_drop]; exact Nat.le_refl _)
end LH
namespace LH
open PySem PySem.Spec PyProof.Rows L2
theorem pickL {α : Type} (xs : List α) (m : Int) (h0 : 0 ≤ m) (h1 : m < xs.length) : ∃ x, x ∈ xs ∧ atI xs m = some x := by
  obtain ⟨j, rfl⟩ : ∃ j : Nat, m = (j : Int) := ⟨m.toNat, by omega⟩
  have hj : j < xs.length := by omega
  exact ⟨xs[j], List.getElem_mem hj, atI_nat (List.getElem?_eq_getElem hj)⟩
/-- a thing that is no text -/
def Odd (H : Hp) (x : V) : Prop := x = .non ∨ (∃ i, x = .int i) ∨ (∃ b, x = .bl b) ∨ ∃ a, x = .ref a ∧ ((∃ xs, H a = some (.lst xs)) ∨ (∃ xs, H a = some (.tup xs)) ∨ ∃ kvs, H a = some (.dK kvs))
theorem Odd.same {H H' : Hp} {x : V} (s : Same H H') (h : Odd H x) : Odd H' x := by
  rcases h with h | h | h | ⟨a, e, h⟩
  · exact .inl h
  · exact .inr (.inl h)
  · exact .inr (.inr (.inl h))
  · refine .inr (.inr (.inr ⟨a, e, ?_⟩))
    rcases h with ⟨xs, h⟩ | ⟨xs, h⟩ | ⟨xs, h⟩
    · exact .inl ⟨xs, s _ _ h⟩
    · exact .inr (.inl ⟨xs, s _ _ h⟩)
    · exact .inr (.inr ⟨xs, s _ _ h⟩)
theorem Odd.ty {K : PySem.W.Frag} {H : Hp} {x : V} (h : Odd H x) : ∃ t, TyX K H x t ∧ PySem.W.kitOne K t (.type "str") = some false := by
  rcases h with rfl | ⟨i, rfl⟩ | ⟨b, rfl⟩ | ⟨a, rfl, ⟨xs, h⟩ | ⟨xs, h⟩ | ⟨xs, h⟩⟩
  · exact ⟨_, .base .non, kit_ty (by decide +kernel)⟩
  · exact ⟨_, .base (.int i), kit_ty (by decide +kernel)⟩
  · exact ⟨_, .base (.bl b), kit_ty (by decide +kernel)⟩
  · exact ⟨_, .base (.lst h), kit_ty (by decide +kernel)⟩
  · exact ⟨_, .base (.tup h), kit_ty (by decide +kernel)⟩
  · exact ⟨_, .base (.dK h), kit_ty (by decide +kernel)⟩
end LH

namespace LH
open PySem PySem.Spec PySem.Calls PyProof.Rows L2
/-! ### enumerate(text) -/
/-- the signs of x, each in a new pair with its number -/
def ItES (x : Str) : It :=
  ⟨fun i _ => i < x.cps.size, fun i H v H' => ∃ T c, v = .ref T ∧ H T = none ∧ H' = upd H T (.tup [.int (i : Nat), .str ⟨#[c]⟩]) ∧ x.cps[i]? = some c, fun i _ => x.cps.size = i⟩
theorem turn_enumS {P : Program} {w : World} {K : PySem.W.Frag} {elts : List Expr} {kk : Nat} {tpos : Pos} (x : Str) (t : Tok) (e it : Addr) :
    Turn P w K (.Tuple elts kk tpos) (ItES x) [e, it] e (fun i h => (∃ old, IsEnum h e it ((i : Nat) : Int) old) ∧ h.IsStrIter it (strIterType x) x t i ∧ e ≠ it) where
  mem := by simp
  obj := fun i h st b hb => by
    obtain ⟨⟨old, he⟩, ⟨o, ho, hc, hd⟩, _⟩ := st
    have e' : b = e ∨ b = it := by simpa using hb
    rcases e' with z | z
    · rw [z]; exact ⟨_, he, fun v q => nomatch q⟩
    · rw [z]; exact ⟨o, ho, fun v q => by rw [hd] at q; cases q⟩
  keep := fun i h h' st k => let ⟨⟨old, he⟩, ⟨o, ho, r⟩, hne⟩ := st; ⟨⟨old, k e (by simp) _ he⟩, ⟨o, k it (by simp) o ho, r⟩, hne⟩
  item := by
    intro X hP hw hK hc i pins s σ H E I hf st hg
    subst hP hw hK
    obtain ⟨⟨old, he⟩, hit, hne⟩ := st
    have hel : e < s.heap.objs.size := Heap.lt_size he
    have hil : it < s.heap.objs.size := by obtain ⟨_, q, _⟩ := hit; exact Heap.lt_size q
    refine wpAny_pyNext_enum_itemD (Draws.text (A := X.A.in1) (I.ok.hd hc) it x t) he hit hg hne (by simpa using hne) fun v h' tk hv ho hit' hT hsz hk => ?_
    obtain ⟨c, u, hcx, rfl⟩ := hv
    refine ⟨_, rfl, wpAny_letOwnedTupleGo_enum (s := { s with heap := h', toks := tk + 1 }) ho fun h'' he' sb => ?_⟩
    have hT2 : h''.get? s.heap.objs.size = some { cls := .type "tuple", data := .seq #[.int i tk, .str ⟨#[c]⟩ u] } := (sb.2 _ (Nat.ne_of_gt hel)).trans hT
    have new : ObjOk X.prog X.w (upd H s.heap.objs.size (.tup [.int (i : Nat), .str ⟨#[c]⟩])) h'' s.heap.objs.size (.tup [.int (i : Nat), .str ⟨#[c]⟩]) :=
      ⟨by show 2 ≤ sizeLine; decide, [.int i tk, .str ⟨#[c]⟩ u], .cons ⟨_, rfl⟩ (.cons ⟨_, rfl⟩ .nil), ⟨_, hT2, rfl, _, rfl⟩⟩
    have I1 : Inv X pins σ (upd H s.heap.objs.size (.tup [.int (i : Nat), .str ⟨#[c]⟩])) { s with heap := h'', toks := tk + 1 } :=
      I.turnedNew (ch := [e, it]) (fun b ob hb q => (sb.2 b (fun z => hb (by simp [z]))).trans (hk b ob (fun z => hb (by simp [z])) (fun z => hb (by simp [z])) q)) hf (Nat.le_refl _) new
    refine ⟨.ref s.heap.objs.size, _, I1, rfl, ⟨_, c, rfl, I.hok.fresh (Nat.le_refl _), rfl, hcx⟩, ⟨⟨.str ⟨#[c]⟩ u, ?_⟩, ?_, hne⟩, fun b hb => ?_⟩
    · have e1 : ((i + 1 : Nat) : Int) = (i : Int) + 1 := by omega
      rw [e1]; exact he'
    · obtain ⟨o, ho', r⟩ := hit'
      exact ⟨o, (sb.2 it (Ne.symm hne)).trans ho', r⟩
    · have hb' : b < s.heap.objs.size := by
        have e' : b = e ∨ b = it := by simpa using hb
        rcases e' with z | z
        · rw [z]; exact hel
        · rw [z]; exact hil
      rw [upd_ne (Nat.ne_of_lt hb')]
      exact (hf b hb).1
  done := by
    intro X hP hw hK hc i pins s σ H E I hf st hg
    subst hP hw hK
    obtain ⟨⟨old, he⟩, hit, hne⟩ := st
    obtain ⟨f0, f1, f2, f3, f4, f5⟩ := hf it (by simp)
    have heq : x.cps.size = i := hg
    subst heq
    exact wpAny_pyNext_enum_endD (Draws.text (A := X.A.in1) (I.ok.hd hc) it x t) he hit fun h' eb => ⟨rfl, I.turned (t' := s.toks) (fun b o hb q => eb b o hb q) f0 f1 f3 f4 f5⟩
  self := fun A i s Q E st h => let ⟨⟨_, he⟩, _⟩ := st; wpAny_pyIter_enum he h
def iEnumS (ta : TA) : TI := fun σ H R => ta σ H fun vs H1 => ∃ x, vs = [.str x] ∧ R (ItES x) H1
theorem pi_enumS {X : Cx} {e : Expr} {ta : TA} {p pos tpos : Pos} {elts : List Expr} {kk : Nat} (hg : Gl X "enumerate") (hm : X.mg "enumerate" = none) (ha : PA X [e] ta) (hs : starEach [e] X.env = [(false, eval e X.env)] := by rfl) :
    PI X (.Tuple elts kk tpos) (.Call (.Name "enumerate" p) [e] [] pos) (iEnumS ta) := by
  refine ⟨fun pins s σ H R I h => ?_⟩
  refine Call_ (ld_blt I hg hm boot_enumerate (PyProof.Rows.callWith_type1 (thn (ha.run pos pins s σ H _ I h) fun us s1 ⟨vs, H1, I1, r1, q1⟩ => ?_) hs rfl))
  obtain ⟨x, ex, q⟩ := q1
  subst ex
  cases r1 with
  | cons r rr =>
    cases rr
    obtain ⟨t, rfl⟩ := r
    refine call_enumerate_str fun h' he hit hsz hk => wpAny_pyIter_enum he ?_
    have I2 : Inv X pins σ H1 { s1 with heap := h' } := I1.kept (t' := s1.toks) hk
    refine ⟨s1.heap.objs.size + 1, [s1.heap.objs.size + 1, s1.heap.objs.size], _, _, H1, rfl, I2, turn_enumS x t (s1.heap.objs.size + 1) s1.heap.objs.size, ⟨⟨.none, he⟩, hit, Nat.succ_ne_self _⟩, fun b hb => ?_, q⟩
    have e' : b = s1.heap.objs.size + 1 ∨ b = s1.heap.objs.size := by simpa using hb
    have hle : s1.heap.objs.size ≤ b := by
      rcases e' with z | z
      · rw [z]; exact Nat.le_add_right _ _
      · rw [z]; exact Nat.le_refl _
    exact I1.fpOk hle (I1.hok.fresh hle)
theorem walk_enumS {x : Str} : Walk (ItES x) (TL.tl x).length (fun _ => True) (YPair (fun i => some (.int (i : Nat))) (fun i => some (.str ⟨#[(TL.tl x).getD i 0]⟩))) := by
  have e : (TL.tl x).length = x.cps.size := Array.length_toList
  rw [e]
  refine ⟨fun i _ hi q => hi, fun _ q => rfl, fun i H v H' _ q y => ?_⟩
  obtain ⟨T, c, h1, h2, h3, h4⟩ := y
  have : (TL.tl x)[i]? = some c := by rw [← h4]; exact Array.getElem?_toList
  exact ⟨T, .int (i : Nat), .str ⟨#[c]⟩, h1, h2, h3, rfl, by show some (V.str ⟨#[(TL.tl x).getD i 0]⟩) = _; rw [List.getD_eq_getElem?_getD, this]; rfl⟩
end LH

namespace LH
open PySem PySem.Spec PyProof.Rows L2
/-! ### tests told by their truth; an if by its two branches -/
def TellB (H : Hp) (c : Bool) (k : Bool → Hp → Prop) : Prop := ∀ H1, Same H H1 → k c H1
section
variable {t u : TT} {σ : L2.St} {H : Hp} {k : Bool → Hp → Prop}
theorem orT (c d : Bool) (ha : ∀ k', TellB H c k' → t σ H k') (hb : c = false → ∀ H1 k', Same H H1 → TellB H1 d k' → u σ H1 k') (q : TellB H (c || d) k) : tOr t u σ H k := by
  refine ha _ fun H1 s1 => ?_
  cases c with
  | true => exact iteT (q H1 s1)
  | false => exact iteF (hb rfl H1 k s1 fun H2 s2 => q H2 (s1.trans s2))
theorem andT (c d : Bool) (ha : ∀ k', TellB H c k' → t σ H k') (hb : c = true → ∀ H1 k', Same H H1 → TellB H1 d k' → u σ H1 k') (q : TellB H (c && d) k) : tAnd t u σ H k := by
  refine ha _ fun H1 s1 => ?_
  cases c with
  | true => exact iteT (hb rfl H1 k s1 fun H2 s2 => q H2 (s1.trans s2))
  | false => exact iteF (q H1 s1)
theorem notT (c : Bool) (ha : ∀ k', TellB H c k' → t σ H k') (q : TellB H (!c) k) : tNot t σ H k := ha _ fun H1 s1 => q H1 s1
theorem ifT {tc : TT} {t u : TS} {D : Ends} (c : Bool) (hc : ∀ k', TellB H c k' → tc σ H k') (ht : c = true → ∀ H1, Same H H1 → t D σ H1) (hf : c = false → ∀ H1, Same H H1 → u D σ H1) : tIfS tc t u D σ H := by
  refine hc _ fun H1 s1 => ?_
  cases c with
  | true => exact iteT (ht rfl H1 s1)
  | false => exact iteF (hf rfl H1 s1)
theorem ifK {tc : TT} {t u : TS} {D : Ends} (G : ∀ D' : Ends, D' = D → tIfS tc t u D' σ H) : tIfS tc t u D σ H := G D rfl
theorem TellB.eq {c d : Bool} (h : c = d) (q : TellB H d k) : TellB H c k := h ▸ q
end
/-! ### lengths and signs of slices -/
theorem cutTo_len (z : Str) (p : Nat) : (cutS z none (some (p : Int))).length = min p z.length := by rw [cutS_to, mk_len, List.length_take, ← TL.len_tl]
theorem cutFrom_len (z : Str) (p : Nat) : (cutS z (some (p : Int)) none).length = z.length - p := by rw [cutS_from, mk_len, List.length_drop, ← TL.len_tl]
theorem mem_cut {z : Str} {lo hi : Option Int} {c : Nat} (h : c ∈ TL.tl (cutS z lo hi)) : c ∈ TL.tl z := List.mem_of_mem_drop (List.mem_of_mem_take h)
theorem cutV_from (z : List V) (a : Nat) : cutV z (some (a : Int)) none = z.drop a := by
  have e : cutV z (some (a : Int)) none = cutV z (some (a : Int)) (some ((z.length : Nat) : Int)) := by
    unfold cutV
    rw [HT.sIx_none, HT.sIx_nat, HT.sIx_nat]
    simp
  rw [e, cutV_at, List.take_of_length_le (by simp)]
theorem vint_dec (a b : Int) : decide (V.int a = V.int b) = decide (a = b) := decide_eq_decide.mpr ⟨V.int.inj, congrArg _⟩
theorem vstr_dec (a b : Str) : decide (V.str a = V.str b) = decide (a = b) := decide_eq_decide.mpr ⟨V.str.inj, congrArg _⟩
theorem or_false' {a b : Bool} (h : (a || b) = false) : a = false ∧ b = false := by cases a <;> cases b <;> simp_all
end LH
namespace LH
open PySem PySem.Spec PyProof.Rows L2
/-! ### while, its test told by its truth -/
theorem whileT {c : TT} {tb : TS} {D : Ends} {σ : L2.St} {H : Hp} (Pv : L2.St → Hp → Prop) (μ : L2.St → Hp → Nat) (h0 : Pv σ H)
    (hs : ∀ σ H, Pv σ H → ∃ b : Bool, (∀ k, TellB H b k → c σ H k) ∧ (b = true → ∀ H1, Same H H1 → tb { D with nx := fun σ' H' => Pv σ' H' ∧ μ σ' H' < μ σ H, ct := fun σ' H' => Pv σ' H' ∧ μ σ' H' < μ σ H, bk := D.nx } σ H1) ∧ (b = false → ∀ H1, Same H H1 → D.nx σ H1)) : tWhile c tb D σ H := by
  refine ⟨fun m σ H => m = μ σ H ∧ Pv σ H, ⟨_, rfl, h0⟩, ?_⟩
  rintro m σ H ⟨rfl, p⟩
  obtain ⟨b, ht, h1, h2⟩ := hs σ H p
  refine ht _ fun H1 s1 => ?_
  cases b with
  | true => exact ⟨_, fun σ' H' ⟨p', l⟩ => ⟨_, l, rfl, p'⟩, h1 rfl H1 s1⟩
  | false => exact h2 rfl H1 s1
end LH

namespace LH
open PySem PySem.Spec PySem.Calls PyProof.Rows L2 Builtin Builtin.Str Builtin.Int Builtin.Float
/-! ### a number by a written form -/
def FmtI (sp : Str) (i : Int) (y : Str) : Prop := ∀ (prog : Program) (w : World) (A : Around) (E : Value → Shared → Prop) (s : Shared) (t : Tok) (Q : Value → Shared → Prop), (∀ t' k, Q (.str y t') { s with toks := k }) → wpAny (model prog w) A (formatField (.int i t) sp) Q E s
def hexF : FormatSpec := { fill := 48, align := 61, width := some 2, type := some 88 }
def hexT (i : Int) : Str := intField' hexF (decide (i < 0)) [] ((Nat.toDigits 16 i.natAbs).map fun c => (if (88 : Nat) == 88 then c.toUpper else c).toNat) [] 4
theorem hex_parse : parseFormatSpec (Str.ofString "02X").cps.toList "int" 62 = .ok hexF := by kernel_rfl
def hexDig (n : Nat) : Nat := if n < 10 then 48 + n else 55 + n
theorem hexT_eq {b : Nat} (h : b < 256) : hexT (b : Nat) = ⟨#[hexDig (b / 16), hexDig (b % 16)]⟩ := by
  have : ∀ d : Fin 256, (hexT (d.val : Nat)).cps.toList = [hexDig (d.val / 16), hexDig (d.val % 16)] := by decide +kernel
  exact TL.ext_tl (this ⟨b, h⟩)
set_option maxHeartbeats 4000000 in
theorem fmt_hex {b : Nat} (h : b < 256) : FmtI (Str.ofString "02X") (b : Nat) ⟨#[hexDig (b / 16), hexDig (b % 16)]⟩ := by
  intro prog w A E s t Q q
  have hlen : (hexT (b : Nat)).length ≤ sizeLine := by rw [hexT_eq h, sizeLine_eq]; show 2 ≤ 16777216; decide
  rw [← hexT_eq h] at q
  refine PySem.W.KXf.field_int (spec' := Str.ofString "02X") (y := hexT (b : Nat)) rfl (by decide +kernel) (by decide +kernel) ?_ q
  intro _
  apply PySem.W.KPc.meets_of
  intro _ _ _ _ _ _ _
  unfold Builtin.«int.__format__»
  refine wpAny_bind (wpAny_of_eq (a := (_, _)) rfl ?_)
  refine wpAny_bind (wpAny_of_eq (a := _) rfl ?_)
  kxf_if
  refine wpAny_bind (wpAny_typeNameOf (T := "str") (typeIs_str _ _ _) (by decide) fun _ => ?_)
  refine wpAny_bind (wpAny_of_eq (a := some _) rfl ?_)
  kxf_if
  kxf_if
  refine wpAny_bind (wpAny_typeNameOfCut_int ?_)
  simp only [hex_parse, hexF]
  (repeat kxf_if)
  refine PySem.W.KXf.ret_text (T := hexT (b : Nat)) rfl hlen ?_
  assumption
/-! ### a number by figures, noughts ahead -/
def decF (k : Nat) : FormatSpec := { fill := 48, align := 61, width := some k, type := some 100 }
def decT (k : Nat) (i : Int) : Str := intField' (decF k) (decide (i < 0)) [] ((Nat.toDigits 10 i.natAbs).map fun c => (if (100 : Nat) == 88 then c.toUpper else c).toNat) [] 3
theorem dec2_parse : parseFormatSpec (Str.ofString "02d").cps.toList "int" 62 = .ok (decF 2) := by kernel_rfl
theorem dec4_parse : parseFormatSpec (Str.ofString "04d").cps.toList "int" 62 = .ok (decF 4) := by kernel_rfl
theorem dec2_eq {b : Nat} (h : b < 100) : decT 2 (b : Nat) = ⟨#[48 + b / 10, 48 + b % 10]⟩ := by
  have : ∀ d : Fin 100, (decT 2 (d.val : Nat)).cps.toList = [48 + d.val / 10, 48 + d.val % 10] := by decide +kernel
  exact TL.ext_tl (this ⟨b, h⟩)
section
variable {X : Cx}
def tFmtS (te : TE) (sp : Str) : TE := fun σ H Q => te σ H fun x H1 => ∃ i y, x = .int i ∧ FmtI sp i y ∧ Q (.str y) H1
theorem pe_fmtS {e spec : Expr} {te : TE} {sp : Str} {pos : Pos} (he : PE X e te) (hs : PE X spec (tC (.str sp))) : PE X (.FormattedValue e (-1) (some spec) pos) (tFmtS te sp) := by
  refine ⟨fun pins s σ H Q I h => ?_⟩
  refine wpAny_FormattedValue_spec (thn (he.run pins s σ H _ I h) fun v s1 hv => ?_)
  obtain ⟨x, H1, I1, r1, i, y, rfl, hf, q⟩ := hv
  obtain ⟨t, rfl⟩ := r1
  refine thn (hs.run pins s1 σ H1 (fun z H2 => z = .str sp ∧ Q (.str y) H2) I1 ⟨rfl, q⟩) fun v2 s2 hv => ?_
  obtain ⟨z, H2, I2, r2, rfl, q2⟩ := hv
  obtain ⟨t2, rfl⟩ := r2
  exact ⟨sp, t2, rfl, hf _ _ _ _ _ _ _ fun t' k => ⟨.str y, H2, I2.tok _, ⟨_, rfl⟩, q2⟩⟩
end
end LH

namespace LH
open PySem PySem.Spec PyProof.Rows L2
/-! ### o[i] op= e of a list -/
def rGetL (K : PySem.W.Frag) : V → V → Hp → VK → Prop := fun o i H Q => ∃ p xs k v, o = .ref p ∧ i = .int k ∧ SqL K H p xs ∧ atI xs k = some v ∧ Q v H
theorem get_list {X : Cx} : PGet X (rGetL X.K) := by
  intro pins s σ H x y v u Q I rx ry h
  obtain ⟨p, xs, i, z, rfl, rfl, hq, he, q⟩ := h
  cases rx
  obtain ⟨t, rfl⟩ := ry
  obtain ⟨its, r, pl, hz⟩ := I.list hq
  obtain ⟨j, h1, h2, h3, h4, h5⟩ := atI_get he
  obtain ⟨w, ew, rw'⟩ := r.get h2
  have hl := r.length
  have hn := line63
  have fin : EP X pins σ Q w s := ⟨z, H, I, rw', q⟩
  by_cases h0 : 0 ≤ i
  · have hj : i.toNat = j := by
      rw [seqIndex_of h0 h5] at h1
      exact Option.some.inj h1
    exact wpAny_getItem_list pl.isList h0 (by omega) (by rw [hj]; simpa using ew) fin
  · have hj : (i + (its.toArray.size : Int)).toNat = j := by
      rw [seqIndex_neg (by omega) h4] at h1
      rw [List.size_toArray, ← hl]
      exact Option.some.inj h1
    exact wpAny_getItem_list_neg pl.isList (by omega) (by rw [List.size_toArray] <;> omega) (by omega) (by rw [hj]; simpa using ew) fin
theorem get_listK {X : Cx} (K : PySem.W.Frag) (h : X.K = K := by rfl) : PGet X (rGetL K) := h ▸ get_list
theorem ixN_last {α : Type} (xs : List α) (v : α) : ixN (xs ++ [v]).length (-1) = some xs.length := by
  have hl : (xs ++ [v]).length = xs.length + 1 := by simp
  unfold ixN
  rw [hl, if_neg (by decide), if_pos (by omega)]
  congr 1
  omega
theorem set_last {α : Type} (xs : List α) (v u : α) : (xs ++ [v]).set xs.length u = xs ++ [u] := by
  rw [List.set_append_right _ _ (Nat.le_refl _), Nat.sub_self]
  rfl
/-! ### small letters made great -/
def Sm (l : List Nat) : Prop := ∀ c ∈ l, 97 ≤ c ∧ c ≤ 122
def cap : List Nat → List Nat
  | [] => []
  | c :: r => (c - 32) :: r
theorem title_small {c : Nat} (h : 97 ≤ c ∧ c ≤ 122) : Unicode.titleOf c = [c - 32] := by
  have : ∀ d : Fin 26, Unicode.titleOf (97 + d.val) = [97 + d.val - 32] := by decide +kernel
  have e := this ⟨c - 97, by omega⟩
  rwa [show 97 + (c - 97) = c by omega] at e
theorem upper_small {c : Nat} (h : 97 ≤ c ∧ c ≤ 122) : Unicode.upperOf c = [c - 32] := by
  have : ∀ d : Fin 26, Unicode.upperOf (97 + d.val) = [97 + d.val - 32] := by decide +kernel
  have e := this ⟨c - 97, by omega⟩
  rwa [show 97 + (c - 97) = c by omega] at e
theorem lower_small {c : Nat} (h : 97 ≤ c ∧ c ≤ 122) : Unicode.lowerOf c = [c] := by
  have : ∀ d : Fin 26, Unicode.lowerOf (97 + d.val) = [97 + d.val] := by decide +kernel
  have e := this ⟨c - 97, by omega⟩
  rwa [show 97 + (c - 97) = c by omega] at e
theorem tl_placed (x : Str) (f : Nat → Nat → List Nat) : TL.tl ⟨placed x f⟩ = ((TL.tl x).mapIdx f).flatten := by
  unfold placed TL.tl
  simp only [Array.toList_flatten, Array.toList_mapIdx]
  congr 1
  apply List.ext_getElem?
  intro i
  rw [List.getElem?_map, List.getElem?_mapIdx, List.getElem?_mapIdx]
  cases x.cps.toList[i]? <;> rfl
theorem mapIdx_same {f g : Nat → Nat → List Nat} : ∀ l : List Nat, (∀ i c, l[i]? = some c → f i c = g i c) → l.mapIdx f = l.mapIdx g := fun l h => by
  apply List.ext_getElem?
  intro i
  rw [List.getElem?_mapIdx, List.getElem?_mapIdx]
  cases e : l[i]? with
  | none => rfl
  | some c => exact congrArg some (h i c e)
theorem flat_one : ∀ l : List Nat, (l.mapIdx fun _ c => [c]).flatten = l := by
  intro l
  rw [List.mapIdx_eq_zipIdx_map]
  induction l with
  | nil => rfl
  | cons c r ih =>
    have : ∀ (l : List Nat) (n : Nat), ((l.zipIdx n).map fun (p : Nat × Nat) => [p.1]).flatten = l := by
      intro l
      induction l with
      | nil => intro n; rfl
      | cons c r ih => intro n; rw [List.zipIdx_cons, List.map_cons, List.flatten_cons, ih]; rfl
    exact this _ 0
theorem cap_eq (x : Str) (h : Sm (TL.tl x)) : TL.tl (Txt.capitalize x) = cap (TL.tl x) := by
  unfold Txt.capitalize
  by_cases h0 : (x.length == 0) = true
  · rw [if_pos h0]
    have : TL.tl x = [] := by
      have e := eq_of_beq h0
      rw [TL.len_tl] at e
      exact List.length_eq_zero_iff.mp e
    rw [this]
    rfl
  · rw [if_neg h0]
    unfold Txt.capitalized
    rw [tl_placed, mapIdx_same (g := fun i c => if i = 0 then [c - 32] else [c]) _ fun i c hc => ?_]
    · cases e : TL.tl x with
      | nil => rfl
      | cons c r =>
        rw [List.mapIdx_cons, List.flatten_cons]
        show [c - 32] ++ _ = (c - 32) :: r
        have : (r.mapIdx fun i c => if i + 1 = 0 then [c - 32] else [c]) = r.mapIdx fun _ c => [c] := mapIdx_same r fun i c _ => if_neg (by omega)
        rw [this, flat_one]
        rfl
    · have hm := h c (List.mem_of_getElem? hc)
      by_cases hi : i = 0
      · subst hi
        exact title_small hm
      · have hb : (i == 0) = false := by simpa using hi
        rw [if_neg hi]
        show (if (i == 0) = true then Unicode.titleOf c else Unicode.lowerAt x.cps i) = [c]
        rw [hb, if_neg Bool.false_ne_true]
        unfold Unicode.lowerAt
        have ec : x.cps[i]? = some c := by rw [← hc]; exact Array.getElem?_toList.symm
        rw [ec]
        show (if (c == 0x3A3 && Unicode.endsWord x.cps i) = true then [0x3C2] else Unicode.lowerOf c) = [c]
        have hb2 : (c == 0x3A3) = false := by simp; omega
        rw [hb2, Bool.false_and, if_neg Bool.false_ne_true]
        exact lower_small hm
theorem upper_eq (x : Str) (h : Sm (TL.tl x)) : TL.tl (Txt.upper x) = (TL.tl x).map fun c => c - 32 := by
  unfold Txt.upper
  rw [tl_placed, mapIdx_same (g := fun _ c => [c - 32]) _ fun i c hc => upper_small (h c (List.mem_of_getElem? hc))]
  generalize TL.tl x = l
  have : (l.mapIdx fun _ c => [c - 32]) = (l.map fun c => c - 32).mapIdx fun _ c => [c] := by
    apply List.ext_getElem?
    intro i
    rw [List.getElem?_mapIdx, List.getElem?_mapIdx, List.getElem?_map]
    cases l[i]? <;> rfl
  rw [this, flat_one]
theorem upper_cap (x : Str) (h : Sm (TL.tl x)) : TL.tl (Txt.upper (cutS x none (some 1)) ++ cutS x (some 1) none) = cap (TL.tl x) := by
  have e1 : TL.tl (cutS x none (some 1)) = (TL.tl x).take 1 := by rw [show (1 : Int) = ((1 : Nat) : Int) from rfl, cutS_to]
  have e2 : TL.tl (cutS x (some 1) none) = (TL.tl x).drop 1 := by rw [show (1 : Int) = ((1 : Nat) : Int) from rfl, cutS_from]
  rw [TL.tl_append, upper_eq _ (by rw [e1]; exact fun c hc => h c (List.mem_of_mem_take hc)), e1, e2]
  cases TL.tl x with
  | nil => rfl
  | cons c r => simp [cap]
theorem cap_len (l : List Nat) : (cap l).length = l.length := by cases l <;> rfl
/-! ### words of a text -/
/-- a word's signs: none of them a blank -/
def WordL (l : List Nat) : Prop := l ≠ [] ∧ ∀ c ∈ l, 33 ≤ c ∧ c ≤ 126 ∧ c ≠ 37
theorem space_no {c : Nat} (h : 33 ≤ c ∧ c ≤ 126) : Unicode.isSpace c = false := by
  have : ∀ d : Fin 94, Unicode.isSpace (33 + d.val) = false := by decide +kernel
  have e := this ⟨c - 33, by omega⟩
  rwa [show 33 + (c - 33) = c by omega] at e
theorem words_join (ws : List Str) (h : ∀ x ∈ ws, WordL (TL.tl x)) (sp : Str) (hs : TL.tl sp = [32]) : Txt.words (Txt.join sp ws) = ws := by
  refine TL.map_tl_inj ?_
  rw [TL.words_tl, TL.join_eq, TL.tl_join, hs]
  cases ws with
  | nil => rfl
  | cons x r =>
    rw [TL.wfold_join _ _ (by simp) fun p hp => ?_, List.nil_append]
    obtain ⟨y, hy, rfl⟩ := List.mem_map.mp hp
    exact ⟨(h y hy).1, fun c hc => space_no ⟨((h y hy).2 c hc).1, ((h y hy).2 c hc).2.1⟩⟩
/-! ### joined by a sign and split there again -/
theorem splitL_app (s : Nat) (w r : List Nat) (hw : s ∉ w) : splitL s (w ++ s :: r) = w :: splitL s r := by
  induction w with
  | nil => simp [splitL]
  | cons c w ih =>
    have hc : c ≠ s := fun h => hw (by rw [h]; exact List.mem_cons_self)
    have ih' := ih fun h => hw (List.mem_cons_of_mem _ h)
    show splitL s (c :: (w ++ s :: r)) = _
    rw [splitL, if_neg hc, ih']
    rfl
theorem splitL_self (s : Nat) (w : List Nat) (hw : s ∉ w) : splitL s w = [w] := by
  induction w with
  | nil => rfl
  | cons c w ih =>
    have hc : c ≠ s := fun h => hw (by rw [h]; exact List.mem_cons_self)
    rw [splitL, if_neg hc, ih fun h => hw (List.mem_cons_of_mem _ h)]
    rfl
theorem splitL_join (s : Nat) : ∀ ps : List (List Nat), ps ≠ [] → (∀ p ∈ ps, s ∉ p) → splitL s (TL.joinL [s] ps) = ps
  | [], h, _ => absurd rfl h
  | [p], _, h => splitL_self s p (h p (by simp))
  | p :: q :: r, _, h => by
    rw [TL.joinL]
    show splitL s (p ++ s :: TL.joinL [s] (q :: r)) = _
    rw [splitL_app s p _ (h p (by simp)), splitL_join s (q :: r) (by simp) fun x hx => h x (List.mem_cons_of_mem _ hx)]
/-! ### a header's rows -/
def hstep (st : List (List Nat) × List Nat) (w : List Nat) : List (List Nat) × List Nat :=
  if 60 < st.2.length + 1 + w.length then (st.1 ++ [st.2], 32 :: w) else (st.1, st.2 ++ 32 :: w)
def great (l : List Nat) : List Nat := TL.joinL [45] ((splitL 45 l).map cap)
def hfold (l : List Nat) (ws : List (List Nat)) : List (List Nat) × List Nat := ws.foldl hstep ([], great l ++ [58])
def hrows (l : List Nat) (ws : List (List Nat)) : List (List Nat) := (hfold l ws).1 ++ [(hfold l ws).2]
def strL (ls : List (List Nat)) : List Str := ls.map fun l => ⟨l.toArray⟩
theorem strL_app (a b : List (List Nat)) : strL (a ++ b) = strL a ++ strL b := by unfold strL; rw [List.map_append]
theorem hfold_snoc (l : List Nat) (ws : List (List Nat)) (w : List Nat) : hfold l (ws ++ [w]) = hstep (hfold l ws) w := by
  unfold hfold
  rw [List.foldl_append]
  rfl
theorem foldl_rev_ind {P : List (List Nat) → Prop} (h0 : P []) (hs : ∀ ws w, P ws → P (ws ++ [w])) : ∀ ws, P ws := by
  intro ws
  have key : ∀ r : List (List Nat), P r.reverse := by
    intro r
    induction r with
    | nil => exact h0
    | cons w r ih => rw [List.reverse_cons]; exact hs _ _ ih
  have := key ws.reverse
  rwa [List.reverse_reverse] at this
theorem hfold_len (l : List Nat) (hl : (great l).length ≤ 59) : ∀ ws : List (List Nat), (∀ w ∈ ws, w.length ≤ 59) → (hfold l ws).2.length ≤ 60 ∧ (∀ r ∈ (hfold l ws).1, r.length ≤ 60) ∧ (hfold l ws).1.length ≤ ws.length := by
  refine foldl_rev_ind (P := fun ws => (∀ w ∈ ws, w.length ≤ 59) → (hfold l ws).2.length ≤ 60 ∧ (∀ r ∈ (hfold l ws).1, r.length ≤ 60) ∧ (hfold l ws).1.length ≤ ws.length) ?_ ?_
  · intro _
    refine ⟨?_, (fun r hr => by cases hr), Nat.le_refl _⟩
    show (great l ++ [58]).length ≤ 60
    rw [List.length_append, List.length_singleton]
    omega
  · intro ws w ih h
    obtain ⟨h1, h2, h3⟩ := ih fun x hx => h x (by simp [hx])
    have hw := h w (by simp)
    rw [hfold_snoc]
    unfold hstep
    split
    · refine ⟨by simp only [List.length_cons]; omega, fun r hr => ?_, by simp only [List.length_append, List.length_singleton]; omega⟩
      rcases List.mem_append.mp hr with hr | hr
      · exact h2 r hr
      · rw [List.mem_singleton.mp hr]; exact h1
    · refine ⟨by simp only [List.length_append, List.length_cons]; omega, h2, by simp only [List.length_append, List.length_singleton]; omega⟩
theorem hfold_ok (l : List Nat) (hl : ∀ c ∈ great l, c < 1114112) : ∀ ws : List (List Nat), (∀ w ∈ ws, ∀ c ∈ w, c < 1114112) → (∀ c ∈ (hfold l ws).2, c < 1114112) ∧ ∀ r ∈ (hfold l ws).1, ∀ c ∈ r, c < 1114112 := by
  refine foldl_rev_ind (P := fun ws => (∀ w ∈ ws, ∀ c ∈ w, c < 1114112) → (∀ c ∈ (hfold l ws).2, c < 1114112) ∧ ∀ r ∈ (hfold l ws).1, ∀ c ∈ r, c < 1114112) ?_ ?_
  · intro _
    refine ⟨fun c hc => ?_, fun r hr => by cases hr⟩
    rcases List.mem_append.mp (show c ∈ great l ++ [58] from hc) with h | h
    · exact hl c h
    · rw [List.mem_singleton.mp h]; decide
  · intro ws w ih h
    obtain ⟨h1, h2⟩ := ih fun x hx => h x (by simp [hx])
    have hw := h w (by simp)
    have hw' : ∀ c ∈ 32 :: w, c < 1114112 := fun c hc => by
      rcases List.mem_cons.mp hc with rfl | hc
      · decide
      · exact hw c hc
    rw [hfold_snoc]
    unfold hstep
    split
    · refine ⟨hw', fun r hr => ?_⟩
      rcases List.mem_append.mp hr with hr | hr
      · exact h2 r hr
      · rw [List.mem_singleton.mp hr]; exact h1
    · refine ⟨fun c hc => ?_, h2⟩
      rcases List.mem_append.mp hc with h | h
      · exact h1 c h
      · exact hw' c h
end LH

set_option maxHeartbeats 2000000
namespace LH
open PySem PySem.Spec PyProof.Rows L2
/-! ### an exception that is caught and held as a value -/
/-- the exception object at a: its class, its own dict -/
def ExH (cls : Value) (d : Option Addr) (a : Addr) : HO := .ext fun h => ∃ (oe : Obj) (fv : Array Value), h.get? a = some oe ∧ (oe.cls = cls ∧ oe.dict = d) ∧ oe.data = .fields fv
section
variable {X : Cx} {pins : List (Addr × Obj)} {σ : L2.St} {H : Hp} {s : Shared}
theorem hold_inv {a : Addr} {oe : Obj} {fv : Array Value} {cls : Value} {d : Option Addr} (I : Inv X pins σ H s) (ha : s.heap.get? a = some oe) (hz : Zc cls d oe) (hd : oe.data = .fields fv) (na : H a = none) (nL : a ≠ X.env.locals)
    (n0 : X.s_0.heap.get? a = none) (np : ∀ p ∈ X.pn ++ pins, p.1 ≠ a) : Inv X pins σ (upd H a (ExH cls d a)) s := by
  have far : ∀ {b : Addr} {u : HO}, H b = some u → b ≠ a := fun e => ne_of_none e na
  have old : ∀ {b : Addr} {o : Obj}, X.s_0.heap.get? b = some o → b ≠ a := fun {b o} e z => by
    subst z
    rw [n0] at e
    exact nomatch e
  have noCell : ∀ {y : Str} {c : Addr}, X.env.cells.lookup y = some c → c ≠ a := fun {y c} e z => by
    obtain ⟨v, o, ho, hv⟩ := I.cell y c e
    subst z
    rw [ha] at ho
    cases ho
    rw [hd] at hv
    exact nomatch hv
  have keepU : ∀ {b : Addr} {u : HO}, H b = some u → upd H a (ExH cls d a) b = some u := fun e => (upd_ne (far e)).trans e
  have base' : Un X.fs X.ex X.H_0 (upd H a (ExH cls d a)) X.s_0.heap s.heap :=
    { keep := I.base.keep, slot := I.base.slot, there := I.base.there, free := fun b o e n hx => (upd_ne (old e)).trans (I.base.free b o e n hx), tups := fun b xs e => keepU (I.base.tups b xs e), frzs := fun b o u e => keepU (I.base.frzs b o u e),
      tbls := fun b ps e => (I.base.tbls b ps e).imp fun _ q => keepU q }
  have hok' : HOk X.prog X.w (upd H a (ExH cls d a)) s.heap := fun b ob e => by
    by_cases hb : b = a
    · subst hb
      rw [upd_same] at e
      cases e
      exact ⟨⟨oe, fv, ha, hz, hd⟩, ⟨oe, ha⟩, fun _ _ ⟨o, v, q, r⟩ k => ⟨o, v, k o q, r⟩⟩
    · rw [upd_ne hb] at e
      exact (I.hok b ob e).stay (fun _ _ _ q => q) (fun _ q => keepU q) fun _ _ q => keepU q
  exact { ok := I.ok, os := I.os, bare := I.bare, base := base', loc := I.loc, cell := I.cell, free := (upd_ne (Ne.symm nL)).trans I.free, freeC := fun y c e => (upd_ne (noCell e)).trans (I.freeC y c e),
          pin := fun p hp => ⟨(I.pin p hp).1, (upd_ne (np p hp)).trans (I.pin p hp).2.1, (I.pin p hp).2.2⟩, hok := hok', len := I.len }
/-- what such a clause wishes of the body's exception: it is of the class, and the suite's end stands with the object held -/
def wHold (K : PySem.W.Frag) (c : Value) (i : Nat) (ts : TS) (D : Ends) : WX := fun cls d σ H =>
  PySem.W.exmOne K cls c = some true ∧ ∀ a, H a = none → ts { nx := fun σ' H' => H' a = none → D.nx (σ'.set i none) (upd H' a (ExH cls d a)), rt := fun _ _ => False, bk := fun _ _ => False, ct := fun _ _ => False } (σ.set i (some (.ref a))) H
theorem ps_try_hold {x n : Str} {c : Value} {i : Nat} {body rest : List Stmt} {b0 : Stmt} {np pos pos' : Pos} {tb : WX → TS} {ts : TS} (hs : X.stack = X.env :: X.outer) (hf : X.env.frame = some X.env.locals) (hx : X.ex = []) (hN : X.N.Nodup) (hi : X.N[i]? = some n)
    (hln : X.env.kindOf n = some .local) (hc : Names X x c) (hb : ∀ (W : WX) (pn : List (Addr × Obj)) (xe : Value → Shared → Prop), Takes (X.tr pn xe) W → PassesOwn (model X.prog X.w) X.A X.env xe → PSs (X.tr pn xe) body (tb W))
    (hsu : ∀ (a : Addr) (oe : Obj) (pn : List (Addr × Obj)), PSs (X.suite a ((a, oe) :: pn)) (b0 :: rest) ts) :
    PS X (.Try body [.ExceptHandler (some (.Name x np)) (some n) (b0 :: rest) pos'] [] [] pos) (fun D σ H => tb (wHold X.K c i ts D) D σ H) := by
  constructor
  intro pins s σ H D I h
  have hok := I.ok
  have hframes : X.A.frames = some (X.env :: X.outer) := hok.frames.trans (by rw [hs])
  apply wpAny_Try_except
  refine wpAny_mono (PSs.run (hb (wHold X.K c i ts D) (X.pn ++ pins) _ (fun u s' air => ?_) PassesOwn.looking) [] s σ H D (I.toTry _) h) (fun f s1 done => ?_) (fun _ _ z => z)
  · -- an exception is in the air
    obtain ⟨a, B, sI, pins', σ1, H1, cls, d, rfl, J1, nb, up, sky, na, os, ag, fits, wish⟩ := air
    have J : Inv X pins σ1 H1 sI := Inv.ofTry J1 hok
    refine Sky.land (Z := Zc cls d) Zc.steady hframes hf (by rw [hs] at sky; exact sky) fun g fly upg => ?_
    have Jg : Inv X pins σ1 H1 { s' with heap := g } := Inv.landed J nb fly.1 (Heap.UpToSlots.trans up upg) os ag
    obtain ⟨og, fg, hog, zg, dg⟩ := HandSPX.FlyingZ.there fly
    have offFrames : a ∉ frs (X.env :: X.outer) := fun hm => by
      obtain ⟨_, o', e', hno⟩ := fly.2.2.1.mem hm
      rw [hog] at e'
      cases e'
      exact hno _ dg
    have offLocals : a ≠ X.env.locals := fun z => offFrames (List.mem_filterMap.mpr ⟨X.env, by simp, by rw [hf, z]⟩)
    have offFs : a ∉ X.fs := fun hm => by
      obtain ⟨ev, hev, q⟩ := List.mem_filterMap.mp hm
      exact offFrames (List.mem_filterMap.mpr ⟨ev, List.mem_cons_of_mem _ hev, q⟩)
    have gone : sI.heap.get? a = none := by
      cases e : sI.heap.get? a with
      | none => rfl
      | some o => exact absurd ((nb a o e (by rw [hs]; exact offFrames)).symm.trans fly.2.1) (fun z => nomatch z)
    have new0 : X.s_0.heap.get? a = none := by
      cases e : X.s_0.heap.get? a with
      | none => rfl
      | some o =>
        obtain ⟨o', e'⟩ := J.base.there a o e (by rw [hx]; exact List.not_mem_nil)
        rw [gone] at e'
        exact nomatch e'
    have offPins : ∀ p ∈ X.pn ++ pins, p.1 ≠ a := fun p hp z => by
      have e' := (J.pin p hp).1
      rw [z, gone] at e'
      exact nomatch e'
    have Sg := Inv.suite Jg hog dg na offLocals offFs
    refine wpAny_handleBy_cons (codeAny_handlers_test ?_) (fun q => nomatch q)
    have seen := PySem.W.exm_one (M := model X.prog X.w) Jg.kIn (fun A' Q' E' t k q => wpAny_typeOf_ref (k _ _ hog) (by rw [zg.1]; exact q)) fits
    have named : ∀ {Q : Value → Shared → Prop} {E : Value → Shared → Prop}, Q c { s' with heap := g } → wpAny (model X.prog X.w) (X.A.mark (some (.ref a))) (eval (.Name x np) X.env) Q E { s' with heap := g } := fun {Q E} q => by
      rcases hc with ⟨hg, hdbg, hm | ⟨hm, hv, hnn⟩⟩
      · exact ld_glob (X := X.suite a ((a, og) :: (X.pn ++ pins))) Sg hg hm q hdbg
      · exact ld_blt (X := X.suite a ((a, og) :: (X.pn ++ pins))) Sg hg hm hv q hnn hdbg
    refine named (seen.here (codeAny_handlers_suite_as (HandSPX.lands_againZ fly fun k flk upk => ?_)))
    have Jk : Inv X pins σ1 H1 { s' with heap := k } := Inv.landed J nb flk.1 (Heap.UpToSlots.trans (Heap.UpToSlots.trans up upg) upk) os ag
    obtain ⟨ok', fk, hok4, zk, dk⟩ := HandSPX.FlyingZ.there flk
    have Sk := Inv.suite Jk hok4 dk na offLocals offFs
    refine store_ok (X := X.suite a ((a, ok') :: (X.pn ++ pins))) (v := .ref a) Sk hN hi (.inl hln) rfl (fun t St' => ?_) (.inr hln)
    refine wpAny_mono ((hsu a ok' (X.pn ++ pins)).run [] t _ H1 _ St' (wish a na)) (fun fl t1 end1 => ?_) (fun _ _ z => z.elim)
    cases fl with
    | next =>
      obtain ⟨σ2, H2, S2, q2⟩ := end1
      refine gone_ok (X := X.suite a ((a, ok') :: (X.pn ++ pins))) S2 hN hi hln fun t2 S3 => ?_
      obtain ⟨e3, n3, _⟩ := S3.pin (a, ok') (by simp)
      exact ⟨_, _, hold_inv (Inv.unsuite S3 hok) e3 zk dk n3 offLocals new0 offPins, q2 n3⟩
    | brk => obtain ⟨_, _, _, q2⟩ := end1; exact q2.elim
    | cont => obtain ⟨_, _, _, q2⟩ := end1; exact q2.elim
    | ret u => obtain ⟨_, _, _, _, _, q2⟩ := end1; exact q2.elim
  · -- nothing was raised
    cases f with
    | next => obtain ⟨σ1, H1, J1, q⟩ := done; exact wpAny_execs_nil ⟨σ1, H1, Inv.ofTry J1 hok, q⟩
    | brk => obtain ⟨σ1, H1, J1, q⟩ := done; exact ⟨σ1, H1, Inv.ofTry J1 hok, q⟩
    | cont => obtain ⟨σ1, H1, J1, q⟩ := done; exact ⟨σ1, H1, Inv.ofTry J1 hok, q⟩
    | ret u => obtain ⟨v, σ1, H1, J1, r, q⟩ := done; exact ⟨v, σ1, H1, Inv.ofTry J1 hok, r, q⟩
end
end LH
namespace LH
open PySem PySem.Spec PyProof.Rows L2
/-! ### isinstance of a held exception; a walk over pairs -/
theorem getD_app_l {α : Type} (xs ys : List α) (d : α) {i : Nat} (h : i < xs.length) : (xs ++ ys).getD i d = xs.getD i d := by
  rw [List.getD_eq_getElem?_getD, List.getD_eq_getElem?_getD, List.getElem?_append_left h]
theorem getD_app_r {α : Type} (xs ys : List α) (d : α) {i : Nat} (h : xs.length ≤ i) : (xs ++ ys).getD i d = ys.getD (i - xs.length) d := by
  rw [List.getD_eq_getElem?_getD, List.getD_eq_getElem?_getD, List.getElem?_append_right h]
/-- isinstance(e, c), e a held exception of the class at D without an own dict -/
def rIsH (K : PySem.W.Frag) : List V → Hp → VK → Prop := fun xs H Q => ∃ (a D : Addr) (c : V) (cv : Value) (b : Bool), xs = [.ref a, c] ∧ H a = some (ExH (.ref D) none a) ∧ ExcC K D ∧ (∀ u, RelV c u → u = cv) ∧ PySem.W.kitOne K (.ref D) cv = some b ∧ Q (.bl b) H
theorem call_isH {X : Cx} : CallR X (.builtin "isinstance") (rIsH X.K) := by
  intro pins s σ H xs us Q I r h
  obtain ⟨a, D, c, cv, b, rfl, ha, C, hcv, e, q⟩ := h
  obtain ⟨u1, u2, rfl, r1, r2⟩ := vals2 r
  cases (show u1 = Value.ref a from r1)
  obtain rfl := hcv _ r2
  obtain ⟨⟨oe, fv, hget, ⟨h1, h2⟩, h3⟩, _, _⟩ := (show ObjOk X.prog X.w H s.heap a (ExH (.ref D) none a) from I.hok a _ ha)
  have J : PySem.W.InstAt s.heap a oe D none := by
    obtain ⟨oc, od, oda, osl⟩ := oe
    dsimp only at h1 h2 h3
    subst h1 h2 h3
    exact ⟨hget, rfl, rfl, trivial⟩
  exact PySem.W.kia_one (PySem.W.handS_kitx_exc C.hg C.hk C.hs C.hd C.ha C.hn C.ht C.hm) I.kIn J e (fun z => nomatch z) fun tk => ⟨.bl b, H, I.kept (t' := tk) fun _ _ z => z, rfl, q⟩
theorem cIsH {X : Cx} (K : PySem.W.Frag) (h : X.K = K := by rfl) : CallR X (.builtin "isinstance") (rIsH K) := h ▸ call_isH
/-- a comprehension with a test over a list of pairs (tuples that stand), its element f i -/
theorem lc_pairs {K : PySem.W.Frag} {a : Addr} {ts : List Addr} {ps : Nat → V × V} {tt : TT} {te : TE} {c1 c2 : Nat} {σ : L2.St} {H1 : Hp} {D : Addr} {Qd : Hp → Prop} (f : Nat → V) (b : Nat → Bool) (hne : c1 ≠ c2) (hL : SqL K H1 a (ts.map V.ref)) (hT : ∀ i, i < ts.length → SqT K H1 (ts.getD i 0) [(ps i).1, (ps i).2])
    (hD : H1 D = none) (hn : ts.length ≤ sizeLine)
    (ht : ∀ (i : Nat) (H : Hp) (Q : Bool → Hp → Prop), i < ts.length → Same H1 H → (∀ H', Same H H' → Q (b i) H') → tt ((((σ.set c2 none).set c1 none).set c1 (some (ps i).1)).set c2 (some (ps i).2)) H Q)
    (he : ∀ i H Q, i < ts.length → Same H1 H → b i = true → Tell H (f i) Q → te ((((σ.set c2 none).set c1 none).set c1 (some (ps i).1)).set c2 (some (ps i).2)) H Q)
    (hd : ∀ H, Same H1 H → H D = some (.lst (((List.range ts.length).filter b).map f)) → Qd H) :
    ∃ W : Nat → Nat → Hp → Prop, (∃ m, W 0 m (upd H1 D (.lst []))) ∧ ∀ i m H, W i m H →
      ((Itl K a).stop i H ∧ Qd H) ∨ ((Itl K a).go i H ∧ ∃ Nx : Hp → Prop, (∀ H', Nx H' → ∃ m', m' < m ∧ W (i + 1) m' H') ∧ ∀ x H', (Itl K a).yld i H x H' → gTup K 2 (gCons (gName c1) (gCons (gName c2) gNil)) x (wipe σ [c1, c2]) H' fun σ2 H2 => wipe σ2 [c1, c2] = wipe σ [c1, c2] ∧ tt σ2 H2 fun b H3 =>
        if b = true then te σ2 H3 fun y H4 => ∃ acc, H4 D = some (.lst acc) ∧ acc.length < sizeLine ∧ Nx (upd H4 D (.lst (acc ++ [y]))) else Nx H3) := by
  have hm : (ts.map V.ref).length = ts.length := List.length_map ..
  refine lc_it walk_list (fun i H => Same H1 H ∧ H D = some (.lst (((List.range i).filter b).map f))) ⟨same_upd hD, upd_same⟩ (fun i H _ h => h.1.seq hL) (fun i x H H' hi hP hy => ?_) (fun H h => hd H h.1 (by rw [← hm]; exact h.2))
  obtain ⟨sm, eD⟩ := hP
  obtain ⟨rfl, hx⟩ := hy
  rw [hm] at hi
  rw [List.getElem?_map, List.getElem?_eq_getElem hi] at hx
  obtain rfl := Option.some.inj hx
  have hTi := hT i hi
  rw [List.getD_eq_getElem?_getD, List.getElem?_eq_getElem hi] at hTi
  refine ⟨ts[i], _, rfl, seqT sm hTi, rfl, _, _, rfl, _, _, rfl, rfl, ?_, ?_⟩
  · show (((((σ.set c2 none).set c1 none).set c1 (some (ps i).1)).set c2 (some (ps i).2)).set c2 none).set c1 none = (σ.set c2 none).set c1 none
    rw [List.set_set, List.set_set, List.set_comm _ _ hne, List.set_set, List.set_comm _ _ hne.symm, List.set_comm _ _ hne, List.set_set]
  · refine ht i H' _ hi sm fun H2 s2 => ?_
    cases hb : b i with
    | true =>
      rw [if_pos rfl]
      refine he i H2 _ hi (sm.trans s2) hb fun H3 s3 => ⟨_, s3 _ _ (s2 _ _ eD), ?_, ?_, ?_⟩
      · rw [List.length_map]
        have := List.length_filter_le b (List.range i)
        rw [List.length_range] at this
        omega
      · intro b' o hb'
        rw [upd_ne (ne_of_none hb' hD)]
        exact s3 _ _ (s2 _ _ (sm _ _ hb'))
      · rw [upd_same, List.range_succ, List.filter_append, List.map_append]
        simp [hb]
    | false =>
      rw [if_neg Bool.false_ne_true]
      refine ⟨sm.trans s2, ?_⟩
      rw [s2 _ _ eD, List.range_succ, List.filter_append, List.map_append]
      simp [hb]
end LH
namespace LH
open PySem PySem.Spec PyProof.Rows L2
section
variable {P : Program} {w : World} {K : PySem.W.Frag} {mg : Str → Option Value} {base : Heap} {k : Nat} {f : Addr} {fd : FuncData} {ps : List Str} {sp sp' : Sp} {CX : CXT}
/-- what lets nothing out may stand where something may be let out -/
theorem fn_toX (F : FnOk P w K mg base CX0 k f fd ps sp) : FnOk P w K mg base CX k f fd ps sp :=
  ⟨F.len, fun A outer s H args us vs Q E hr he hb hv hs => codeAny_mono (F.run A outer s H args us vs Q E hr he hb hv hs) fun r s' h => by
    cases r with
    | ok r => cases r <;> exact h
    | error e => exact h.elim⟩
/-- two promises of one def -/
theorem fn_or (F : FnOk P w K mg base CX k f fd ps sp) (G : FnOk P w K mg base CX k f fd ps sp') : FnOk P w K mg base CX k f fd ps (fun vs H Q E => sp vs H Q E ∨ sp' vs H Q E) :=
  ⟨fun vs H Q E h => h.elim (F.len vs H Q E) (G.len vs H Q E), fun A outer s H args us vs Q E hr he hb hv hs => hs.elim (F.run A outer s H args us vs Q E hr he hb hv) (G.run A outer s H args us vs Q E hr he hb hv)⟩
end
end LH

namespace LH
open PySem PySem.Spec PyProof.Rows L2
/-! ### small letters of great ones -/
def lowC (c : Nat) : Nat := if 65 ≤ c ∧ c ≤ 90 then c + 32 else c
theorem lower_C {c : Nat} (h : c < 128) : Unicode.lowerOf c = [lowC c] := by
  have : ∀ d : Fin 128, Unicode.lowerOf d.val = [lowC d.val] := by decide +kernel
  exact this ⟨c, h⟩
theorem lower_eq (x : Str) (h : ∀ c ∈ TL.tl x, c < 128) : TL.tl (Txt.lower x) = (TL.tl x).map lowC := by
  unfold Txt.lower
  rw [tl_placed, mapIdx_same (g := fun _ c => [lowC c]) _ fun i c hc => ?_]
  · generalize TL.tl x = l
    have : (l.mapIdx fun _ c => [lowC c]) = (l.map lowC).mapIdx fun _ c => [c] := by
      apply List.ext_getElem?
      intro i
      rw [List.getElem?_mapIdx, List.getElem?_mapIdx, List.getElem?_map]
      cases l[i]? <;> rfl
    rw [this, flat_one]
  · have hm := h c (List.mem_of_getElem? hc)
    unfold Unicode.lowerAt
    have ec : x.cps[i]? = some c := by rw [← hc]; exact Array.getElem?_toList.symm
    rw [ec]
    show (if (c == 0x3A3 && Unicode.endsWord x.cps i) = true then [0x3C2] else Unicode.lowerOf c) = [lowC c]
    have hb2 : (c == 0x3A3) = false := by simp; omega
    rw [hb2, Bool.false_and, if_neg Bool.false_ne_true]
    exact lower_C hm
theorem low_small {c : Nat} (h : 97 ≤ c ∧ c ≤ 122) : lowC c = c := by
  unfold lowC
  rw [if_neg (by omega)]
theorem low_cap : ∀ l : List Nat, Sm l → (cap l).map lowC = l
  | [], _ => rfl
  | c :: r, h => by
    have hc := h c (by simp)
    show lowC (c - 32) :: r.map lowC = c :: r
    have e : lowC (c - 32) = c := by unfold lowC; rw [if_pos (by omega)]; omega
    have er : r.map lowC = r := by
      have : ∀ l : List Nat, Sm l → l.map lowC = l := by
        intro l
        induction l with
        | nil => intro _; rfl
        | cons d r ih => intro h; rw [List.map_cons, low_small (h d (by simp)), ih fun x hx => h x (by simp [hx])]
      exact this r fun x hx => h x (by simp [hx])
    rw [e, er]
theorem joinL_map (f : Nat → Nat) (S : List Nat) : ∀ ps : List (List Nat), (TL.joinL S ps).map f = TL.joinL (S.map f) (ps.map fun p => p.map f)
  | [] => rfl
  | [p] => rfl
  | p :: q :: r => by
    have ih := joinL_map f S (q :: r)
    rw [TL.joinL, List.map_append, List.map_append, ih]
    rfl
theorem joinL_split (s : Nat) : ∀ l : List Nat, TL.joinL [s] (splitL s l) = l
  | [] => rfl
  | c :: r => by
    have ih := joinL_split s r
    have e := splitL_eta s r
    unfold splitL
    by_cases h : c = s
    · rw [if_pos h]
      generalize splitL s r = w at *
      cases w with
      | nil => exact nomatch e
      | cons x t =>
        rw [TL.joinL, ih, h]
        rfl
    · rw [if_neg h]
      generalize splitL s r = w at *
      cases w with
      | nil => exact nomatch e
      | cons x t =>
        show TL.joinL [s] ((c :: x) :: t) = c :: r
        rw [← ih]
        cases t with
        | nil => rfl
        | cons y t => rw [TL.joinL, TL.joinL]; rfl
theorem low_great {l : List Nat} (h : ∀ x ∈ splitL 45 l, Sm x) : (great l).map lowC = l := by
  unfold great
  rw [joinL_map, List.map_map]
  have e : (splitL 45 l).map ((fun p => p.map lowC) ∘ cap) = splitL 45 l := by
    have : ∀ ws : List (List Nat), (∀ x ∈ ws, Sm x) → ws.map ((fun p => p.map lowC) ∘ cap) = ws := by
      intro ws
      induction ws with
      | nil => intro _; rfl
      | cons x r ih => intro h; rw [List.map_cons, ih fun y hy => h y (by simp [hy])]; exact congrArg (· :: r) (low_cap x (h x (by simp)))
    exact this _ h
  rw [e]
  exact joinL_split 45 l
theorem great_length {l : List Nat} (h : ∀ x ∈ splitL 45 l, Sm x) : (great l).length = l.length := by
  have := congrArg List.length (low_great h)
  rwa [List.length_map] at this
/-! ### the beginning of a row that may be a name -/
def isLet (c : Nat) : Bool := (decide (97 ≤ c) && decide (c ≤ 122)) || (decide (65 ≤ c) && decide (c ≤ 90))
def nsig : Nat → Nat → List Nat → Nat
  | _, _, [] => 0
  | w, k, c :: r => if c = 45 ∧ 0 < k ∧ w < 3 then 1 + nsig (w + 1) 0 r else if isLet c = true ∧ k < 8 then 1 + nsig w (k + 1) r else 0
theorem let_no_dash {c : Nat} (h : isLet c = true) : c ≠ 45 ∧ c ≠ 58 ∧ c < 128 := by
  unfold isLet at h
  simp only [Bool.or_eq_true, Bool.and_eq_true, decide_eq_true_eq] at h
  omega
theorem nsig_word : ∀ (p r : List Nat) (w k : Nat), (∀ c ∈ p, isLet c = true) → k + p.length ≤ 8 → nsig w k (p ++ r) = p.length + nsig w (k + p.length) r
  | [], r, w, k, _, _ => by simp
  | c :: p, r, w, k, h, hl => by
    have hc := h c (by simp)
    have hd := let_no_dash hc
    rw [List.length_cons] at hl
    rw [List.cons_append, nsig, if_neg (fun z => hd.1 z.1), if_pos ⟨hc, by omega⟩, nsig_word p r w (k + 1) (fun x hx => h x (by simp [hx])) (by omega), List.length_cons, show k + 1 + p.length = k + (p.length + 1) by omega]
    omega
theorem nsig_join (r : List Nat) : ∀ (ps : List (List Nat)) (w : Nat), ps ≠ [] → w + ps.length ≤ 4 → (∀ p ∈ ps, (∀ c ∈ p, isLet c = true) ∧ 1 ≤ p.length ∧ p.length ≤ 8) → nsig w 0 (TL.joinL [45] ps ++ 58 :: r) = (TL.joinL [45] ps).length
  | [], _, h, _, _ => absurd rfl h
  | [p], w, _, _, h => by
    have hp := h p (by simp)
    show nsig w 0 (p ++ 58 :: r) = p.length
    rw [nsig_word p _ w 0 hp.1 (by omega), nsig, if_neg (fun z => absurd z.1 (by decide)), if_neg (fun z => absurd z.1 (by decide))]
    rfl
  | p :: q :: t, w, _, hl, h => by
    have hp := h p (by simp)
    rw [List.length_cons, List.length_cons] at hl
    have ih := nsig_join r (q :: t) (w + 1) (by simp) (by rw [List.length_cons]; omega) fun x hx => h x (List.mem_cons_of_mem _ hx)
    rw [TL.joinL, List.append_assoc, nsig_word p _ w 0 hp.1 (by omega)]
    show p.length + nsig w (0 + p.length) (45 :: (TL.joinL [45] (q :: t) ++ 58 :: r)) = (p ++ 45 :: TL.joinL [45] (q :: t)).length
    rw [nsig, if_pos ⟨rfl, by omega, by omega⟩, ih, List.length_append, List.length_cons]
    omega
/-! ### words each behind a blank -/
def spw (us : List (List Nat)) : List Nat := (us.map fun u => 32 :: u).flatten
theorem spw_app (a b : List (List Nat)) : spw (a ++ b) = spw a ++ spw b := by unfold spw; rw [List.map_append, List.flatten_append]
theorem spw_join (u : List Nat) : ∀ us : List (List Nat), spw (u :: us) = 32 :: TL.joinL [32] (u :: us)
  | [] => by simp [spw, TL.joinL]
  | v :: us => by
    have ih := spw_join v us
    have e : spw (u :: v :: us) = (32 :: u) ++ spw (v :: us) := by unfold spw; rw [List.map_cons, List.flatten_cons]
    rw [e, ih, TL.joinL]
    rfl
theorem words_spw (x : Str) (us : List (List Nat)) (hx : TL.tl x = spw us) (h : ∀ u ∈ us, WordL u) : (Txt.words x).map TL.tl = us := by
  rw [TL.words_tl, hx]
  cases us with
  | nil => rfl
  | cons u us =>
    rw [spw_join, List.foldl_cons]
    have e : TL.wstep ([], []) 32 = ([], []) := by
      unfold TL.wstep
      rw [if_pos (by decide +kernel), if_pos rfl]
    rw [e, TL.wfold_join _ _ (by simp) fun p hp => ⟨(h p hp).1, fun c hc => space_no ⟨((h p hp).2 c hc).1, ((h p hp).2 c hc).2.1⟩⟩, List.nil_append]
/-! ### a header's rows by their words -/
/-- the rows of a header: its first words behind the name, then rows of at least one word -/
def rowsBy (l : List Nat) (us0 : List (List Nat)) (uss : List (List (List Nat))) : List (List Nat) := (great l ++ 58 :: spw us0) :: uss.map spw
theorem hrows_by (l : List Nat) : ∀ ws : List (List Nat), ∃ us0 uss, hrows l ws = rowsBy l us0 uss ∧ us0 ++ uss.flatten = ws ∧ ∀ us ∈ uss, us ≠ [] := by
  refine foldl_rev_ind (P := fun ws => ∃ us0 uss, hrows l ws = rowsBy l us0 uss ∧ us0 ++ uss.flatten = ws ∧ ∀ us ∈ uss, us ≠ []) ⟨[], [], rfl, rfl, fun _ h => by cases h⟩ ?_
  rintro ws w ⟨us0, uss, e, ew, hne⟩
  unfold hrows at e ⊢
  rw [hfold_snoc]
  generalize hfold l ws = st at *
  obtain ⟨d, c⟩ := st
  unfold hstep
  by_cases h : 60 < c.length + 1 + w.length
  · rw [if_pos h]
    refine ⟨us0, uss ++ [[w]], ?_, ?_, ?_⟩
    · show (d ++ [c]) ++ [32 :: w] = _
      have e' : d ++ [c] = rowsBy l us0 uss := e
      rw [e']
      unfold rowsBy
      rw [List.map_append]
      simp [spw]
    · rw [List.flatten_append, ← List.append_assoc, ew]; simp
    · intro us hus
      rcases List.mem_append.mp hus with h | h
      · exact hne us h
      · rw [List.mem_singleton.mp h]; simp
  · rw [if_neg h]
    have e' : d ++ [c] = rowsBy l us0 uss := e
    rcases List.eq_nil_or_concat uss with rfl | ⟨t, u, rfl⟩
    · refine ⟨us0 ++ [w], [], ?_, ?_, fun _ h => by cases h⟩
      · show d ++ [c ++ 32 :: w] = _
        unfold rowsBy at e' ⊢
        have hd : d = [] := by
          cases d with
          | nil => rfl
          | cons x r => have := congrArg List.length e'; simp at this
        subst hd
        have hc : c = great l ++ 58 :: spw us0 := by simpa using e'
        rw [hc, spw_app]
        simp [spw]
      · rw [← ew]; simp
    · refine ⟨us0, t ++ [u ++ [w]], ?_, ?_, ?_⟩
      · show d ++ [c ++ 32 :: w] = _
        unfold rowsBy at e' ⊢
        rw [List.concat_eq_append, List.map_append, List.map_singleton, ← List.cons_append] at e'
        have h1 := List.append_inj' e' rfl
        have hc : c = spw u := by simpa using h1.2
        rw [List.map_append, List.map_singleton, ← List.cons_append, ← h1.1, hc, spw_app]
        simp [spw]
      · rw [← ew]; simp
      · intro us hus
        rcases List.mem_append.mp hus with h | h
        · exact hne us (by simp [h])
        · rw [List.mem_singleton.mp h]; simp
/-! ### one sign at a text's head -/
theorem starts_one (x y : Str) (s : Nat) (hy : TL.tl y = [s]) : Txt.startswith x y = decide ((TL.tl x)[0]? = some s) := by
  unfold Txt.startswith
  have hyl : y.length = 1 := by rw [TL.len_tl, hy]; rfl
  rw [PySem.StrLaws.subAt_eq, hyl, Bool.eq_iff_iff, Bool.and_eq_true, decide_eq_true_eq, decide_eq_true_eq]
  rw [show x.cps.toList = TL.tl x from rfl, show y.cps.toList = TL.tl y from rfl, hy, List.drop_zero, TL.len_tl]
  cases TL.tl x with
  | nil => simp
  | cons c r => simp
end LH

namespace LH
open PySem PySem.Spec PyProof.Rows L2
/-! ### a text parted at a sign -/
theorem part_at (x y : Str) (c : Nat) (p r : List Nat) (hy : TL.tl y = [c]) (hx : TL.tl x = p ++ c :: r) (hp : c ∉ p) : TL.tl (Txt.partition x y).1 = p ∧ TL.tl (Txt.partition x y).2.2 = r := by
  obtain rfl : y = ⟨#[c]⟩ := TL.ext_tl hy
  have hm0 : x.cps.toList[p.length]? = some c := by
    show (TL.tl x)[p.length]? = some c
    rw [hx]; simp
  have hn0 : ∀ k, k < p.length → x.cps.toList[k]? ≠ some c := fun k hk e => by
    have e' : (TL.tl x)[k]? = some c := e
    rw [hx, List.getElem?_append_left hk] at e'
    exact hp (List.mem_of_getElem? e')
  have hlen : x.length = p.length + (r.length + 1) := by rw [TL.len_tl, hx, List.length_append, List.length_cons]
  unfold Txt.partition
  rcases StrLaws.occ_head x ⟨#[c]⟩ 1 (Nat.le_refl 1) with ⟨h0, hn⟩ | ⟨i, q, h0, hi, hn⟩
  · exact absurd ((StrLaws.subAt_one x c p.length).mpr hm0) (hn _)
  · rw [h0]
    have hm := (StrLaws.subAt_one x c i).mp hi
    have e : i = p.length := by
      rcases Nat.lt_trichotomy i p.length with h | h | h
      · exact absurd hm (hn0 i h)
      · exact h
      · exact absurd ((StrLaws.subAt_one x c p.length).mpr hm0) (hn _ h)
    subst e
    constructor
    · show (Builtin.Str.strSub x 0 p.length).cps.toList = p
      rw [StrLaws.strSub_toList]
      show ((TL.tl x).drop 0).take (p.length - 0) = p
      rw [hx]; simp
    · show (Builtin.Str.strSub x (p.length + 1) x.length).cps.toList = r
      rw [StrLaws.strSub_toList]
      show ((TL.tl x).drop (p.length + 1)).take (x.length - (p.length + 1)) = r
      rw [hx, hlen, show p.length + 1 = p.length + 1 from rfl, List.drop_append, List.drop_of_length_le (by omega)]
      simp
      rw [List.take_of_length_le (by omega)]
theorem part_lens (x y : Str) : (Txt.partition x y).1.length ≤ x.length ∧ (Txt.partition x y).2.2.length ≤ x.length := ⟨(fact_partition x y).1, (fact_partition x y).2.2⟩
/-- str.join inside a comprehension's block -/
theorem pe_joinK {X : Cx} {o e : Expr} {to te : TE} (K : PySem.W.Frag) {apos pos : Pos} (ho : PE X o to) (he : PE X e te) (h : X.K = K := by rfl) (hs : starEach [e] X.env = [(false, eval e X.env)] := by rfl) (hbase : attributeBase o "join" X.env (eval o X.env) = eval o X.env := by rfl) (hline : (apos.endLine == pos.line) = true := by rfl) :
    PE X (.Call (.Attribute o "join" apos) [e] [] pos) (tM1 (fun x xs H Q => ∃ a p, ∃ ys : List Str, x = .str a ∧ xs = [.ref p] ∧ (SqL K H p (ys.map V.str) ∨ SqT K H p (ys.map V.str)) ∧
      (ys.map (·.length)).sum + ys.length * a.length ≤ 16777216 ∧ Q (.str (Txt.join a ys)) H) to te) := by
  subst h
  exact pe_join ho he hs hbase hline
/-! ### a comprehension over a list of pairs that tells a new tuple of each -/
theorem lc_tups {K : PySem.W.Frag} {a : Addr} {ts : List Addr} {ps : Nat → V × V} {te : TE} {c1 c2 : Nat} {σ : L2.St} {H1 : Hp} {D : Addr} {Qd : Hp → Prop} (g : Nat → List V) (hne : c1 ≠ c2) (hL : SqL K H1 a (ts.map V.ref)) (hT : ∀ i, i < ts.length → SqT K H1 (ts.getD i 0) [(ps i).1, (ps i).2])
    (hD : H1 D = none) (hn : ts.length ≤ sizeLine)
    (he : ∀ i H Q, i < ts.length → Same H1 H → (∀ p H', Same H H' → H p = none → H' p = some (.tup (g i)) → Q (.ref p) H') → te ((((σ.set c2 none).set c1 none).set c1 (some (ps i).1)).set c2 (some (ps i).2)) H Q)
    (hd : ∀ H (us : List Addr), Same H1 H → us.length = ts.length → (∀ i, i < ts.length → H (us.getD i 0) = some (.tup (g i))) → H D = some (.lst (us.map V.ref)) → Qd H) :
    ∃ W : Nat → Nat → Hp → Prop, (∃ m, W 0 m (upd H1 D (.lst []))) ∧ ∀ i m H, W i m H →
      ((Itl K a).stop i H ∧ Qd H) ∨ ((Itl K a).go i H ∧ ∃ Nx : Hp → Prop, (∀ H', Nx H' → ∃ m', m' < m ∧ W (i + 1) m' H') ∧ ∀ x H', (Itl K a).yld i H x H' → gTup K 2 (gCons (gName c1) (gCons (gName c2) gNil)) x (wipe σ [c1, c2]) H' fun σ2 H2 => wipe σ2 [c1, c2] = wipe σ [c1, c2] ∧ tYes σ2 H2 fun b H3 =>
        if b = true then te σ2 H3 fun y H4 => ∃ acc, H4 D = some (.lst acc) ∧ acc.length < sizeLine ∧ Nx (upd H4 D (.lst (acc ++ [y]))) else Nx H3) := by
  have hm : (ts.map V.ref).length = ts.length := List.length_map ..
  refine lc_it walk_list (fun i H => Same H1 H ∧ ∃ us : List Addr, us.length = i ∧ (∀ j, j < i → H (us.getD j 0) = some (.tup (g j))) ∧ H D = some (.lst (us.map V.ref))) ⟨same_upd hD, [], rfl, fun j hj => absurd hj (Nat.not_lt_zero j), upd_same⟩ (fun i H _ h => h.1.seq hL) (fun i x H H' hi hP hy => ?_) (fun H h => by
    obtain ⟨sm, us, hl, hu, e⟩ := h
    rw [hm] at hl hu
    exact hd H us sm hl hu e)
  obtain ⟨sm, us, hl, hu, eD⟩ := hP
  obtain ⟨rfl, hx⟩ := hy
  rw [hm] at hi
  rw [List.getElem?_map, List.getElem?_eq_getElem hi] at hx
  obtain rfl := Option.some.inj hx
  have hTi := hT i hi
  rw [List.getD_eq_getElem?_getD, List.getElem?_eq_getElem hi] at hTi
  refine ⟨ts[i], _, rfl, seqT sm hTi, rfl, _, _, rfl, _, _, rfl, rfl, ?_, ?_⟩
  · show (((((σ.set c2 none).set c1 none).set c1 (some (ps i).1)).set c2 (some (ps i).2)).set c2 none).set c1 none = (σ.set c2 none).set c1 none
    rw [List.set_set, List.set_set, List.set_comm _ _ hne, List.set_set, List.set_comm _ _ hne.symm, List.set_comm _ _ hne, List.set_set]
  · refine he i H' _ hi sm fun p H3 s3 np e3 => ⟨_, s3 _ _ eD, ?_, ?_, us ++ [p], ?_, ?_, ?_⟩
    · rw [List.length_map]; omega
    · intro b' o hb'
      rw [upd_ne (ne_of_none hb' hD)]
      exact s3 _ _ (sm _ _ hb')
    · rw [List.length_append, hl]; rfl
    · intro j hj
      have hDt : ∀ q xs, H3 q = some (.tup xs) → q ≠ D := fun q xs e z => by
        rw [z, s3 _ _ eD] at e
        exact nomatch e
      by_cases hj2 : j < i
      · rw [getD_app_l _ _ _ (by omega)]
        have e4 := s3 _ _ (hu j hj2)
        rw [upd_ne (hDt _ _ e4)]
        exact e4
      · have : j = i := by omega
        subst this
        rw [getD_app_r _ _ _ (by omega), hl, Nat.sub_self]
        show upd H3 D _ p = _
        rw [upd_ne (hDt _ _ e3)]
        exact e3
    · rw [upd_same, List.map_append]
      rfl
end LH

namespace LH
open PySem PySem.Spec PyProof.Rows L2
/-! ### what isinstance and except say of the program's own classes -/
section
variable {K : PySem.W.Frag} {C D : Addr} {b : Bool}
theorem kit_cls' (ic : PySem.W.isClsIn K D = true) (tp : PySem.W.typeIn K (.ref D) = some (.type "type")) (sub : PySem.W.subIn K (.ref C) (.ref D) = some b) : PySem.W.kitCls K (.ref C) (.ref D) = some b := by
  have h : ((PySem.W.clsIn K D).isSome && PySem.W.typeIn K (.ref D) == some (.type "type")) = true := by
    rw [tp]
    exact Bool.and_eq_true_iff.mpr ⟨ic, beq_iff_eq.mpr rfl⟩
  show (if ((PySem.W.clsIn K D).isSome && PySem.W.typeIn K (.ref D) == some (.type "type")) = true then PySem.W.subIn K (.ref C) (.ref D) else none) = some b
  rw [if_pos h]
  exact sub
theorem exm_ref (hb : PySem.W.subIn K (.ref D) (.type "BaseException") = some true) (ic : PySem.W.isClsIn K D = true) (tp : PySem.W.typeIn K (.ref D) = some (.type "type")) (sub : PySem.W.subIn K (.ref C) (.ref D) = some b) : PySem.W.exmOne K (.ref C) (.ref D) = some b := by
  unfold PySem.W.exmOne
  rw [hb, if_pos (beq_iff_eq.mpr rfl)]
  exact kit_cls' ic tp sub
theorem kit_ref (ic : PySem.W.isClsIn K D = true) (tp : PySem.W.typeIn K (.ref D) = some (.type "type")) (sub : PySem.W.subIn K (.ref C) (.ref D) = some b) (h : (C == D) = b ∨ b = true) : PySem.W.kitOne K (.ref C) (.ref D) = some b := by
  unfold PySem.W.kitOne
  by_cases e : (Value.ref C == Value.ref D) = true
  · rw [if_pos e]
    have e' : C = D := Value.ref.inj (beq_iff_eq.mp e)
    rcases h with h | h
    · rw [e', beq_self_eq_true] at h
      rw [← h]
    · rw [h]
  · rw [if_neg e]
    exact kit_cls' ic tp sub
theorem kit_base (sub : PySem.W.subIn K (.ref C) (.type "ValueError") = some true) : PySem.W.kitOne K (.ref C) (.type "ValueError") = some true := by
  unfold PySem.W.kitOne
  by_cases e : (Value.ref C == Value.type "ValueError") = true
  · rw [if_pos e]
  · rw [if_neg e]
    show (if PySem.W.kitMeta "ValueError" = true then PySem.W.subIn K (.ref C) (.type "ValueError") else none) = some true
    rw [if_pos (by decide +kernel)]
    exact sub
end
end LH

set_option maxHeartbeats 2000000
namespace LH
open PySem PySem.Spec PySem.Calls PyProof.Rows L2
open PySem.Builtin PySem.Builtin.ObjectAttr PySem.Builtin.Getset_descriptor
open PySem.W (Frag clsIn findIn subIn typeIn nsIn keepIn codeIn hasDictIn mroIn ksFn ksEnv ks_superIn excInitIn excOver takerIn ks_superObj kxs_mw excObj excTup InstAt dictOf findCls readsIn findObj looks_findIn looks_find looks_typeIn looks_subIn)
abbrev bmV : List Value := [.type "ValueError", .type "Exception", .type "BaseException", .type "object"]
/-! ### an own exception whose base's __init__ is super().__init__(why), self.kind = self.__class__.__name__.lower() -/
section
variable {prog : Program} {w : World} {A : Around} {E : Value → Shared → Prop} {R : Result → Shared → Prop} {K : Frag} {s : Shared} {C x : Addr} {ox : Obj} {odx : Option Obj}
/-- x.__class__ of an error -/
theorem err_class {expr : Bool} {Q : Value → Shared → Prop} (X : K.In s.heap) (I : InstAt s.heap x ox C odx) (T : ExcC K C) (hcl : (clsIn K C).isSome = true) (h : Q (.ref C) { s with toks := s.toks + 1 }) :
    wpAny (model prog w) A (getAttr (.ref x) "__class__" expr) Q E s := by
  obtain ⟨h0, gs, dr, n, o⟩ := s
  let M := model prog w
  have bga : (Value.builtin "BaseException.__getattribute__" == Value.builtin "object.__getattribute__") = false := by decide +kernel
  have hop : (expr && onTheHeap (Value.builtin "BaseException.__getattribute__")) = false := Bool.and_false _
  have ofC : PySem.W.Looks M h0 (typeOf (.ref x)) (.ref C) := I.type
  have isE : PySem.W.Looks M h0 (isInstance (.ref x) (.type "BaseException")) true := ofC.andThen (looks_subIn X T.hs)
  have slot := looks_find (M := M) X I (PySem.W.findObj_dataE (od := odx) hcl T.ha T.hn T.ht)
  -- what BaseException.__getattribute__ comes to at x
  have inner : ∀ (B : Around) (P G : Value → Shared → Prop), P (.ref C) ⟨h0, gs, dr, n + 1, o⟩ → wpAny M B (call (.builtin "BaseException.__getattribute__") [.ref x, .str "__class__" n]) P G ⟨h0, gs, dr, n + 1, o⟩ := fun B P G hP => by
    refine wpAny_call (codeAny_call_builtin PySem.F.excAttr_ValueError.ga.plain PySem.F.entry_bexc_ga (@PySem.W.check_slot M _ _ ⟨h0, gs, dr, n + 1, o⟩ "BaseException.__getattribute__" "BaseException" "__getattribute__" (.ref x) [.str "__class__" n] [] _ (by decide +kernel) (by decide +kernel) isE (PySem.F.args_bexc_ga _ _) ?_))
    show wpAny _ _ (Builtin.«object.__getattribute__» _) _ _ _
    unfold Builtin.«object.__getattribute__»
    refine wpAny_bind (wpAny_of_eq (a := ((Value.ref x : Value), [Value.str "__class__" n])) rfl (wpAny_bind (wpAny_pure (wpAny_bind (ofC.at (wpAny_bind (slot.at ?_)))))))
    exact wpAny_bind (wpAny_holding (wpAny_call (PySem.W.class_get (s := ⟨h0, gs, dr, n + 1, o⟩) (ox := ox) (od := odx) X I T.hm (wpAny_pure hP))))
  unfold getAttr getAttrBy
  refine wpAny_bind (wpAny_mkText (wpAny_holding (wpAny_bind (ofC.at (wpAny_bind ((looks_findIn (M := M) X T.hg).at ?_))))))
  dsimp only
  rw [if_neg (show ¬ (onTheHeap (Value.ref C) && Value.builtin "BaseException.__getattribute__" == Value.builtin "object.__getattribute__") = true from by rw [bga, Bool.and_false]; exact Bool.false_ne_true)]
  unfold getAttrByItsOwn hookBefore callGetattribute boundAndCalled
  rw [if_pos (show onTheHeap (Value.ref C) = true from rfl), hop, PySem.F.excAttr_ValueError.ga.bind (.ref x)]
  refine wpAny_bind ((looks_findIn (M := M) X T.hk).at (wpAny_bind (wpAny_attempt (wpAny_holding ?_))))
  rw [if_neg Bool.false_ne_true]
  refine wpAny_bind (wpAny_pure (inner _ _ _ ?_))
  show wpAny _ _ (handedOut (.ref C)) _ _ _
  rw [PySem.W.handedOut_of (show PySem.W.handedIn (.ref C) = true from rfl)]
  exact wpAny_pure h
theorem dga_ref (d tp : Value) (C : Addr) : descrGetArgs ⟨[d, .ref C, tp], []⟩ = pure (d, some (.ref C), (if tp == .none then none else some tp)) := by kernel_rfl
theorem name_get {tp : Value} {od : Option Addr} {cd : ClassData} {sl : Array (Option Value)} {nm : Str} {tk : Tok} (X : K.In s.heap) (hc : K.lookup C = some ⟨.type "type", od, .cls cd, sl⟩) (hs : sl[2]? = some (some (.str nm tk))) (h : R (.ok (.ret (.str nm tk))) s) :
    codeAny (model prog w) A (.call (.builtin "getset_descriptor.__get__") ⟨[.builtin "type.__name__", .ref C, tp], []⟩) R s := by
  have ho := X _ _ hc
  obtain ⟨hh, g, dr, t, os⟩ := s
  have L0 : PySem.W.Looks (model prog w) hh (typeOf (.ref C)) (.type "type") := looks_typeIn X (by show Option.map (fun x => x.cls) (List.lookup C K) = _; rw [hc]; rfl)
  have L1 : PySem.W.Looks (model prog w) hh (isSubtype (.type "type") (.type "type")) true := PySem.W.Looks.of_pure (by rw [isSubtype_type]; kernel_rfl)
  refine codeAny_call_builtin PySem.W.KF.slot_gs.plain PySem.W.KF.entry_gs (PySem.W.KF.slot_gs.check _ _ _ _ _ _ _ _ PySem.W.ktyn_type (PySem.W.KF.args_gs _ _ _) ?_)
  unfold Builtin.«getset_descriptor.__get__» descrGet
  rw [dga_ref]
  refine wpAny_bind (wpAny_pure ?_)
  unfold descrGetter descrCheckInstance descrNameAndClass isInstance
  simp only [PySem.W.ktyn_owner]
  repeat lk
  refine ⟨Code.quiet_builtin _ (by decide +kernel), codeAny_builtin PySem.W.ktyn_entry ?_⟩
  unfold Builtin.«type.__name__»
  dsimp only
  unfold keptObject slotAt
  dsimp only
  refine wpAny_bind (wpAny_bind (wpAny_loadPart_at ho (wpAny_pure ?_)))
  dsimp only
  rw [hs]
  dsimp only [Option.join, Option.bind, _root_.id]
  first | exact wpAny_bind (wpAny_pure h) | exact wpAny_pure h | (repeat lk; exact h)
theorem cls_name {expr : Bool} {Q : Value → Shared → Prop} {od : Option Addr} {cd : ClassData} {sl : Array (Option Value)} {nm : Str} {tk : Tok} (X : K.In s.heap) (hr : readsIn K C (.type "type") = true)
    (e : findCls K (.ref C) (.type "type") "__name__" = some (.get (.builtin "getset_descriptor.__get__") (.builtin "type.__name__") (.ref C) (.type "type"))) (hc : K.lookup C = some ⟨.type "type", od, .cls cd, sl⟩) (hs : sl[2]? = some (some (.str nm tk)))
    (h : Q (.str nm tk) { s with toks := s.toks + 1 }) : wpAny (model prog w) A (getAttr (.ref C) "__name__" expr) Q E s := by
  refine PySem.W.cls_bind X hr e (wpAny_call (name_get (s := { s with toks := s.toks + 1 }) X hc hs ?_))
  exact PySem.W.handed_on rfl h
end
structure HePos where
  (a1 a2 a3 s0 s1 s2 s3 s4 n0 l0 l1 l2 l3 l4 l5 l6 l7 : Pos)
  (u0 : Nat)
def hA (P : HePos) : Arguments := { posonlyargs := [], args := [{ arg := "self", annotation := none, pos := P.a1 }, { arg := "why", annotation := none, pos := P.a2 }], vararg := none, kwonlyargs := [], kw_defaults := [], kwarg := none, defaults := [.Constant (.str "") P.u0 P.a3] }
def hB (P : HePos) : List Stmt :=
  [.Expr (.Call (.Attribute (.Call (.Name "super" P.s0) [] [] P.s1) "__init__" P.s2) [.Name "why" P.n0] [] P.s3) P.s4,
   .Assign [.Attribute (.Name "self" P.l0) "kind" P.l1] (.Call (.Attribute (.Attribute (.Attribute (.Name "self" P.l2) "__class__" P.l3) "__name__" P.l4) "lower" P.l5) [] [] P.l6) P.l7]
def hS : Scope := { kind := .function, names := [("self", .local), ("why", .local), ("__class__", .free), ("super", .globalImplicit)], isGenerator := false, isCoroutine := false, more := [] }
/-- what the written part says of the class at C, whose base at D is made by the __init__ at fH; kd: the text of its kind -/
structure HeTxt (prog : Program) (K : Frag) (C D fH cc cda : Addr) (kd : Str) : Prop where
  exi : excInitIn K C bmV "ValueError.__new__" = true
  exo : excOver K C bmV = true
  sa : findIn K (.ref C) "__setattr__" = some (some (.builtin "object.__setattr__"))
  tkk : takerIn K C "kind" = some none
  hdC : hasDictIn K C = true
  tyf : typeIn K (.ref fH) = some (.type "function")
  fn : ∃ (oc : Value) (od : Option Addr) (kV doc pm : Value) (an : Option Addr) (ct : Value) (osl : Array (Option Value)) (P : HePos) (T : Addr) (o : Obj) (dv : Value) (m : Nat),
    K.lookup fH = some ⟨oc, od, .func (ksFn "__init__" "HouseError.__init__" (hA P) (hB P) hS (.ref T) kV doc pm an (.ref cda) ct cc), osl⟩ ∧ codeIn K (.ref cda) "HouseError.__init__" = true ∧ (P.s2.endLine == P.s3.line) = true ∧ (P.l5.endLine == P.l6.line) = true ∧
    K.lookup T = some o ∧ o.data = .seq #[dv] m
  code : ∃ (ccl : Value) (cdd : Option Addr) (vs : Array Value) (ccs : Array (Option Value)) (file : Str) (tf : Tok), K.lookup cda = some ⟨ccl, cdd, .fields vs, ccs⟩ ∧ vs[2]? = some (.str file tf) ∧ ((prog.main.file : Str) == file) = true
  cell : ∃ (cl : Value) (cld : Option Addr) (csl : Array (Option Value)), K.lookup cc = some ⟨cl, cld, .cell (some (.ref D)), csl⟩
  icD : PySem.W.isClsIn K D = true
  sub : mroIn K C (.ref D) = some true
  sup : nsIn K mainGlobals "super" = some none
  top : (prog.main.scope.names.lookup ("super" : Str)).isSome = false
  thp : nsIn K cStatics "thirdparty.any" = some none
  supI : ks_superIn K C D "__init__" = some (some (.builtin "ValueError.__init__"))
  subV : subIn K (.ref C) (.type "ValueError") = some true
  ec : ExcC K C
  icC : PySem.W.isClsIn K C = true
  rd : readsIn K C (.type "type") = true
  fnm : findCls K (.ref C) (.type "type") "__name__" = some (.get (.builtin "getset_descriptor.__get__") (.builtin "type.__name__") (.ref C) (.type "type"))
  nam : ∃ (od : Option Addr) (cd : ClassData) (sl : Array (Option Value)) (nm : Str) (tk : Tok), K.lookup C = some ⟨.type "type", od, .cls cd, sl⟩ ∧ sl[2]? = some (some (.str nm tk)) ∧ nm.length ≤ 5592405 ∧ Txt.lower nm = kd
section
variable {prog : Program} {w : World} {A : Around} {E : Value → Shared → Prop} {R : Result → Shared → Prop} {K : Frag} {mg : Str → Option Value} {C D fH cc cda x : Addr} {kd : Str} {hp : Heap}
theorem one_le (v : Value) : [v].length ≤ sizeLine := by rw [sizeLine_eq]; show 1 ≤ 16777216; decide
/-- super(), in the __init__ of such a class -/
theorem he_super (T : HeTxt prog K C D fH cc cda kd) (M : Mod K mg hp) {s : Shared} {L : Addr} {m : Str → Option Value} {news : List (Addr × Obj)} (F : Fr hp L s.heap m) (N : News hp L s.heap news) {ox : Obj} {odx : Option Obj} (I : InstAt s.heap x ox C odx) (hv : m "self" = some (.ref x))
    {P : HePos} {p0 p1 : Pos} {whole : Sem Value} {Q : Value → Shared → Prop}
    (h : ∀ so h', Fr hp L h' m → News hp L h' ((so, ks_superObj D x C) :: news) → (∀ p ∈ news, p.1 < so) → Q (.ref so) { s with heap := h' }) :
    PySem.wpAt (model prog w) A (.func (hB P) (ksEnv "HouseError.__init__" hS L fH (.ref cda) cc)) (attributeBase (.Call (.Name "super" p0) [] [] p1) "__init__" (ksEnv "HouseError.__init__" hS L fH (.ref cda) cc) whole) Q E s := by
  have X : K.In s.heap := M.kin.keeps F.keep
  obtain ⟨oc, od, kV, doc, pm, an, ct, osl, P', T', o', its, mm, hf, hcd, _⟩ := T.fn
  obtain ⟨ccl, cdd, vs, ccs, file, tf, hcode, hvs, hfile⟩ := T.code
  obtain ⟨cl, cld, csl, hcell⟩ := T.cell
  obtain ⟨mb, hb, hbb⟩ := M.blt
  obtain ⟨cdD, hD⟩ : ∃ cdD, clsIn K D = some cdD := Option.isSome_iff_exists.mp T.icD
  obtain ⟨hh, g, d, t, os⟩ := s
  have ⟨oD, hD1, hD2⟩ : ∃ o : Obj, hh.get? D = some o ∧ o.data = .cls cdD := by
    unfold PySem.W.clsIn at hD
    split at hD
    · rename_i ho; cases hD; exact ⟨_, X _ _ ho, rfl⟩
    · cases hD
  have noc : ∀ c, ox.data ≠ .cls c := fun c e => by
    have q := I.no
    unfold PySem.W.notCls at q
    rw [e] at q
    exact Bool.noConfusion q
  have last : wpAny (model prog w) A (call (.type "super") [.ref D, .ref x]) Q E ⟨hh, g, d, t, os⟩ := PySem.ks_wpAny_call_super hD1 hD2 I.at_ I.cls noc (PySem.W.looks_mroIn X T.sub) fun h' e k => by
    obtain ⟨F', N', l'⟩ := PySem.W.ks_newsPush (s := ⟨hh, g, d, t, os⟩) F N rfl e k
    exact h _ _ F' N' l'
  have self' : wpAny (model prog w) A (loadName (ksEnv "HouseError.__init__" hS L fH (.ref cda) cc) "self") (fun self s₃ => wpAny (model prog w) A (isType (.ref D)) (fun b s₄ => b = true ∧ wpAny (model prog w) A (call (.type "super") [.ref D, self]) Q E s₄) E s₃) E ⟨hh, g, d, t, os⟩ :=
    wpAny_loadName_local rfl rfl F.ns hv (PySem.ks_wpAny_isType_cls hD1 hD2 ⟨rfl, last⟩)
  refine PySem.ks_wpAt_super_base (env := ksEnv "HouseError.__init__" hS L fH (.ref cda) cc) rfl rfl (by decide) rfl (X _ _ hf) rfl rfl rfl (X _ _ hcode) rfl hvs hfile T.top ?_
  refine PySem.W.ks_loadName_global rfl rfl (loadGlobal_builtin (env := ksEnv "HouseError.__init__" hS L fH (.ref cda) cc) (M.glob.keeps F.keep) (PySem.W.mg_none_of M.kin M.glob T.sup) (hb.keeps F.keep) ((hbb _ (by decide +kernel)).trans (by decide +kernel)) ⟨rfl, ?_⟩)
  exact wpAny_loadName_free rfl rfl rfl ⟨_, X _ _ hcell, rfl⟩ self'
/-- HouseError.__init__ at a fresh exception x of the class at C -/
theorem he_init (T : HeTxt prog K C D fH cc cda kd) (M : Mod K mg hp) {s : Shared} (hk : ∀ b o, hp.get? b = some o → s.heap.get? b = some o) (hsz : hp.objs.size ≤ s.heap.objs.size) {t0 : Addr} (hx : s.heap.get? x = some (excObj C t0 none .none)) (hx0 : hp.get? x = none)
    {a : Value} (hroom : A.depth < recursionLimit)
    (hq : ∀ h' tk t1 dx q1 tk1, (∀ b o, hp.get? b = some o → h'.get? b = some o) → h'.get? x = some (excObj C t1 (some dx) .none) → x < dx → hp.get? dx = none →
      h'.get? dx = some (dictOf [⟨PyData.keyHash w.params "kind", .str "kind" q1, .str kd tk1⟩] 1) → R (.ok (.ret .none)) { s with heap := h', toks := tk }) :
    codeAny (model prog w) A (.call (.ref fH) ⟨[.ref x, a], []⟩) R s := by
  obtain ⟨oc, od, kV, doc, pm, an, ct, osl, P, T0, o0, its, mm, ho, hcd, hs, hs2, hT0, hT1⟩ := T.fn
  obtain ⟨odn, cdn, sln, nm, tkn, hcn, hsn, hln, hkd⟩ := T.nam
  have X := M.kin.keeps hk
  refine PySem.ks_codeAny_call_defAt (fd := ksFn "__init__" "HouseError.__init__" (hA P) (hB P) hS (.ref T0) kV doc pm an (.ref cda) ct cc) (body := hB P) (binds := [("self", .ref x), ("why", a)]) hroom (X _ _ ho) rfl (M.nolimit.keeps hk) (PySem.W.codeRec_of X hcd) rfl (BindsTo.of_defaults (fd := ksFn "__init__" "HouseError.__init__" (hA P) (hB P) hS (.ref T0) kV doc pm an (.ref cda) ct cc) rfl (X _ _ hT0) hT1 rfl rfl) (show ∀ y ∈ hS.names, y.2 ≠ .cell by decide) (fun y hy => by simp only [List.mem_cons, List.mem_nil_iff, or_false] at hy; rcases hy with rfl | rfl <;> rfl) (fun h₁ hn k₁ => ?_) rfl rfl rfl
  have F : Fr hp s.heap.objs.size h₁ (fun y => ([("self", Value.ref x), ("why", a)] : List (Str × Value)).reverse.lookup y) := ⟨hn, fun b o e => k₁ b o (hk b o e), hsz⟩
  have N : News hp s.heap.objs.size h₁ [(x, excObj C t0 none .none)] := fun p hp' => by
    obtain rfl := List.mem_singleton.mp hp'
    exact ⟨k₁ _ _ hx, Nat.ne_of_lt (Heap.lt_size hx), hx0⟩
  show PySem.wpAt (model prog w) (A.deeper (ksEnv "HouseError.__init__" hS s.heap.objs.size fH (.ref cda) cc)) (.func (hB P) (ksEnv "HouseError.__init__" hS s.heap.objs.size fH (.ref cda) cc)) (execs (hB P) (ksEnv "HouseError.__init__" hS s.heap.objs.size fH (.ref cda) cc)) _ _ _
  have m1 : (x, excObj C t0 none .none) ∈ [(x, excObj C t0 none .none)] := List.mem_singleton.mpr rfl
  refine PySem.ks_wpAt_execs_cons (PySem.ks_wpAt_Expr_any (PySem.ks_wpAt_MethodCall (pl := do return (← importBound (.Call (.Name "super" P.s0) [] [] P.s1) (ksEnv "HouseError.__init__" hS s.heap.objs.size fH (.ref cda) cc)).getD true) (he_super T M F N (PySem.W.InstAt.of_exc0 N m1) rfl fun so h2 F2 N2 l2 => ?_) ?_))
  rotate_left
  · rw [arm_eval_Call]
    unfold methodCall methodCallPos
    simp only [hs, Bool.or_true, if_true, pure_bind]
    rfl
  have m2 : (x, excObj C t0 none .none) ∈ [(so, ks_superObj D x C), (x, excObj C t0 none .none)] := by simp
  refine PySem.W.kxs_method PySem.W.kxs_ValueError F2 M.kin N2 (List.mem_cons_self ..) (PySem.W.InstAt.of_exc0 N2 m2) T.thp T.supI T.subV (by decide) fun q h3 F3 N3 l3 => ?_
  refine PySem.W.kxs_callWith1 N3 (List.mem_cons_self ..) ?_
  refine spliced_more (wpAny_Name (wpAny_loadName_local rfl rfl F3.ns rfl (spliced_none ⟨PySem.W.kxs_at N3 (List.mem_cons_self ..), ?_⟩)) (by decide))
  have nq : q ≠ x := fun e => Nat.lt_irrefl _ (by have := l3 _ m2; rw [e] at this; exact this)
  have ns : so ≠ x := fun e => Nat.lt_irrefl _ (by have := l2 _ m1; rw [e] at this; exact this)
  refine PySem.W.kxs_call F3 M.kin N3 PySem.F.excBase_ValueError T.exi (List.mem_cons_self ..) (.tail nq (.tail ns (.head (fun _ h => nomatch h)))) (LH.one_le _) fun t1 h4 F4 N4 l4 => ?_
  have N5 : News hp s.heap.objs.size h4 [(x, excObj C t1 none .none)] := fun p hp2 => N4 p (by rw [List.mem_singleton.mp hp2]; simp)
  have mx : (x, excObj C t1 none .none) ∈ [(x, excObj C t1 none .none)] := List.mem_singleton.mpr rfl
  refine wpAt_of_wpAny (wpAny_execs_cons (plainObj_wpAny_Assign_Attribute ?_))
  refine J1.ev_lower rfl hs2 ?_
  refine attr_of rfl (attr_of rfl (wpAny_Name (wpAny_loadName_local rfl rfl F4.ns rfl ?_) (by decide)))
  refine err_class (M.kin.keeps F4.keep) (PySem.W.InstAt.of_exc0 N5 mx) T.ec T.icC ?_
  refine cls_name (M.kin.keeps F4.keep) T.rd T.fnm hcn hsn ⟨nm, tkn, rfl, hln, fun tk1 tk2 => ?_⟩
  rw [hkd]
  refine wpAny_Name (wpAny_loadName_local rfl rfl F4.ns rfl ?_) (by decide)
  refine PySem.W.set_exc0 (es' := [⟨PyData.keyHash w.params "kind", .str "kind" _, .str kd tk1⟩]) (n' := 1) PySem.F.store_ValueError F4 M.kin N5 mx T.sa T.exo T.tkk T.hdC rfl (.head (fun _ h => nomatch h)) (show 1 ≤ 1000 by decide) fun dx h6 F6 N6 l6 => ?_
  have xdx : x < dx := l6 _ (List.mem_singleton.mpr rfl)
  refine wpAny_execs_nil ?_
  have q1 := N6 _ (.tail _ (List.mem_singleton.mpr rfl))
  have q2 := N6 _ (List.mem_cons_self ..)
  exact hq h6 _ t1 dx _ tk1 F6.keep q1.1 xdx q2.2.2 q2.1
end
end LH

set_option maxHeartbeats 2000000
namespace LH
open PySem PySem.Spec PySem.Calls PyProof.Rows L2
open PySem.W (Frag clsIn findIn subIn typeIn nsIn keepIn codeIn hasDictIn mroIn ksFn ksEnv ks_superIn excInitIn excOver takerIn ks_superObj kxs_mw excObj excTup InstAt dictOf methodObj)
/-! ### an own exception with the __init__ of a class above it: super().__init__(text), self.line, self.place -/
def iA (p1 p2 p3 : Pos) : Arguments := { posonlyargs := [], args := [{ arg := "self", annotation := none, pos := p1 }, { arg := "line", annotation := none, pos := p2 }, { arg := "place", annotation := none, pos := p3 }], vararg := none, kwonlyargs := [], kw_defaults := [], kwarg := none, defaults := [] }
structure WrPos where
  (a1 a2 a3 s0 s1 s2 s3 s4 f0 k0 v0 n0 k1 v1 n1 l0 l1 l2 l3 m0 m1 m2 m3 : Pos)
  (u0 u1 : Nat)
def iB (P : WrPos) : List Stmt :=
  [.Expr (.Call (.Attribute (.Call (.Name "super" P.s0) [] [] P.s1) "__init__" P.s2) [.JoinedStr [.Constant (.str "row ") P.u0 P.k0, .FormattedValue (.Name "line" P.n0) (-1) none P.v0, .Constant (.str ", place ") P.u1 P.k1, .FormattedValue (.Name "place" P.n1) (-1) none P.v1] P.f0] [] P.s3) P.s4,
   .Assign [.Attribute (.Name "self" P.l0) "line" P.l1] (.Name "line" P.l2) P.l3,
   .Assign [.Attribute (.Name "self" P.m0) "place" P.m1] (.Name "place" P.m2) P.m3]
def iS : Scope := { kind := .function, names := [("self", .local), ("line", .local), ("place", .local), ("__class__", .free), ("super", .globalImplicit)], isGenerator := false, isCoroutine := false, more := [] }
/-- what the written part says of the class at C, made by the __init__ at fI of the class at D -/
structure WrTxt (prog : Program) (K : Frag) (C D fI cc cda : Addr) (B fH ccH cdaH : Addr) (kd : Str) : Prop where
  he : HeTxt prog K C B fH ccH cdaH kd
  ini : findIn K (.ref C) "__init__" = some (some (.ref fI))
  exi : excInitIn K C bmV "ValueError.__new__" = true
  exo : excOver K C bmV = true
  sa : findIn K (.ref C) "__setattr__" = some (some (.builtin "object.__setattr__"))
  tkl : takerIn K C "line" = some none
  tkp : takerIn K C "place" = some none
  hdC : hasDictIn K C = true
  tyf : typeIn K (.ref fI) = some (.type "function")
  fn : ∃ (oc : Value) (od : Option Addr) (doc pm : Value) (an : Option Addr) (ct : Value) (osl : Array (Option Value)) (P : WrPos),
    K.lookup fI = some ⟨oc, od, .func (ksFn "__init__" "Wrong.__init__" (iA P.a1 P.a2 P.a3) (iB P) iS .none .none doc pm an (.ref cda) ct cc), osl⟩ ∧ codeIn K (.ref cda) "Wrong.__init__" = true ∧ (P.s2.endLine == P.s3.line) = true
  code : ∃ (ccl : Value) (cdd : Option Addr) (vs : Array Value) (ccs : Array (Option Value)) (file : Str) (tf : Tok), K.lookup cda = some ⟨ccl, cdd, .fields vs, ccs⟩ ∧ vs[2]? = some (.str file tf) ∧ ((prog.main.file : Str) == file) = true
  cell : ∃ (cl : Value) (cld : Option Addr) (csl : Array (Option Value)), K.lookup cc = some ⟨cl, cld, .cell (some (.ref D)), csl⟩
  icD : PySem.W.isClsIn K D = true
  sub : mroIn K C (.ref D) = some true
  sup : nsIn K mainGlobals "super" = some none
  top : (prog.main.scope.names.lookup ("super" : Str)).isSome = false
  thp : nsIn K cStatics "thirdparty.any" = some none
  supI : ks_superIn K C D "__init__" = some (some (.ref fH))
  fnH : PySem.W.fnIn K fH = true
  subV : subIn K (.ref C) (.type "ValueError") = some true
section
variable {prog : Program} {w : World} {A : Around} {E : Value → Shared → Prop} {R : Result → Shared → Prop} {K : Frag} {mg : Str → Option Value} {C D fI cc cda x B fH ccH cdaH : Addr} {kd : Str} {hp : Heap}
/-- super(), in the __init__ of such a class -/
theorem wr_super (T : WrTxt prog K C D fI cc cda B fH ccH cdaH kd) (M : Mod K mg hp) {s : Shared} {L : Addr} {m : Str → Option Value} {news : List (Addr × Obj)} (F : Fr hp L s.heap m) (N : News hp L s.heap news) {ox : Obj} {odx : Option Obj} (I : InstAt s.heap x ox C odx) (hv : m "self" = some (.ref x))
    {P : WrPos} {p0 p1 : Pos} {whole : Sem Value} {Q : Value → Shared → Prop}
    (h : ∀ so h', Fr hp L h' m → News hp L h' ((so, ks_superObj D x C) :: news) → (∀ p ∈ news, p.1 < so) → Q (.ref so) { s with heap := h' }) :
    PySem.wpAt (model prog w) A (.func (iB P) (ksEnv "Wrong.__init__" iS L fI (.ref cda) cc)) (attributeBase (.Call (.Name "super" p0) [] [] p1) "__init__" (ksEnv "Wrong.__init__" iS L fI (.ref cda) cc) whole) Q E s := by
  have X : K.In s.heap := M.kin.keeps F.keep
  obtain ⟨oc, od, doc, pm, an, ct, osl, P', hf, hcd, _⟩ := T.fn
  obtain ⟨ccl, cdd, vs, ccs, file, tf, hcode, hvs, hfile⟩ := T.code
  obtain ⟨cl, cld, csl, hcell⟩ := T.cell
  obtain ⟨mb, hb, hbb⟩ := M.blt
  obtain ⟨cdD, hD⟩ : ∃ cdD, clsIn K D = some cdD := Option.isSome_iff_exists.mp T.icD
  obtain ⟨hh, g, d, t, os⟩ := s
  have ⟨oD, hD1, hD2⟩ : ∃ o : Obj, hh.get? D = some o ∧ o.data = .cls cdD := by
    unfold PySem.W.clsIn at hD
    split at hD
    · rename_i ho; cases hD; exact ⟨_, X _ _ ho, rfl⟩
    · cases hD
  have noc : ∀ c, ox.data ≠ .cls c := fun c e => by
    have q := I.no
    unfold PySem.W.notCls at q
    rw [e] at q
    exact Bool.noConfusion q
  have last : wpAny (model prog w) A (call (.type "super") [.ref D, .ref x]) Q E ⟨hh, g, d, t, os⟩ := PySem.ks_wpAny_call_super hD1 hD2 I.at_ I.cls noc (PySem.W.looks_mroIn X T.sub) fun h' e k => by
    obtain ⟨F', N', l'⟩ := PySem.W.ks_newsPush (s := ⟨hh, g, d, t, os⟩) F N rfl e k
    exact h _ _ F' N' l'
  have self' : wpAny (model prog w) A (loadName (ksEnv "Wrong.__init__" iS L fI (.ref cda) cc) "self") (fun self s₃ => wpAny (model prog w) A (isType (.ref D)) (fun b s₄ => b = true ∧ wpAny (model prog w) A (call (.type "super") [.ref D, self]) Q E s₄) E s₃) E ⟨hh, g, d, t, os⟩ :=
    wpAny_loadName_local rfl rfl F.ns hv (PySem.ks_wpAny_isType_cls hD1 hD2 ⟨rfl, last⟩)
  refine PySem.ks_wpAt_super_base (env := ksEnv "Wrong.__init__" iS L fI (.ref cda) cc) rfl rfl (by decide) rfl (X _ _ hf) rfl rfl rfl (X _ _ hcode) rfl hvs hfile T.top ?_
  refine PySem.W.ks_loadName_global rfl rfl (loadGlobal_builtin (env := ksEnv "Wrong.__init__" iS L fI (.ref cda) cc) (M.glob.keeps F.keep) (PySem.W.mg_none_of M.kin M.glob T.sup) (hb.keeps F.keep) ((hbb _ (by decide +kernel)).trans (by decide +kernel)) ⟨rfl, ?_⟩)
  exact wpAny_loadName_free rfl rfl rfl ⟨_, X _ _ hcell, rfl⟩ self'
/-- the error's text is told: any number that is small -/
theorem wr_text {env : Env} {P : WrPos} {s : Shared} {a b : Int} {ta tb : Tok} {m : Str → Option Value} (hn : s.heap.Ns env.locals m) (hk : env.scope.kind = .function) (hl : env.kindOf "line" = some .local) (hp' : env.kindOf "place" = some .local)
    (va : m "line" = some (.int a ta)) (vb : m "place" = some (.int b tb)) (ha : a.natAbs.log2 < 1920) (hb : b.natAbs.log2 < 1920) {Q : Value → Shared → Prop} (hq : ∀ z tk t', Q (.str z t') { s with toks := tk }) :
    wpAny (model prog w) A (eval (.JoinedStr [.Constant (.str "row ") P.u0 P.k0, .FormattedValue (.Name "line" P.n0) (-1) none P.v0, .Constant (.str ", place ") P.u1 P.k1, .FormattedValue (.Name "place" P.n1) (-1) none P.v1] P.f0) env) Q E s := by
  have e0 : Str.empty.length = 0 := rfl
  have e1 : (Str.ofString "row ").length = 4 := by decide +kernel
  have e2 : (Str.ofString ", place ").length = 8 := by decide +kernel
  have e3 := int_text_len_1921 ha
  have e4 := int_text_len_1921 hb
  refine wpAny_JoinedStr ?_
  refine wpAny_Constant_str ⟨_, _, rfl, by rw [len_app, e0, e1, sizeLine_eq]; decide, ?_⟩
  refine wpAny_FormattedValue_plain (wpAny_Name (wpAny_loadName_local hk hl hn va (wpAny_formatField_int ha ⟨_, _, rfl, by rw [len_app, len_app, e0, e1, sizeLine_eq]; omega, ?_⟩)) (by decide))
  refine wpAny_Constant_str ⟨_, _, rfl, by rw [len_app, len_app, len_app, e0, e1, e2, sizeLine_eq]; omega, ?_⟩
  refine wpAny_FormattedValue_plain (wpAny_Name (wpAny_loadName_local hk hp' hn vb (wpAny_formatField_int hb ⟨_, _, rfl, by rw [len_app, len_app, len_app, len_app, e0, e1, e2, sizeLine_eq]; omega, ?_⟩)) (by decide))
  exact ⟨by rw [len_app, len_app, len_app, len_app, e0, e1, e2, sizeLine_eq]; omega, hq _ _ _⟩
/-- Wrong.__init__ at a fresh exception x of the class at C -/
theorem wr_init (T : WrTxt prog K C D fI cc cda B fH ccH cdaH kd) (M : Mod K mg hp) {s : Shared} (hk : ∀ b o, hp.get? b = some o → s.heap.get? b = some o) (hsz : hp.objs.size ≤ s.heap.objs.size) {t0 : Addr} (hx : s.heap.get? x = some (excObj C t0 none .none)) (hx0 : hp.get? x = none)
    {a b : Int} {ta tb : Tok} (ha : a.natAbs.log2 < 1920) (hb : b.natAbs.log2 < 1920) (hroom : A.depth + 1 < recursionLimit)
    (hq : ∀ h' tk t1 dx k0 k1 k2 q0 q1 q2 tk1 n, (∀ b o, hp.get? b = some o → h'.get? b = some o) → h'.get? x = some (excObj C t1 (some dx) .none) → x < dx →
      h'.get? dx = some (dictOf [⟨k0, .str "kind" q0, .str kd tk1⟩, ⟨k1, .str "line" q1, .int a ta⟩, ⟨k2, .str "place" q2, .int b tb⟩] n) → R (.ok (.ret .none)) { s with heap := h', toks := tk }) :
    codeAny (model prog w) A (.call (.ref fI) ⟨[.ref x, .int a ta, .int b tb], []⟩) R s := by
  obtain ⟨oc, od, doc, pm, an, ct, osl, P, ho, hcd, hs⟩ := T.fn
  have X := M.kin.keeps hk
  refine PySem.ks_codeAny_call_defAt (fd := ksFn "__init__" "Wrong.__init__" (iA P.a1 P.a2 P.a3) (iB P) iS .none .none doc pm an (.ref cda) ct cc) (body := iB P) (binds := [("self", .ref x), ("line", .int a ta), ("place", .int b tb)]) (Nat.lt_of_succ_lt hroom) (X _ _ ho) rfl (M.nolimit.keeps hk) (PySem.W.codeRec_of X hcd) rfl (.of_eq rfl) (show ∀ y ∈ iS.names, y.2 ≠ .cell by decide) (fun y hy => by simp only [List.mem_cons, List.mem_nil_iff, or_false] at hy; rcases hy with rfl | rfl | rfl <;> rfl) (fun h₁ hn k₁ => ?_) rfl rfl rfl
  have F : Fr hp s.heap.objs.size h₁ (fun y => ([("self", Value.ref x), ("line", .int a ta), ("place", .int b tb)] : List (Str × Value)).reverse.lookup y) := ⟨hn, fun b o e => k₁ b o (hk b o e), hsz⟩
  have N : News hp s.heap.objs.size h₁ [(x, excObj C t0 none .none)] := fun p hp' => by
    obtain rfl := List.mem_singleton.mp hp'
    exact ⟨k₁ _ _ hx, Nat.ne_of_lt (Heap.lt_size hx), hx0⟩
  show PySem.wpAt (model prog w) (A.deeper (ksEnv "Wrong.__init__" iS s.heap.objs.size fI (.ref cda) cc)) (.func (iB P) (ksEnv "Wrong.__init__" iS s.heap.objs.size fI (.ref cda) cc)) (execs (iB P) (ksEnv "Wrong.__init__" iS s.heap.objs.size fI (.ref cda) cc)) _ _ _
  have m1 : (x, excObj C t0 none .none) ∈ [(x, excObj C t0 none .none)] := List.mem_singleton.mpr rfl
  refine PySem.ks_wpAt_execs_cons (PySem.ks_wpAt_Expr_any (PySem.ks_wpAt_MethodCall (pl := do return (← importBound (.Call (.Name "super" P.s0) [] [] P.s1) (ksEnv "Wrong.__init__" iS s.heap.objs.size fI (.ref cda) cc)).getD true) (wr_super T M F N (PySem.W.InstAt.of_exc0 N m1) rfl fun so h2 F2 N2 l2 => ?_) ?_))
  rotate_left
  · rw [arm_eval_Call]
    unfold methodCall methodCallPos
    simp only [hs, Bool.or_true, if_true, pure_bind]
    rfl
  have m2 : (x, excObj C t0 none .none) ∈ [(so, ks_superObj D x C), (x, excObj C t0 none .none)] := by simp
  refine PySem.W.ks_method F2 M.kin N2 (List.mem_cons_self ..) (PySem.W.InstAt.of_exc0 N2 m2) T.thp T.supI T.he.tyf (by decide) fun q h3 F3 N3 l3 => ?_
  refine PySem.W.callWith_M M.kin N3 (List.mem_cons_self ..) T.fnH ?_
  refine spliced_more (wr_text F3.ns rfl rfl rfl rfl rfl ha hb fun z tk t' => spliced_none ⟨PySem.W.methP N3 (List.mem_cons_self ..) (M.kin.keeps F3.keep), ?_⟩)
  have nq : q ≠ x := fun e => Nat.lt_irrefl _ (by have := l3 _ m2; rw [e] at this; exact this)
  have ns : so ≠ x := fun e => Nat.lt_irrefl _ (by have := l2 _ m1; rw [e] at this; exact this)
  have m3 : (x, excObj C t0 none .none) ∈ [(q, methodObj (.ref fH) (.ref x)), (so, ks_superObj D x C), (x, excObj C t0 none .none)] := by simp
  have xh := N3 _ m3
  have kG : ∀ b o, hp.get? b = some o → (h3.hide x).get? b = some o := fun b o e => (Heap.hide_ne h3 (fun z => by rw [z, hx0] at e; cases e)).trans (F3.keep b o e)
  obtain ⟨mb0, hb0, hbb0⟩ := M.blt
  have MG : Mod K mg (h3.hide x) := ⟨M.kin.keeps kG, M.glob.keeps kG, ⟨mb0, hb0.keeps kG, hbb0⟩, M.nolimit.keeps kG⟩
  refine PySem.W.call_meth N3 (List.mem_cons_self ..) ?_
  refine he_init (hp := h3.hide x) (x := x) T.he MG (fun b o e => Heap.of_hide e) (Nat.le_of_eq (Heap.hide_size h3 x)) xh.1 (Heap.hide_self h3 x) (show A.depth + 1 < recursionLimit from hroom) fun h4 tk4 t1 dx z0 tk1 k4 hx4 xdx nd hd4 => ?_
  have kF : ∀ b o, hp.get? b = some o → h4.get? b = some o := fun b o e => k4 b o (kG b o e)
  obtain ⟨oL, es, ep, hL, r⟩ := F3.ns
  have Lx : s.heap.objs.size ≠ x := fun z => xh.2.1 z.symm
  have hL4 : (h3.hide x).get? s.heap.objs.size = some oL := (Heap.hide_ne h3 Lx).trans hL
  have F4 : Fr hp s.heap.objs.size h4 _ := ⟨⟨oL, es, ep, k4 _ _ hL4, r⟩, kF, F3.above⟩
  have dL : dx ≠ s.heap.objs.size := fun z => by rw [z, hL4] at nd; cases nd
  have hd0 : hp.get? dx = none := by
    cases e : hp.get? dx with
    | none => rfl
    | some o => rw [kG _ _ e] at nd; cases nd
  have N5 : News hp s.heap.objs.size h4 [(dx, dictOf [⟨PyData.keyHash w.params "kind", .str "kind" z0, .str kd tk1⟩] 1), (x, excObj C t1 (some dx) .none)] := fun p hp2 => by
    simp only [List.mem_cons, List.mem_nil_iff, or_false] at hp2
    rcases hp2 with rfl | rfl
    · exact ⟨hd4, dL, hd0⟩
    · exact ⟨hx4, xh.2⟩
  have dxx : dx ≠ x := Nat.ne_of_gt xdx
  refine wpAt_of_wpAny (wpAny_execs_cons (plainObj_wpAny_Assign_Attribute ?_))
  refine wpAny_Name (wpAny_loadName_local rfl rfl F4.ns rfl (wpAny_Name (wpAny_loadName_local rfl rfl F4.ns rfl ?_) (by decide))) (by decide)
  refine PySem.W.set_excD (es' := [⟨PyData.keyHash w.params "kind", .str "kind" z0, .str kd tk1⟩, ⟨PyData.keyHash w.params "line", .str "line" _, .int a ta⟩]) (n' := 2) PySem.F.store_ValueError F4 M.kin N5 (.tail _ (List.mem_singleton.mpr rfl)) T.sa T.exo T.tkl T.hdC (List.mem_cons_self ..) (by first | rfl | decide +kernel) rfl (PySem.W.Upd.head (fun p hp2 => by rw [List.mem_singleton.mp hp2]; exact Ne.symm dxx)) (show 2 ≤ 1000 by decide) fun h6 F6 N6 => ?_
  refine wpAny_execs_cons (plainObj_wpAny_Assign_Attribute ?_)
  refine wpAny_Name (wpAny_loadName_local rfl rfl F6.ns rfl (wpAny_Name (wpAny_loadName_local rfl rfl F6.ns rfl ?_) (by decide))) (by decide)
  obtain ⟨z1, N6⟩ : ∃ z1, News hp s.heap.objs.size h6 [(dx, dictOf [⟨PyData.keyHash w.params "kind", .str "kind" z0, .str kd tk1⟩, ⟨PyData.keyHash w.params "line", .str "line" z1, .int a ta⟩] 2), (x, excObj C t1 (some dx) .none)] := ⟨_, N6⟩
  refine PySem.W.set_excD (es' := [⟨PyData.keyHash w.params "kind", .str "kind" z0, .str kd tk1⟩, ⟨PyData.keyHash w.params "line", .str "line" z1, .int a ta⟩, ⟨PyData.keyHash w.params "place", .str "place" _, .int b tb⟩]) (n' := 3) PySem.F.store_ValueError F6 M.kin N6 (.tail _ (List.mem_singleton.mpr rfl)) T.sa T.exo T.tkp T.hdC (List.mem_cons_self ..) (by first | rfl | decide +kernel) rfl (PySem.W.Upd.head (fun p hp2 => by rw [List.mem_singleton.mp hp2]; exact Ne.symm dxx)) (show 3 ≤ 1000 by decide) fun h7 F7 N7 => ?_
  refine wpAny_execs_nil ?_
  have q1 := N7 _ (.tail _ (List.mem_singleton.mpr rfl))
  have q2 := N7 _ (List.mem_cons_self ..)
  exact hq h7 _ t1 dx _ _ _ _ _ _ _ 3 F7.keep q1.1 xdx q2.1
/-- a made error of the class at C -/
theorem wr_made (T : WrTxt prog K C D fI cc cda B fH ccH cdaH kd) {s : Shared} (M : Mod K mg s.heap) {a b : Int} {ta tb : Tok} (ha : a.natAbs.log2 < 1920) (hb : b.natAbs.log2 < 1920) (hroom : A.depth + 2 < recursionLimit)
    (hq : ∀ h' tk e t1 dx k0 k1 k2 q0 q1 q2 tk1 n, (∀ b o, s.heap.get? b = some o → h'.get? b = some o) → s.heap.objs.size ≤ e → h'.get? e = some (excObj C t1 (some dx) .none) → dx ≠ e → s.heap.objs.size ≤ dx →
      h'.get? dx = some (dictOf [⟨k0, .str "kind" q0, .str kd tk1⟩, ⟨k1, .str "line" q1, .int a ta⟩, ⟨k2, .str "place" q2, .int b tb⟩] n) → R (.ok (.ret (.ref e))) { s with heap := h', toks := tk }) :
    codeAny (model prog w) A (.call (.ref C) ⟨[.int a ta, .int b tb], []⟩) R s := by
  obtain ⟨nm, N', qn, bs, bm, hdct, sn, sub, ab, col, dd, k0, k1, k2, k3, k5, hC, hT⟩ := PySem.W.excInit_of M.kin T.exi
  obtain ⟨hp, g, dr, tk, os⟩ := s
  have M : Mod K mg hp := M
  have hC : hp.get? C = _ := hC
  have two : [Value.int a ta, .int b tb].length ≤ sizeLine := by rw [sizeLine_eq]; show 2 ≤ 16777216; decide
  have k : ∀ c o, hp.get? c = some o → ((hp.push (PySem.W.kdv_tup [.int a ta, .int b tb])).push (HandSPX.excO C hp.objs.size)).get? c = some o := fun c o e => Heap.get?_push_of_some _ (Heap.get?_push_of_some _ e)
  have hget : ((hp.push (PySem.W.kdv_tup [.int a ta, .int b tb])).push (HandSPX.excO C hp.objs.size)).get? (hp.objs.size + 1) = some (HandSPX.excO C hp.objs.size) := by heap_get
  have hno : ∀ q, hp.objs.size ≤ q → hp.get? q = none := fun q hq' => by
    cases e : hp.get? q with
    | none => rfl
    | some o => exact absurd (Heap.lt_size e) (Nat.not_lt_of_le hq')
  refine HandSPX.call_own PySem.F.excBase_ValueError hT hC (PySem.W.looks_findIn M.kin T.ini) (fun self => PySem.W.bind_fn M.kin self T.tyf) two ?_
  refine wr_init (hp := hp) (s := ⟨(hp.push (PySem.W.kdv_tup [.int a ta, .int b tb])).push (HandSPX.excO C hp.objs.size), g, dr, tk, os⟩) T M k ?_ hget (hno _ (Nat.le_succ _)) ha hb ?_ fun h' tk' t1 dx k0 k1 k2 q0 q1 q2 tk1 n kp hx hlt hd => ?_
  · rw [Heap.size_push, Heap.size_push]; omega
  · show A.depth + 1 + 1 < recursionLimit
    exact hroom
  · exact ⟨rfl, hq h' tk' (hp.objs.size + 1) t1 dx k0 k1 k2 q0 q1 q2 tk1 n kp (Nat.le_succ _) hx (Nat.ne_of_gt hlt) (Nat.le_of_lt (Nat.lt_of_succ_lt hlt)) hd⟩
end
end LH

set_option maxHeartbeats 2000000
namespace LH
open PySem PySem.Spec PySem.Calls PyProof.Rows L2
open PySem.W (Frag clsIn findIn subIn typeIn nsIn keepIn codeIn hasDictIn mroIn excObj InstAt dictOf)
/-- the own dict of such an error -/
def wrFields (kd : Str) (a b : Int) : List (Str × V) := [("kind", .str kd), ("line", .int a), ("place", .int b)]
theorem wr_ns {h : Heap} {dx : Addr} {k0 k1 k2 : Int} {q0 q1 q2 tk1 : Tok} {kd : Str} {a b : Int} {ta tb : Tok} {n : Nat} (e : h.get? dx = some (dictOf [⟨k0, .str "kind" q0, .str kd tk1⟩, ⟨k1, .str "line" q1, .int a ta⟩, ⟨k2, .str "place" q2, .int b tb⟩] n)) :
    ∃ mA, h.Ns1 dx mA ∧ ∀ f, RelO (List.lookup f (wrFields kd a b)) (mA f) := by
  have lp : (Str.ofString "line" : Str) ≠ Str.ofString "place" := by decide +kernel
  have kl : (Str.ofString "kind" : Str) ≠ Str.ofString "line" := by decide +kernel
  have kp : (Str.ofString "kind" : Str) ≠ Str.ofString "place" := by decide +kernel
  refine ⟨fun f => if f = "kind" then some (.str kd tk1) else if f = "line" then some (.int a ta) else if f = "place" then some (.int b tb) else none, ⟨_, _, _, e, rfl, fun x hx => ?_, ?_, fun f => ?_⟩, fun f => ?_⟩
  · simp only [List.mem_toArray, List.mem_cons, List.mem_nil_iff, or_false] at hx
    rcases hx with rfl | rfl | rfl <;> exact ⟨_, _, rfl⟩
  · show List.Pairwise _ _
    simp only [List.pairwise_cons, List.mem_cons, List.mem_nil_iff, or_false]
    refine ⟨fun y hy m h1 h2 => ?_, ⟨fun y hy m h1 h2 => ?_, ⟨fun _ h => h.elim, List.Pairwise.nil⟩⟩⟩
    · have e1 : (Str.ofString "kind" : Str) = m := by simpa [Value.isStr] using h1
      rcases hy with rfl | rfl
      · have e2 : (Str.ofString "line" : Str) = m := by simpa [Value.isStr] using h2
        exact kl (e1.trans e2.symm)
      · have e2 : (Str.ofString "place" : Str) = m := by simpa [Value.isStr] using h2
        exact kp (e1.trans e2.symm)
    · subst hy
      have e1 : (Str.ofString "line" : Str) = m := by simpa [Value.isStr] using h1
      have e2 : (Str.ofString "place" : Str) = m := by simpa [Value.isStr] using h2
      exact lp (e1.trans e2.symm)
  · unfold nsFind findBy
    rw [List.find?_toArray]
    by_cases h0 : f = "kind"
    · subst h0
      simp [List.find?, Value.isStr]
    · have z0 : ((Str.ofString "kind" : Str) == f) = false := by simpa using fun h => h0 h.symm
      by_cases h1 : f = "line"
      · subst h1
        simp [List.find?, Value.isStr, z0, h0]
      · have z1 : ((Str.ofString "line" : Str) == f) = false := by simpa using fun h => h1 h.symm
        by_cases h2 : f = "place"
        · subst h2
          simp [List.find?, Value.isStr, z0, z1, h0, h1]
        · have z2 : ((Str.ofString "place" : Str) == f) = false := by simpa using fun h => h2 h.symm
          simp [List.find?, Value.isStr, z0, z1, z2, h0, h1, h2]
  · unfold wrFields
    dsimp only
    by_cases h0 : f = "kind"
    · subst h0
      show RelO (some (V.str kd)) _
      rw [if_pos rfl]
      exact ⟨_, rfl⟩
    · have z0 : (f == (Str.ofString "kind" : Str)) = false := by simpa using h0
      rw [if_neg h0]
      by_cases h1 : f = "line"
      · subst h1
        rw [if_pos rfl]
        show RelO (List.lookup _ _) _
        simp only [List.lookup, z0, beq_self_eq_true]
        exact ⟨_, rfl⟩
      · have z1 : (f == (Str.ofString "line" : Str)) = false := by simpa using h1
        by_cases h2 : f = "place"
        · subst h2
          rw [if_neg h1, if_pos rfl]
          show RelO (List.lookup _ _) _
          simp only [List.lookup, z0, z1, beq_self_eq_true]
          exact ⟨_, rfl⟩
        · have z2 : (f == (Str.ofString "place" : Str)) = false := by simpa using h2
          rw [if_neg h1, if_neg h2]
          simp only [List.lookup, z0, z1, z2]
          trivial
/-! ### raise C(row, place) -/
def tMkW (C : Addr) (kd : Str) (ta : TA) : L2.St → Hp → XK → Prop := fun σ H Q => ta σ H fun vs H1 => ∃ a b : Int, vs = [.int a, .int b] ∧ a.natAbs.log2 < 1920 ∧ b.natAbs.log2 < 1920 ∧ ∀ d, H1 d = none → Q (.ref C) (some d) (upd H1 d (.xd (wrFields kd a b)))
/-- the class as its raisers see it -/
structure WrC (prog : Program) (K : Frag) (mg : Str → Option Value) (nm : Str) (C D fI cc cda B fH ccH cdaH : Addr) (kd : Str) : Prop where
  txt : WrTxt prog K C D fI cc cda B fH ccH cdaH kd
  mg : mg nm = some (.ref C)
  kp : keepIn K (.ref C) = true
  ex : subIn K (.ref C) (.type "BaseException") = some true
  ty : typeIn K (.ref C) = some (.type "type")
section
variable {X : Cx} {nm kd : Str} {C D fI cc cda B fH ccH cdaH : Addr}
theorem pmk_wr {e1 e2 : Expr} {ta : TA} {p pos : Pos} {k : Nat} (T : WrC X.prog X.K X.mg nm C D fI cc cda B fH ccH cdaH kd) (hr : Room k X.A) (ha : PA X [e1, e2] ta) (hg : Gl X nm := by rfl) (hdb : (nm == ("__debug__" : Str)) = false := by decide)
    (he : starEach (e1 :: [e2]) X.env = (false, eval e1 X.env) :: starEach [e2] X.env := by rfl) (hpl : (backTo pos (starEach [e2] X.env)).any (·.1) = false := by rfl) :
    PMk X (.Call (.Name nm p) [e1, e2] [] pos) (tMkW C kd ta) := by
  intro pins s σ H Q I h
  refine wpAny_Call_Name_kw (ld_glob I hg T.mg ?_ hdb)
  refine PySem.W.callWith_K (h₀ := X.base) I.ok.mod.kin T.kp (thn (ha.run pos pins s σ H _ I h) fun us s1 hh => ?_) he hpl
  obtain ⟨vs, H1, I1, r1, a, b, ev, hla, hlb, q1⟩ := hh
  subst ev
  refine ⟨I1.kIn, ?_⟩
  obtain ⟨u1, u2, rfl, rv1, rv2⟩ := vals2 r1
  obtain ⟨ta', rfl⟩ := rv1
  obtain ⟨tb', rfl⟩ := rv2
  show wpAny _ _ (call (.ref C) [.int a ta', .int b tb']) _ _ _
  obtain ⟨mb, hmb, hbb⟩ := I.ok.mod.blt
  have M1 : Mod X.K X.mg s1.heap := ⟨I1.kIn, I1.ok.mod.glob.keeps I1.bk, ⟨mb, hmb.keeps I1.bk, hbb⟩, I1.nolimit⟩
  obtain ⟨hp, g, dr, tk, os⟩ := s1
  refine wpAny_call (wr_made T.txt M1 hla hlb (by have := hr.dp; omega) fun h' tk' e t1 d k0 k1 k2 z0 z1 z2 tkk n keep new hoe dne dbig hd => ?_)
  show MkP X pins σ Q (.ref e) ⟨h', g, dr, tk', os⟩
  have old : ∀ c o, hp.get? c = some o → h'.get? c = some o := keep
  have hoe : h'.get? e = some (excObj C t1 (some d) .none) := hoe
  obtain ⟨G', g1, g2⟩ := restrict h' fun c => decide (c ≠ e)
  have gk : ∀ c, c ≠ e → G'.get? c = h'.get? c := fun c hc => g1 c (decide_eq_true hc)
  have ge : G'.get? e = none := g2 e (by simp)
  have oldG : ∀ c o, hp.get? c = some o → G'.get? c = some o := fun c o q => (gk c (Nat.ne_of_lt (Nat.lt_of_lt_of_le (Heap.lt_size q) new))).trans (old c o q)
  obtain ⟨mA, hns, hrel⟩ := wr_ns hd
  have ob : ObjOk X.prog X.w (upd H1 d (.xd (wrFields kd a b))) G' d (.xd (wrFields kd a b)) := ⟨mA, hns.at (fun o q => (gk d dne).trans q), hrel⟩
  have J : Inv X pins σ (upd H1 d (.xd (wrFields kd a b))) ⟨G', g, dr, tk', os⟩ := I1.laid (t' := tk') oldG dbig ob
  refine ⟨e, _, _, ⟨G', g, dr, tk', os⟩, _, .ref C, some d, rfl, J, fun c o q => ?_, ge, hoe, ⟨rfl, rfl⟩, rfl, rfl, ?_, rfl, I1.bare, raises_own T.ex T.ty, q1 d (I1.hok.fresh dbig)⟩
  · by_cases hc : c = e
    · have q' : G'.get? c = some o := q
      rw [hc, ge] at q'
      exact nomatch q'
    · exact (gk c hc).symm.trans q
  · rw [upd_ne (Ne.symm dne)]
    exact I1.hok.fresh new
def tRaiseW (C : Addr) (kd : Str) (W : WX) (ta : TA) : TS := fun _ σ H => tMkW C kd ta σ H fun cls d H' => W cls d σ H'
theorem ps_raiseW {e1 e2 : Expr} {ta : TA} {W : WX} {p pos pos2 : Pos} {k : Nat} (hc : X.calm = true) (T : WrC X.prog X.K X.mg nm C D fI cc cda B fH ccH cdaH kd) (hr : Room k X.A) (tk : Takes X W) (ha : PA X [e1, e2] ta) (hg : Gl X nm := by rfl) (hdb : (nm == ("__debug__" : Str)) = false := by decide)
    (he : starEach (e1 :: [e2]) X.env = (false, eval e1 X.env) :: starEach [e2] X.env := by rfl) (hpl : (backTo pos (starEach [e2] X.env)).any (·.1) = false := by rfl) :
    PS X (.Raise (some (.Call (.Name nm p) [e1, e2] [] pos)) none pos2) (tRaiseW C kd W ta) := ps_raise hc tk (pmk_wr T hr ha hg hdb he hpl)
end
end LH

set_option maxHeartbeats 2000000
namespace LH
open PySem PySem.Spec PySem.Calls PyProof.Rows L2
open PySem.W (Frag clsIn findIn subIn hasDictIn)
/-! ### a held error with an own dict: isinstance of it, its attributes -/
/-- the error at a, of the class at D, its own dict at dd with the fields fs -/
def HeldD (H : Hp) (D dd a : Addr) (fs : List (Str × V)) : Prop := H a = some (ExH (.ref D) (some dd) a) ∧ H dd = some (.xd fs)
theorem HeldD.same {H H' : Hp} {D dd a : Addr} {fs : List (Str × V)} (h : HeldD H D dd a fs) (s : Same H H') : HeldD H' D dd a fs := ⟨s _ _ h.1, s _ _ h.2⟩
theorem held_inst {X : Cx} {pins : List (Addr × Obj)} {σ : L2.St} {H : Hp} {s : Shared} {D dd a : Addr} {fs : List (Str × V)} (I : Inv X pins σ H s) (h : HeldD H D dd a fs) :
    ∃ (oe od : Obj) (mA : Str → Option Value), PySem.W.InstAt s.heap a oe D (some od) ∧ (∀ f, PySem.W.lookIn f od = some (mA f)) ∧ ∀ f, RelO (List.lookup f fs) (mA f) := by
  obtain ⟨⟨oe, fv, hget, ⟨h1, h2⟩, h3⟩, _, _⟩ := (show ObjOk X.prog X.w H s.heap a (ExH (.ref D) (some dd) a) from I.hok a _ h.1)
  obtain ⟨mA, hns, hr⟩ := (show ObjOk X.prog X.w H s.heap dd (.xd fs) from I.hok dd _ h.2)
  obtain ⟨od, ho, hl⟩ := lookIn_ns hns
  exact ⟨oe, od, mA, ⟨hget, h1, by unfold PySem.W.notCls; rw [h3] <;> rfl, by rw [h2]; exact ho⟩, hl, hr⟩
def rIsD (K : Frag) : List V → Hp → VK → Prop := fun xs H Q => ∃ (a D dd : Addr) (fs : List (Str × V)) (c : V) (cv : Value) (b : Bool), xs = [.ref a, c] ∧ HeldD H D dd a fs ∧ ExcC K D ∧ (∀ u, RelV c u → u = cv) ∧ PySem.W.kitOne K (.ref D) cv = some b ∧ Q (.bl b) H
theorem call_isD {X : Cx} : CallR X (.builtin "isinstance") (rIsD X.K) := by
  intro pins s σ H xs us Q I r h
  obtain ⟨a, D, dd, fs, c, cv, b, rfl, hh, C, hcv, e, q⟩ := h
  obtain ⟨u1, u2, rfl, r1, r2⟩ := vals2 r
  cases (show u1 = Value.ref a from r1)
  obtain rfl := hcv _ r2
  obtain ⟨oe, od, mA, J, _, _⟩ := held_inst I hh
  have hcl : (clsIn X.K D).isSome = true := by
    obtain ⟨cd, hc, _⟩ := PySem.W.any_some C.hd
    rw [hc]; rfl
  exact PySem.W.kia_one (PySem.W.kitx_exc hcl C.hg C.hk C.hs C.ha C.hn C.ht C.hm) I.kIn J e (fun z => nomatch z) fun tk => ⟨.bl b, H, I.kept (t' := tk) fun _ _ z => z, rfl, q⟩
theorem cIsD {X : Cx} (K : Frag) (h : X.K = K := by rfl) : CallR X (.builtin "isinstance") (rIsD K) := h ▸ call_isD
/-- isinstance of a held error, with or without an own dict -/
def rIsE' (K : Frag) : List V → Hp → VK → Prop := fun xs H Q => rIsH K xs H Q ∨ rIsD K xs H Q
theorem cIsHD {X : Cx} (K : Frag) (h : X.K = K := by rfl) : CallR X (.builtin "isinstance") (rIsE' K) := fun pins s σ H xs us Q I r q => q.elim (cIsH K h pins s σ H xs us Q I r) (cIsD K h pins s σ H xs us Q I r)
/-- an attribute of it that stands in its own dict -/
def tFld (K : Frag) (f : Str) (te : TE) : TE := fun σ H Q => te σ H fun x H1 => ∃ (a D dd : Addr) (fs : List (Str × V)) (v : V), x = .ref a ∧ HeldD H1 D dd a fs ∧ ExcC K D ∧ findIn K (.ref D) f = some none ∧ fs.lookup f = some v ∧ Q v H1
theorem pe_fldD {X : Cx} {K : Frag} {e : Expr} {te : TE} {pos : Pos} {f : Str} (he : PE X e te) (hK : X.K = K := by rfl) (hb : attributeBase e f X.env (eval e X.env) = eval e X.env := by rfl) : PE X (.Attribute e f pos) (tFld K f te) := by
  subst hK
  refine ⟨fun pins s σ H Q I h => ?_⟩
  refine attr_of hb (thn (he.run pins s σ H _ I h) fun u s1 hh => ?_)
  obtain ⟨x, H1, I1, rx, a, D, dd, fs, v, ex, hd, C, hno, hv, q⟩ := hh
  subst ex
  obtain rfl : u = Value.ref a := rx
  obtain ⟨oe, od, mA, J, hl, hr⟩ := held_inst I1 hd
  obtain ⟨w', hw, rw'⟩ := RelO.some_of (v := v) (o := mA f) (by rw [← hv]; exact hr f)
  exact HandSPX.exc_get I1.kIn J C.hg C.hk C.hs (PySem.W.findObj_own C.hd hno rfl (by rw [hl, hw])) (handed_of rw') ⟨v, H1, I1.tok _, rw', q⟩
end LH

set_option maxHeartbeats 2000000
namespace LH
open PySem PySem.Spec PySem.Calls PyProof.Rows L2
open PySem.W (Frag clsIn findIn subIn typeIn nsIn keepIn codeIn hasDictIn mroIn excObj InstAt dictOf)
/-! ### raise C(text), made by the __init__ of its base: its own dict holds its kind alone -/
def heFields (kd : Str) : List (Str × V) := [("kind", .str kd)]
theorem he_ns {h : Heap} {dx : Addr} {k0 : Int} {q0 tk1 : Tok} {kd : Str} {n : Nat} (e : h.get? dx = some (dictOf [⟨k0, .str "kind" q0, .str kd tk1⟩] n)) :
    ∃ mA, h.Ns1 dx mA ∧ ∀ f, RelO (List.lookup f (heFields kd)) (mA f) := by
  refine ⟨fun f => if f = "kind" then some (.str kd tk1) else none, ⟨_, _, _, e, rfl, fun x hx => ?_, ?_, fun f => ?_⟩, fun f => ?_⟩
  · simp only [List.mem_toArray, List.mem_cons, List.mem_nil_iff, or_false] at hx
    rw [hx]
    exact ⟨_, _, rfl⟩
  · show List.Pairwise _ _
    simp only [List.pairwise_cons, List.mem_nil_iff, or_false]
    exact ⟨fun _ h => h.elim, List.Pairwise.nil⟩
  · unfold nsFind findBy
    rw [List.find?_toArray]
    by_cases h0 : f = "kind"
    · subst h0
      simp [List.find?, Value.isStr]
    · have z0 : ((Str.ofString "kind" : Str) == f) = false := by simpa using fun h => h0 h.symm
      simp [List.find?, Value.isStr, z0, h0]
  · unfold heFields
    dsimp only
    by_cases h0 : f = "kind"
    · subst h0
      show RelO (some (V.str kd)) _
      rw [if_pos rfl]
      exact ⟨_, rfl⟩
    · have z0 : (f == (Str.ofString "kind" : Str)) = false := by simpa using h0
      rw [if_neg h0]
      simp only [List.lookup, z0]
      trivial
/-- the class as its raisers see it -/
structure HeC (prog : Program) (K : Frag) (mg : Str → Option Value) (nm : Str) (C D fH cc cda : Addr) (kd : Str) : Prop where
  txt : HeTxt prog K C D fH cc cda kd
  ini : findIn K (.ref C) "__init__" = some (some (.ref fH))
  mg : mg nm = some (.ref C)
  kp : keepIn K (.ref C) = true
  ex : subIn K (.ref C) (.type "BaseException") = some true
  ty : typeIn K (.ref C) = some (.type "type")
section
variable {prog : Program} {w : World} {A : Around} {R : Result → Shared → Prop} {K : Frag} {mg : Str → Option Value} {C D fH cc cda : Addr} {nm kd : Str}
theorem he_made (T : HeTxt prog K C D fH cc cda kd) (hini : findIn K (.ref C) "__init__" = some (some (.ref fH))) {s : Shared} (M : Mod K mg s.heap) {a : Value} (hroom : A.depth + 1 < recursionLimit)
    (hq : ∀ h' tk e t1 dx k0 q0 tk1 n, (∀ b o, s.heap.get? b = some o → h'.get? b = some o) → s.heap.objs.size ≤ e → h'.get? e = some (excObj C t1 (some dx) .none) → dx ≠ e → s.heap.objs.size ≤ dx →
      h'.get? dx = some (dictOf [⟨k0, .str "kind" q0, .str kd tk1⟩] n) → R (.ok (.ret (.ref e))) { s with heap := h', toks := tk }) :
    codeAny (model prog w) A (.call (.ref C) ⟨[a], []⟩) R s := by
  obtain ⟨nm, N', qn, bs, bm, hdct, sn, sub, ab, col, dd, k0, k1, k2, k3, k5, hC, hT⟩ := PySem.W.excInit_of M.kin T.exi
  obtain ⟨hp, g, dr, tk, os⟩ := s
  have M : Mod K mg hp := M
  have hC : hp.get? C = _ := hC
  have k : ∀ c o, hp.get? c = some o → ((hp.push (PySem.W.kdv_tup [a])).push (HandSPX.excO C hp.objs.size)).get? c = some o := fun c o e => Heap.get?_push_of_some _ (Heap.get?_push_of_some _ e)
  have hget : ((hp.push (PySem.W.kdv_tup [a])).push (HandSPX.excO C hp.objs.size)).get? (hp.objs.size + 1) = some (HandSPX.excO C hp.objs.size) := by heap_get
  have hno : ∀ q, hp.objs.size ≤ q → hp.get? q = none := fun q hq' => by
    cases e : hp.get? q with
    | none => rfl
    | some o => exact absurd (Heap.lt_size e) (Nat.not_lt_of_le hq')
  refine HandSPX.call_own PySem.F.excBase_ValueError hT hC (PySem.W.looks_findIn M.kin hini) (fun self => PySem.W.bind_fn M.kin self T.tyf) (LH.one_le a) ?_
  refine he_init (hp := hp) (s := ⟨(hp.push (PySem.W.kdv_tup [a])).push (HandSPX.excO C hp.objs.size), g, dr, tk, os⟩) T M k ?_ hget (hno _ (Nat.le_succ _)) ?_ fun h' tk' t1 dx q0 tk1 kp hx hlt hn hd => ?_
  · rw [Heap.size_push, Heap.size_push]; omega
  · show A.depth + 1 < recursionLimit
    exact hroom
  · exact ⟨rfl, hq h' tk' (hp.objs.size + 1) t1 dx _ q0 tk1 _ kp (Nat.le_succ _) hx (Nat.ne_of_gt hlt) (Nat.le_of_lt (Nat.lt_of_succ_lt hlt)) hd⟩
end
section
variable {X : Cx} {nm kd : Str} {C D fH cc cda : Addr}
def tMkH (C : Addr) (kd : Str) (ta : TA) : L2.St → Hp → XK → Prop := fun σ H Q => ta σ H fun vs H1 => ∃ v : V, vs = [v] ∧ ∀ d, H1 d = none → Q (.ref C) (some d) (upd H1 d (.xd (heFields kd)))
theorem pmk_he {e1 : Expr} {ta : TA} {p pos : Pos} {k : Nat} (T : HeC X.prog X.K X.mg nm C D fH cc cda kd) (hr : Room k X.A) (ha : PA X [e1] ta) (hg : Gl X nm := by rfl) (hdb : (nm == ("__debug__" : Str)) = false := by decide)
    (he : starEach (e1 :: []) X.env = (false, eval e1 X.env) :: starEach [] X.env := by rfl) (hpl : (backTo pos (starEach [] X.env)).any (·.1) = false := by rfl) :
    PMk X (.Call (.Name nm p) [e1] [] pos) (tMkH C kd ta) := by
  intro pins s σ H Q I h
  refine wpAny_Call_Name_kw (ld_glob I hg T.mg ?_ hdb)
  refine PySem.W.callWith_K (h₀ := X.base) I.ok.mod.kin T.kp (thn (ha.run pos pins s σ H _ I h) fun us s1 hh => ?_) he hpl
  obtain ⟨vs, H1, I1, r1, v, ev, q1⟩ := hh
  subst ev
  refine ⟨I1.kIn, ?_⟩
  obtain ⟨u1, rfl, _⟩ := vals1 r1
  show wpAny _ _ (call (.ref C) [u1]) _ _ _
  obtain ⟨mb, hmb, hbb⟩ := I.ok.mod.blt
  have M1 : Mod X.K X.mg s1.heap := ⟨I1.kIn, I1.ok.mod.glob.keeps I1.bk, ⟨mb, hmb.keeps I1.bk, hbb⟩, I1.nolimit⟩
  obtain ⟨hp, g, dr, tk, os⟩ := s1
  refine wpAny_call (he_made T.txt T.ini M1 (by have := hr.dp; omega) fun h' tk' e t1 d k1 z1 z2 n keep new hoe dne dbig hd => ?_)
  show MkP X pins σ Q (.ref e) ⟨h', g, dr, tk', os⟩
  have old : ∀ c o, hp.get? c = some o → h'.get? c = some o := keep
  have hoe : h'.get? e = some (excObj C t1 (some d) .none) := hoe
  obtain ⟨G', g1, g2⟩ := restrict h' fun c => decide (c ≠ e)
  have gk : ∀ c, c ≠ e → G'.get? c = h'.get? c := fun c hc => g1 c (decide_eq_true hc)
  have ge : G'.get? e = none := g2 e (by simp)
  have oldG : ∀ c o, hp.get? c = some o → G'.get? c = some o := fun c o q => (gk c (Nat.ne_of_lt (Nat.lt_of_lt_of_le (Heap.lt_size q) new))).trans (old c o q)
  obtain ⟨mA, hns, hrel⟩ := he_ns hd
  have ob : ObjOk X.prog X.w (upd H1 d (.xd (heFields kd))) G' d (.xd (heFields kd)) := ⟨mA, hns.at (fun o q => (gk d dne).trans q), hrel⟩
  have J : Inv X pins σ (upd H1 d (.xd (heFields kd))) ⟨G', g, dr, tk', os⟩ := I1.laid (t' := tk') oldG dbig ob
  refine ⟨e, _, _, ⟨G', g, dr, tk', os⟩, _, .ref C, some d, rfl, J, fun c o q => ?_, ge, hoe, ⟨rfl, rfl⟩, rfl, rfl, ?_, rfl, I1.bare, raises_own T.ex T.ty, q1 d (I1.hok.fresh dbig)⟩
  · by_cases hc : c = e
    · have q' : G'.get? c = some o := q
      rw [hc, ge] at q'
      exact nomatch q'
    · exact (gk c hc).symm.trans q
  · rw [upd_ne (Ne.symm dne)]
    exact I1.hok.fresh new
def tRaiseH (C : Addr) (kd : Str) (W : WX) (ta : TA) : TS := fun _ σ H => tMkH C kd ta σ H fun cls d H' => W cls d σ H'
theorem ps_raiseH {e1 : Expr} {ta : TA} {W : WX} {p pos pos2 : Pos} {k : Nat} (hc : X.calm = true) (T : HeC X.prog X.K X.mg nm C D fH cc cda kd) (hr : Room k X.A) (tk : Takes X W) (ha : PA X [e1] ta) (hg : Gl X nm := by rfl) (hdb : (nm == ("__debug__" : Str)) = false := by decide)
    (he : starEach (e1 :: []) X.env = (false, eval e1 X.env) :: starEach [] X.env := by rfl) (hpl : (backTo pos (starEach [] X.env)).any (·.1) = false := by rfl) :
    PS X (.Raise (some (.Call (.Name nm p) [e1] [] pos)) none pos2) (tRaiseH C kd W ta) := ps_raise hc tk (pmk_he T hr ha hg hdb he hpl)
/-- raise C(text): what follows of the classes -/
structure RaiseH (K : Frag) (hs C : Addr) : Prop where
  xc : ExcC K C
  fits : PySem.W.exmOne K (.ref C) (.ref hs) = some true
  base : PySem.W.kitOne K (.ref C) (.type "ValueError") = some true
end
end LH

namespace LH
open PySem PySem.Spec PySem.Calls PyProof.Rows L2
/-! ### a thing in a tuple of data -/
def rInT (K : PySem.W.Frag) : R2 := fun x y H Q => ∃ d ds, Dp K H x d ∧ Dp K H y (.tuple ds) ∧ SeqAt.shaped d = true ∧ SeqAt.shaped (.tuple ds) = true ∧ Q (.bl (ds.any fun z => PyData.eqv z d)) H
theorem op_inT {X : Cx} (K : PySem.W.Frag) (hu : X.A.units + 65 < cLine) (hK : X.K = K := by rfl) : OpR X (compareOp .In) (rInT K) := by
  subst hK
  intro pins s σ H x y v u Q I rx ry h
  obtain ⟨d, ds, hd, he, sd, se, q⟩ := h
  obtain ⟨as, r1⟩ := Dp.reads I d x v hd rx
  obtain ⟨bs, r2⟩ := Dp.reads I (.tuple ds) y u he ry
  exact SeqAt.in_tuple_reads r2 r1 (SeqAt.canLay_of_shaped se) (SeqAt.canLay_of_shaped sd) (room_in_shaped sd hu) ⟨.bl _, H, I, rfl, q⟩
theorem unit1 {k : Nat} {A : Around} (hr : Room k A) : A.units + 1 < cLine := by have := hr.un; omega
theorem room65 {k : Nat} {A : Around} (hr : Room (k + 1) A) : A.units + 65 < cLine := by have := hr.un; omega
end LH

set_option maxHeartbeats 2000000
namespace LH
open PySem PySem.Spec PySem.Calls PyProof.Rows L2 Builtin Builtin.Str Builtin.Int Builtin.Float
/-! ### a number by two or four figures -/
theorem dig_char : ∀ d : Fin 10, (Nat.digitChar d.val).toNat = 48 + d.val := by decide
def digs (n : Nat) : List Nat := (Nat.toDigits 10 n).map fun c => (if (100 : Nat) == 88 then c.toUpper else c).toNat
theorem digs_lt {n : Nat} (h : n < 10) : digs n = [48 + n] := by
  unfold digs
  rw [Nat.toDigits_of_lt_base h]
  exact congrArg (fun x => [x]) (dig_char ⟨n, h⟩)
theorem digs_ge {n : Nat} (h : 10 ≤ n) : digs n = digs (n / 10) ++ [48 + n % 10] := by
  unfold digs
  rw [Nat.toDigits_of_base_le (by decide) h, List.map_append]
  exact congrArg (fun x => _ ++ [x]) (dig_char ⟨n % 10, Nat.mod_lt _ (by decide)⟩)
theorem dec4_eq {n : Nat} (h : n < 10000) : decT 4 ((n : Nat) : Int) = ⟨#[48 + n / 1000, 48 + n / 100 % 10, 48 + n / 10 % 10, 48 + n % 10]⟩ := by
  have key : ∀ a b c d : Nat, digs n = [d] ∧ a = 48 ∧ b = 48 ∧ c = 48 ∨ digs n = [c, d] ∧ a = 48 ∧ b = 48 ∨ digs n = [b, c, d] ∧ a = 48 ∨ digs n = [a, b, c, d] → decT 4 ((n : Nat) : Int) = ⟨#[a, b, c, d]⟩ := by
    intro a b c d hk
    unfold decT
    rw [show decide (((n : Nat) : Int) < 0) = false from decide_eq_false (by omega), show ((n : Nat) : Int).natAbs = n from rfl]
    show intField' (decF 4) false [] (digs n) [] 3 = _
    rcases hk with ⟨h, rfl, rfl, rfl⟩ | ⟨h, rfl, rfl⟩ | ⟨h, rfl⟩ | h <;> rw [h] <;> rfl
  refine key _ _ _ _ ?_
  by_cases h1 : n < 10
  · exact .inl ⟨by rw [digs_lt h1, show n % 10 = n by omega], by omega, by omega, by omega⟩
  · by_cases h2 : n < 100
    · exact .inr (.inl ⟨by rw [digs_ge (by omega), digs_lt (by omega)]; simp; omega, by omega, by omega⟩)
    · by_cases h3 : n < 1000
      · refine .inr (.inr (.inl ⟨?_, by omega⟩))
        rw [digs_ge (by omega), digs_ge (by omega), digs_lt (by omega)]
        simp
        omega
      · refine .inr (.inr (.inr ?_))
        rw [digs_ge (by omega), digs_ge (by omega), digs_ge (by omega), digs_lt (by omega)]
        simp
        omega
set_option maxHeartbeats 4000000 in
theorem fmt_dec2 {n : Nat} (h : n < 100) : FmtI (Str.ofString "02d") ((n : Nat) : Int) ⟨#[48 + n / 10, 48 + n % 10]⟩ := by
  intro prog w A E s t Q q
  have hlen : (decT 2 ((n : Nat) : Int)).length ≤ sizeLine := by rw [dec2_eq h, sizeLine_eq]; show 2 ≤ 16777216; decide
  rw [← dec2_eq h] at q
  refine PySem.W.KXf.field_int (spec' := Str.ofString "02d") (y := decT 2 ((n : Nat) : Int)) rfl (by decide +kernel) (by decide +kernel) ?_ q
  intro _
  apply PySem.W.KPc.meets_of
  intro _ _ _ _ _ _ _
  unfold Builtin.«int.__format__»
  refine wpAny_bind (wpAny_of_eq (a := (_, _)) rfl ?_)
  refine wpAny_bind (wpAny_of_eq (a := _) rfl ?_)
  kxf_if
  refine wpAny_bind (wpAny_typeNameOf (T := "str") (typeIs_str _ _ _) (by decide) fun _ => ?_)
  refine wpAny_bind (wpAny_of_eq (a := some _) rfl ?_)
  kxf_if
  kxf_if
  refine wpAny_bind (wpAny_typeNameOfCut_int ?_)
  simp only [dec2_parse, decF]
  (repeat kxf_if)
  have hlog : ((n : Nat) : Int).natAbs.log2 < 1920 := by
    rw [Int.natAbs_natCast]
    by_cases h0 : n = 0
    · rw [h0]; decide
    · have : n.log2 < 20 := (Nat.log2_lt h0).mpr (by omega)
      omega
  refine wpAny_bind (m := Builtin.overDigitLimit? ((n : Nat) : Int)) (wpAny_of_eq (PySem.overDigitLimit_small hlog) ?_)
  refine PySem.W.KXf.ret_text (T := decT 2 ((n : Nat) : Int)) rfl hlen ?_
  assumption
set_option maxHeartbeats 4000000 in
theorem fmt_dec4 {n : Nat} (h : n < 10000) : FmtI (Str.ofString "04d") ((n : Nat) : Int) ⟨#[48 + n / 1000, 48 + n / 100 % 10, 48 + n / 10 % 10, 48 + n % 10]⟩ := by
  intro prog w A E s t Q q
  have hlen : (decT 4 ((n : Nat) : Int)).length ≤ sizeLine := by rw [dec4_eq h, sizeLine_eq]; show 4 ≤ 16777216; decide
  rw [← dec4_eq h] at q
  refine PySem.W.KXf.field_int (spec' := Str.ofString "04d") (y := decT 4 ((n : Nat) : Int)) rfl (by decide +kernel) (by decide +kernel) ?_ q
  intro _
  apply PySem.W.KPc.meets_of
  intro _ _ _ _ _ _ _
  unfold Builtin.«int.__format__»
  refine wpAny_bind (wpAny_of_eq (a := (_, _)) rfl ?_)
  refine wpAny_bind (wpAny_of_eq (a := _) rfl ?_)
  kxf_if
  refine wpAny_bind (wpAny_typeNameOf (T := "str") (typeIs_str _ _ _) (by decide) fun _ => ?_)
  refine wpAny_bind (wpAny_of_eq (a := some _) rfl ?_)
  kxf_if
  kxf_if
  refine wpAny_bind (wpAny_typeNameOfCut_int ?_)
  simp only [dec4_parse, decF]
  (repeat kxf_if)
  have hlog : ((n : Nat) : Int).natAbs.log2 < 1920 := by
    rw [Int.natAbs_natCast]
    by_cases h0 : n = 0
    · rw [h0]; decide
    · have : n.log2 < 20 := (Nat.log2_lt h0).mpr (by omega)
      omega
  refine wpAny_bind (m := Builtin.overDigitLimit? ((n : Nat) : Int)) (wpAny_of_eq (PySem.overDigitLimit_small hlog) ?_)
  refine PySem.W.KXf.ret_text (T := decT 4 ((n : Nat) : Int)) rfl hlen ?_
  assumption
/-! ### x in a text or a list -/
def rInBoth (K : PySem.W.Frag) : R2 := fun x y H Q => (∃ (c : Nat) (z : Str), x = .str ⟨#[c]⟩ ∧ y = .str z ∧ Q (.bl (decide (c ∈ z.cps.toList))) H) ∨ rIn K false x y H Q
theorem op_inBoth {X : Cx} (K : PySem.W.Frag) (hK : X.K = K := by rfl) : OpR X (compareOp .In) (rInBoth K) := fun pins s σ H x y v u Q I rx ry h => h.elim (fun h => op_in_sign pins s σ H x y v u Q I rx ry h) (fun h => oIn K hK pins s σ H x y v u Q I rx ry h)
/-- a method as its callers see it -/
structure DefM (P : Program) (w : World) (K : PySem.W.Frag) (mg : Str → Option Value) (base : Heap) (C : Addr) (m : Str) (k : Nat) (f : Addr) (fd : FuncData) (ps : List Str) (sp : Sp) : Prop where
  c : Cls K C
  hm : Meth K C m f
  ok : FnOk P w K mg base CX0 k f fd ps sp
  bd : Binds K fd ps []
/-- a class that is called -/
structure DefC (P : Program) (w : World) (K : PySem.W.Frag) (mg : Str → Option Value) (base : Heap) (x : Str) (C : Addr) (k : Nat) (f : Addr) (fd : FuncData) (ps : List Str) (sp : Sp) : Prop where
  make : Mk K C f
  ok : FnOk P w K mg base CX0 k f fd ps sp
  mg : mg x = some (.ref C)
  bd : Binds K fd ps []
/-- all but the object at a stays -/
def SameBut (a : Addr) (H H' : Hp) : Prop := ∀ b o, b ≠ a → H b = some o → H' b = some o
theorem SameBut.refl (a : Addr) (H : Hp) : SameBut a H H := fun _ _ _ e => e
theorem SameBut.trans {a : Addr} {H H' H2 : Hp} (h : SameBut a H H') (g : SameBut a H' H2) : SameBut a H H2 := fun b o hb e => g b o hb (h b o hb e)
theorem SameBut.of {a : Addr} {H H' : Hp} (h : Same H H') : SameBut a H H' := fun b o _ e => h b o e
theorem SameBut.upd (a : Addr) (H : Hp) (o : HO) : SameBut a H (upd H a o) := fun b u hb e => by rw [upd_ne hb]; exact e
end LH

namespace LH
open PySem PySem.Spec PyProof.Rows L2 Builtin Builtin.Str PySem.StrLaws
/-! ### a text of which nothing is left when some signs are taken from its ends -/
theorem has_mem (y : Str) (c : Nat) : y.cps.contains c = decide (c ∈ TL.tl y) := by
  show y.cps.contains c = decide (c ∈ y.cps.toList)
  simp
theorem strip_none (x y : Str) : (Txt.stripChars x y = ⟨#[]⟩) ↔ (TL.tl x).all (fun c => decide (c ∈ TL.tl y)) = true := by
  have hl : x.cps.toList.length = x.length := by simp [Str.length]
  unfold Txt.stripChars
  rw [stripBy_eq]
  obtain ⟨l1, l2, l3⟩ := lo_facts y.cps.contains x
  obtain ⟨h1, h2, h3, h4⟩ := hi_facts y.cps.contains x (stripLo y.cps.contains true x) l1
  generalize stripLo y.cps.contains true x = lo at *
  generalize stripHi y.cps.contains true x lo = hi at *
  have hs : (strSub x lo hi).cps.toList = (x.cps.toList.drop lo).take (hi - lo) := strSub_toList ..
  have hg : ∀ k, k < x.length → (x.cps.getD k 0) ∈ x.cps.toList := fun k hk => by
    rw [← getD_list, List.getD_eq_getElem?_getD, List.getElem?_eq_getElem (by rw [hl]; exact hk)]
    exact List.getElem_mem _
  rw [List.all_eq_true]
  constructor
  · intro e c hc
    have e0 : (x.cps.toList.drop lo).take (hi - lo) = [] := by rw [← hs, e]
    have e1 : hi = lo := by
      have := congrArg List.length e0
      rw [List.length_take, List.length_drop, hl, List.length_nil] at this
      omega
    have hc' : c ∈ x.cps.toList := hc
    obtain ⟨k, hk, e2⟩ := List.getElem_of_mem hc'
    have ek : c = x.cps.getD k 0 := by
      rw [← getD_list, List.getD_eq_getElem?_getD, List.getElem?_eq_getElem hk, ← e2]; rfl
    rw [hl] at hk
    rw [← has_mem, ek]
    by_cases hkl : k < lo
    · exact l2 k hkl
    · exact h3 k (by omega) hk
  · intro ha
    have hb : ∀ k, k < x.length → y.cps.contains (x.cps.getD k 0) = true := fun k hk => by rw [has_mem]; exact ha _ (hg k hk)
    have : lo = x.length := by
      rcases l3 with h | h
      · exact h
      · by_cases hlt : lo < x.length
        · rw [hb lo hlt] at h; cases h
        · omega
    have e : (x.cps.toList.drop lo).take (hi - lo) = [] := by
      apply List.eq_nil_of_length_eq_zero
      rw [List.length_take, List.length_drop, hl]; omega
    apply TL.ext_tl
    show (strSub x lo hi).cps.toList = []
    rw [hs, e]
theorem strip_eq (x y : Str) : decide (V.str (Txt.stripChars x y) = V.str (Str.ofString "")) = (TL.tl x).all (fun c => decide (c ∈ TL.tl y)) := by
  have e0 : (Str.ofString "") = ⟨#[]⟩ := by decide +kernel
  rw [e0]
  by_cases h : (TL.tl x).all (fun c => decide (c ∈ TL.tl y)) = true
  · rw [h, decide_eq_true (congrArg V.str ((strip_none x y).mpr h))]
  · rw [Bool.not_eq_true] at h
    rw [h, decide_eq_false (fun e => by rw [(strip_none x y).mp (V.str.inj e)] at h; cases h)]
end LH

namespace LH
open PySem PySem.Spec PyProof.Rows L2
/-! ### the sum of a tuple of whole numbers; a slice of a tuple, the whole of it too -/
def rSumT (K : PySem.W.Frag) : List V → Hp → VK → Prop := fun vs H Q => ∃ (a : Addr) (ns : List Int), vs = [V.ref a] ∧ SqT K H a (ns.map V.int) ∧ Q (.int ns.sum) H
theorem cr_sumT {X : Cx} (hc : X.calm = true) : CallR X (.builtin "sum") (rSumT X.K) := by
  intro pins s σ H vs us Q I r h
  obtain ⟨a, ns, rfl, hs, q⟩ := h
  obtain ⟨its, rv, hl, _⟩ := I.tuple hs
  rw [Vals.ref1 r]
  obtain ⟨xs, e⟩ := rv.ints.allInts.items
  have hn : numsOf (intItems xs).toList = ns := by rw [← e]; exact rv.ints.numsOf
  rw [nums_intItems] at hn
  rw [e] at hl
  refine PySem.W.ktm_sumG (I.ok.hd hc) hl fun h' tk t' hk => ?_
  have : preSum (numAt xs) xs.size = ns.sum := by rw [preSum_eq, List.take_of_length_le (by simp), hn]
  rw [this]
  exact ⟨.int _, H, I.kept hk, ⟨_, rfl⟩, q⟩
theorem sumT (K : PySem.W.Frag) {X : Cx} (hc : X.calm = true) (h : X.K = K := by rfl) : CallR X (.builtin "sum") (rSumT K) := h ▸ cr_sumT hc
theorem slA (K : PySem.W.Frag) {X : Cx} (h : X.K = K := by rfl) : SlR X (rSlA K) := h ▸ sl_tupA
end LH

set_option maxHeartbeats 2000000
namespace LH
open PySem PySem.Spec PySem.Calls PyProof.Rows L2
open PySem.W (Frag clsIn findIn subIn typeIn nsIn keepIn codeIn hasDictIn mroIn ksFn ksEnv ks_superIn excInitIn excOver takerIn ks_superObj kxs_mw excObj excTup InstAt dictOf)
abbrev bmE : List Value := [.type "Exception", .type "BaseException", .type "object"]
/-! ### an own exception with the __init__ of a class above it: super().__init__(text), self.line, self.place -/
def aA (p1 p3 : Pos) : Arguments := { posonlyargs := [], args := [{ arg := "self", annotation := none, pos := p1 }, { arg := "place", annotation := none, pos := p3 }], vararg := none, kwonlyargs := [], kw_defaults := [], kwarg := none, defaults := [] }
structure AtPos where
  (a1 a3 s0 s1 s2 s3 s4 f0 k1 v1 n1 m0 m1 m2 m3 : Pos)
  (u1 : Nat)
def aB (P : AtPos) : List Stmt :=
  [.Expr (.Call (.Attribute (.Call (.Name "super" P.s0) [] [] P.s1) "__init__" P.s2) [.JoinedStr [.Constant (.str "place ") P.u1 P.k1, .FormattedValue (.Name "place" P.n1) (-1) none P.v1] P.f0] [] P.s3) P.s4,
   .Assign [.Attribute (.Name "self" P.m0) "place" P.m1] (.Name "place" P.m2) P.m3]
def aS : Scope := { kind := .function, names := [("self", .local), ("place", .local), ("__class__", .free), ("super", .globalImplicit)], isGenerator := false, isCoroutine := false, more := [] }
/-- what the written part says of the class at C, made by the __init__ at fI of the class at D -/
structure AtTxt (prog : Program) (K : Frag) (C fI cc cda : Addr) : Prop where
  ini : findIn K (.ref C) "__init__" = some (some (.ref fI))
  exi : excInitIn K C bmE "Exception.__new__" = true
  exo : excOver K C bmE = true
  sa : findIn K (.ref C) "__setattr__" = some (some (.builtin "object.__setattr__"))
  tkp : takerIn K C "place" = some none
  hdC : hasDictIn K C = true
  tyf : typeIn K (.ref fI) = some (.type "function")
  fn : ∃ (oc : Value) (od : Option Addr) (doc pm : Value) (an : Option Addr) (ct : Value) (osl : Array (Option Value)) (P : AtPos),
    K.lookup fI = some ⟨oc, od, .func (ksFn "__init__" "Astray.__init__" (aA P.a1 P.a3) (aB P) aS .none .none doc pm an (.ref cda) ct cc), osl⟩ ∧ codeIn K (.ref cda) "Astray.__init__" = true ∧ (P.s2.endLine == P.s3.line) = true
  code : ∃ (ccl : Value) (cdd : Option Addr) (vs : Array Value) (ccs : Array (Option Value)) (file : Str) (tf : Tok), K.lookup cda = some ⟨ccl, cdd, .fields vs, ccs⟩ ∧ vs[2]? = some (.str file tf) ∧ ((prog.main.file : Str) == file) = true
  cell : ∃ (cl : Value) (cld : Option Addr) (csl : Array (Option Value)), K.lookup cc = some ⟨cl, cld, .cell (some (.ref C)), csl⟩
  icC : PySem.W.isClsIn K C = true
  sub : mroIn K C (.ref C) = some true
  sup : nsIn K mainGlobals "super" = some none
  top : (prog.main.scope.names.lookup ("super" : Str)).isSome = false
  thp : nsIn K cStatics "thirdparty.any" = some none
  supI : ks_superIn K C C "__init__" = some (some (.builtin "Exception.__init__"))
  subV : subIn K (.ref C) (.type "Exception") = some true
section
variable {prog : Program} {w : World} {A : Around} {E : Value → Shared → Prop} {R : Result → Shared → Prop} {K : Frag} {mg : Str → Option Value} {C fI cc cda x : Addr} {hp : Heap}
/-- super(), in the __init__ of such a class -/
theorem at_super (T : AtTxt prog K C fI cc cda) (M : Mod K mg hp) {s : Shared} {L : Addr} {m : Str → Option Value} {news : List (Addr × Obj)} (F : Fr hp L s.heap m) (N : News hp L s.heap news) {ox : Obj} {odx : Option Obj} (I : InstAt s.heap x ox C odx) (hv : m "self" = some (.ref x))
    {P : AtPos} {p0 p1 : Pos} {whole : Sem Value} {Q : Value → Shared → Prop}
    (h : ∀ so h', Fr hp L h' m → News hp L h' ((so, ks_superObj C x C) :: news) → (∀ p ∈ news, p.1 < so) → Q (.ref so) { s with heap := h' }) :
    PySem.wpAt (model prog w) A (.func (aB P) (ksEnv "Astray.__init__" aS L fI (.ref cda) cc)) (attributeBase (.Call (.Name "super" p0) [] [] p1) "__init__" (ksEnv "Astray.__init__" aS L fI (.ref cda) cc) whole) Q E s := by
  have X : K.In s.heap := M.kin.keeps F.keep
  obtain ⟨oc, od, doc, pm, an, ct, osl, P', hf, hcd, _⟩ := T.fn
  obtain ⟨ccl, cdd, vs, ccs, file, tf, hcode, hvs, hfile⟩ := T.code
  obtain ⟨cl, cld, csl, hcell⟩ := T.cell
  obtain ⟨mb, hb, hbb⟩ := M.blt
  obtain ⟨cdD, hD⟩ : ∃ cdD, clsIn K C = some cdD := Option.isSome_iff_exists.mp T.icC
  obtain ⟨hh, g, d, t, os⟩ := s
  have ⟨oD, hD1, hD2⟩ : ∃ o : Obj, hh.get? C = some o ∧ o.data = .cls cdD := by
    unfold PySem.W.clsIn at hD
    split at hD
    · rename_i ho; cases hD; exact ⟨_, X _ _ ho, rfl⟩
    · cases hD
  have noc : ∀ c, ox.data ≠ .cls c := fun c e => by
    have q := I.no
    unfold PySem.W.notCls at q
    rw [e] at q
    exact Bool.noConfusion q
  have last : wpAny (model prog w) A (call (.type "super") [.ref C, .ref x]) Q E ⟨hh, g, d, t, os⟩ := PySem.ks_wpAny_call_super hD1 hD2 I.at_ I.cls noc (PySem.W.looks_mroIn X T.sub) fun h' e k => by
    obtain ⟨F', N', l'⟩ := PySem.W.ks_newsPush (s := ⟨hh, g, d, t, os⟩) F N rfl e k
    exact h _ _ F' N' l'
  have self' : wpAny (model prog w) A (loadName (ksEnv "Astray.__init__" aS L fI (.ref cda) cc) "self") (fun self s₃ => wpAny (model prog w) A (isType (.ref C)) (fun b s₄ => b = true ∧ wpAny (model prog w) A (call (.type "super") [.ref C, self]) Q E s₄) E s₃) E ⟨hh, g, d, t, os⟩ :=
    wpAny_loadName_local rfl rfl F.ns hv (PySem.ks_wpAny_isType_cls hD1 hD2 ⟨rfl, last⟩)
  refine PySem.ks_wpAt_super_base (env := ksEnv "Astray.__init__" aS L fI (.ref cda) cc) rfl rfl (by decide) rfl (X _ _ hf) rfl rfl rfl (X _ _ hcode) rfl hvs hfile T.top ?_
  refine PySem.W.ks_loadName_global rfl rfl (loadGlobal_builtin (env := ksEnv "Astray.__init__" aS L fI (.ref cda) cc) (M.glob.keeps F.keep) (PySem.W.mg_none_of M.kin M.glob T.sup) (hb.keeps F.keep) ((hbb _ (by decide +kernel)).trans (by decide +kernel)) ⟨rfl, ?_⟩)
  exact wpAny_loadName_free rfl rfl rfl ⟨_, X _ _ hcell, rfl⟩ self'
/-- the error's text is told: any number that is small -/
theorem at_text {env : Env} {P : AtPos} {s : Shared} {b : Int} {tb : Tok} {m : Str → Option Value} (hn : s.heap.Ns env.locals m) (hk : env.scope.kind = .function) (hp' : env.kindOf "place" = some .local)
    (vb : m "place" = some (.int b tb)) (hb : b.natAbs.log2 < 1920) {Q : Value → Shared → Prop} (hq : ∀ z tk t', Q (.str z t') { s with toks := tk }) :
    wpAny (model prog w) A (eval (.JoinedStr [.Constant (.str "place ") P.u1 P.k1, .FormattedValue (.Name "place" P.n1) (-1) none P.v1] P.f0) env) Q E s := by
  have e0 : Str.empty.length = 0 := rfl
  have e1 : (Str.ofString "place ").length = 6 := by decide +kernel
  have e4 := int_text_len_1921 hb
  refine wpAny_JoinedStr ?_
  refine wpAny_Constant_str ⟨_, _, rfl, by rw [len_app, e0, e1, sizeLine_eq]; decide, ?_⟩
  refine wpAny_FormattedValue_plain (wpAny_Name (wpAny_loadName_local hk hp' hn vb (wpAny_formatField_int hb ⟨_, _, rfl, by rw [len_app, len_app, e0, e1, sizeLine_eq]; omega, ?_⟩)) (by decide))
  exact ⟨by rw [len_app, len_app, e0, e1, sizeLine_eq]; omega, hq _ _ _⟩
/-- Wrong.__init__ at a fresh exception x of the class at C -/
theorem at_init (T : AtTxt prog K C fI cc cda) (M : Mod K mg hp) {s : Shared} (hk : ∀ b o, hp.get? b = some o → s.heap.get? b = some o) (hsz : hp.objs.size ≤ s.heap.objs.size) {t0 : Addr} (hx : s.heap.get? x = some (excObj C t0 none .none)) (hx0 : hp.get? x = none)
    {b : Int} {tb : Tok} (hb : b.natAbs.log2 < 1920) (hroom : A.depth < recursionLimit)
    (hq : ∀ h' tk t1 dx k2 q2 n, (∀ b o, hp.get? b = some o → h'.get? b = some o) → h'.get? x = some (excObj C t1 (some dx) .none) → x < dx →
      h'.get? dx = some (dictOf [⟨k2, .str "place" q2, .int b tb⟩] n) → R (.ok (.ret .none)) { s with heap := h', toks := tk }) :
    codeAny (model prog w) A (.call (.ref fI) ⟨[.ref x, .int b tb], []⟩) R s := by
  obtain ⟨oc, od, doc, pm, an, ct, osl, P, ho, hcd, hs⟩ := T.fn
  have X := M.kin.keeps hk
  refine PySem.ks_codeAny_call_defAt (fd := ksFn "__init__" "Astray.__init__" (aA P.a1 P.a3) (aB P) aS .none .none doc pm an (.ref cda) ct cc) (body := aB P) (binds := [("self", .ref x), ("place", .int b tb)]) hroom (X _ _ ho) rfl (M.nolimit.keeps hk) (PySem.W.codeRec_of X hcd) rfl (.of_eq rfl) (show ∀ y ∈ aS.names, y.2 ≠ .cell by decide) (fun y hy => by simp only [List.mem_cons, List.mem_nil_iff, or_false] at hy; rcases hy with rfl | rfl <;> rfl) (fun h₁ hn k₁ => ?_) rfl rfl rfl
  have F : Fr hp s.heap.objs.size h₁ (fun y => ([("self", Value.ref x), ("place", .int b tb)] : List (Str × Value)).reverse.lookup y) := ⟨hn, fun b o e => k₁ b o (hk b o e), hsz⟩
  have N : News hp s.heap.objs.size h₁ [(x, excObj C t0 none .none)] := fun p hp' => by
    obtain rfl := List.mem_singleton.mp hp'
    exact ⟨k₁ _ _ hx, Nat.ne_of_lt (Heap.lt_size hx), hx0⟩
  show PySem.wpAt (model prog w) (A.deeper (ksEnv "Astray.__init__" aS s.heap.objs.size fI (.ref cda) cc)) (.func (aB P) (ksEnv "Astray.__init__" aS s.heap.objs.size fI (.ref cda) cc)) (execs (aB P) (ksEnv "Astray.__init__" aS s.heap.objs.size fI (.ref cda) cc)) _ _ _
  have m1 : (x, excObj C t0 none .none) ∈ [(x, excObj C t0 none .none)] := List.mem_singleton.mpr rfl
  refine PySem.ks_wpAt_execs_cons (PySem.ks_wpAt_Expr_any (PySem.ks_wpAt_MethodCall (pl := do return (← importBound (.Call (.Name "super" P.s0) [] [] P.s1) (ksEnv "Astray.__init__" aS s.heap.objs.size fI (.ref cda) cc)).getD true) (at_super T M F N (PySem.W.InstAt.of_exc0 N m1) rfl fun so h2 F2 N2 l2 => ?_) ?_))
  rotate_left
  · rw [arm_eval_Call]
    unfold methodCall methodCallPos
    simp only [hs, Bool.or_true, if_true, pure_bind]
    rfl
  have m2 : (x, excObj C t0 none .none) ∈ [(so, ks_superObj C x C), (x, excObj C t0 none .none)] := by simp
  refine PySem.W.kxs_method PySem.W.kxs_Exception F2 M.kin N2 (List.mem_cons_self ..) (PySem.W.InstAt.of_exc0 N2 m2) T.thp T.supI T.subV (by decide) fun q h3 F3 N3 l3 => ?_
  refine PySem.W.kxs_callWith1 N3 (List.mem_cons_self ..) ?_
  refine spliced_more (at_text F3.ns rfl rfl rfl hb fun z tk t' => spliced_none ⟨PySem.W.kxs_at N3 (List.mem_cons_self ..), ?_⟩)
  have nq : q ≠ x := fun e => Nat.lt_irrefl _ (by have := l3 _ m2; rw [e] at this; exact this)
  have ns : so ≠ x := fun e => Nat.lt_irrefl _ (by have := l2 _ m1; rw [e] at this; exact this)
  refine PySem.W.kxs_call F3 M.kin N3 PySem.F.excBase_Exception T.exi (List.mem_cons_self ..) (.tail nq (.tail ns (.head (fun _ h => nomatch h)))) (LH.one_le _) fun t1 h4 F4 N4 l4 => ?_
  have N5 : News hp s.heap.objs.size h4 [(x, excObj C t1 none .none)] := fun p hp2 => N4 p (by rw [List.mem_singleton.mp hp2]; simp)
  refine wpAt_of_wpAny (wpAny_execs_cons (plainObj_wpAny_Assign_Attribute ?_))
  refine wpAny_Name (wpAny_loadName_local rfl rfl F4.ns rfl (wpAny_Name (wpAny_loadName_local rfl rfl F4.ns rfl ?_) (by decide))) (by decide)
  refine PySem.W.set_exc0 (es' := [⟨PyData.keyHash w.params "place", .str "place" _, .int b tb⟩]) (n' := 1) PySem.F.store_Exception F4 M.kin N5 (List.mem_singleton.mpr rfl) T.sa T.exo T.tkp T.hdC rfl (.head (fun _ h => nomatch h)) (show 1 ≤ 1000 by decide) fun dx h6 F6 N6 l6 => ?_
  have xdx : x < dx := l6 _ (List.mem_singleton.mpr rfl)
  refine wpAny_execs_nil ?_
  have q1 := N6 _ (.tail _ (List.mem_singleton.mpr rfl))
  have q2 := N6 _ (List.mem_cons_self ..)
  exact hq h6 _ t1 dx _ _ 1 F6.keep q1.1 xdx q2.1
/-- a made error of the class at C -/
theorem at_made (T : AtTxt prog K C fI cc cda) {s : Shared} (M : Mod K mg s.heap) {b : Int} {tb : Tok} (hb : b.natAbs.log2 < 1920) (hroom : A.depth + 1 < recursionLimit)
    (hq : ∀ h' tk e t1 dx k2 q2 n, (∀ b o, s.heap.get? b = some o → h'.get? b = some o) → s.heap.objs.size ≤ e → h'.get? e = some (excObj C t1 (some dx) .none) → dx ≠ e → s.heap.objs.size ≤ dx →
      h'.get? dx = some (dictOf [⟨k2, .str "place" q2, .int b tb⟩] n) → R (.ok (.ret (.ref e))) { s with heap := h', toks := tk }) :
    codeAny (model prog w) A (.call (.ref C) ⟨[.int b tb], []⟩) R s := by
  obtain ⟨nm, N', qn, bs, bm, hdct, sn, sub, ab, col, dd, k0, k1, k2, k3, k5, hC, hT⟩ := PySem.W.excInit_of M.kin T.exi
  obtain ⟨hp, g, dr, tk, os⟩ := s
  have M : Mod K mg hp := M
  have hC : hp.get? C = _ := hC
  have k : ∀ c o, hp.get? c = some o → ((hp.push (PySem.W.kdv_tup [.int b tb])).push (HandSPX.excO C hp.objs.size)).get? c = some o := fun c o e => Heap.get?_push_of_some _ (Heap.get?_push_of_some _ e)
  have hget : ((hp.push (PySem.W.kdv_tup [.int b tb])).push (HandSPX.excO C hp.objs.size)).get? (hp.objs.size + 1) = some (HandSPX.excO C hp.objs.size) := by heap_get
  have hno : ∀ q, hp.objs.size ≤ q → hp.get? q = none := fun q hq' => by
    cases e : hp.get? q with
    | none => rfl
    | some o => exact absurd (Heap.lt_size e) (Nat.not_lt_of_le hq')
  refine HandSPX.call_own PySem.F.excBase_Exception hT hC (PySem.W.looks_findIn M.kin T.ini) (fun self => PySem.W.bind_fn M.kin self T.tyf) (LH.one_le _) ?_
  refine at_init (hp := hp) (s := ⟨(hp.push (PySem.W.kdv_tup [.int b tb])).push (HandSPX.excO C hp.objs.size), g, dr, tk, os⟩) T M k ?_ hget (hno _ (Nat.le_succ _)) hb ?_ fun h' tk' t1 dx k2 q2 n kp hx hlt hd => ?_
  · rw [Heap.size_push, Heap.size_push]; omega
  · show A.depth + 1 < recursionLimit
    exact hroom
  · exact ⟨rfl, hq h' tk' (hp.objs.size + 1) t1 dx k2 q2 n kp (Nat.le_succ _) hx (Nat.ne_of_gt hlt) (Nat.le_of_lt (Nat.lt_of_succ_lt hlt)) hd⟩
end
end LH

set_option maxHeartbeats 2000000
namespace LH
open PySem PySem.Spec PySem.Calls PyProof.Rows L2
open PySem.W (Frag clsIn findIn subIn typeIn nsIn keepIn codeIn hasDictIn mroIn excObj InstAt dictOf)
/-! ### raise C(place), an exception of its own: its own dict holds the place alone -/
def atFields (b : Int) : List (Str × V) := [("place", .int b)]
theorem at_ns {h : Heap} {dx : Addr} {k0 : Int} {q0 tk1 : Tok} {b : Int} {n : Nat} (e : h.get? dx = some (dictOf [⟨k0, .str "place" q0, .int b tk1⟩] n)) :
    ∃ mA, h.Ns1 dx mA ∧ ∀ f, RelO (List.lookup f (atFields b)) (mA f) := by
  refine ⟨fun f => if f = "place" then some (.int b tk1) else none, ⟨_, _, _, e, rfl, fun x hx => ?_, ?_, fun f => ?_⟩, fun f => ?_⟩
  · simp only [List.mem_toArray, List.mem_cons, List.mem_nil_iff, or_false] at hx
    rw [hx]
    exact ⟨_, _, rfl⟩
  · show List.Pairwise _ _
    simp only [List.pairwise_cons, List.mem_nil_iff, or_false]
    exact ⟨fun _ h => h.elim, List.Pairwise.nil⟩
  · unfold nsFind findBy
    rw [List.find?_toArray]
    by_cases h0 : f = "place"
    · subst h0
      simp [List.find?, Value.isStr]
    · have z0 : ((Str.ofString "place" : Str) == f) = false := by simpa using fun h => h0 h.symm
      simp [List.find?, Value.isStr, z0, h0]
  · unfold atFields
    dsimp only
    by_cases h0 : f = "place"
    · subst h0
      show RelO (some (V.int b)) _
      rw [if_pos rfl]
      exact ⟨_, rfl⟩
    · have z0 : (f == (Str.ofString "place" : Str)) = false := by simpa using h0
      rw [if_neg h0]
      simp only [List.lookup, z0]
      trivial
/-- the class as its raisers see it -/
structure AtC (prog : Program) (K : Frag) (mg : Str → Option Value) (nm : Str) (C fI cc cda : Addr) : Prop where
  txt : AtTxt prog K C fI cc cda
  mg : mg nm = some (.ref C)
  kp : keepIn K (.ref C) = true
  ex : subIn K (.ref C) (.type "BaseException") = some true
  ty : typeIn K (.ref C) = some (.type "type")
section
variable {X : Cx} {nm : Str} {C fI cc cda : Addr}
def tMkA (C : Addr) (ta : TA) : L2.St → Hp → XK → Prop := fun σ H Q => ta σ H fun vs H1 => ∃ b : Int, vs = [.int b] ∧ b.natAbs.log2 < 1920 ∧ ∀ d, H1 d = none → Q (.ref C) (some d) (upd H1 d (.xd (atFields b)))
theorem pmk_at {e1 : Expr} {ta : TA} {p pos : Pos} {k : Nat} (T : AtC X.prog X.K X.mg nm C fI cc cda) (hr : Room k X.A) (ha : PA X [e1] ta) (hg : Gl X nm := by rfl) (hdb : (nm == ("__debug__" : Str)) = false := by decide)
    (he : starEach (e1 :: []) X.env = (false, eval e1 X.env) :: starEach [] X.env := by rfl) (hpl : (backTo pos (starEach [] X.env)).any (·.1) = false := by rfl) :
    PMk X (.Call (.Name nm p) [e1] [] pos) (tMkA C ta) := by
  intro pins s σ H Q I h
  refine wpAny_Call_Name_kw (ld_glob I hg T.mg ?_ hdb)
  refine PySem.W.callWith_K (h₀ := X.base) I.ok.mod.kin T.kp (thn (ha.run pos pins s σ H _ I h) fun us s1 hh => ?_) he hpl
  obtain ⟨vs, H1, I1, r1, b, ev, hlb, q1⟩ := hh
  subst ev
  refine ⟨I1.kIn, ?_⟩
  obtain ⟨u1, rfl, rv1⟩ := vals1 r1
  obtain ⟨tb', rfl⟩ := rv1
  show wpAny _ _ (call (.ref C) [.int b tb']) _ _ _
  obtain ⟨mb, hmb, hbb⟩ := I.ok.mod.blt
  have M1 : Mod X.K X.mg s1.heap := ⟨I1.kIn, I1.ok.mod.glob.keeps I1.bk, ⟨mb, hmb.keeps I1.bk, hbb⟩, I1.nolimit⟩
  obtain ⟨hp, g, dr, tk, os⟩ := s1
  refine wpAny_call (at_made T.txt M1 hlb (by have := hr.dp; omega) fun h' tk' e t1 d k1 z1 n keep new hoe dne dbig hd => ?_)
  show MkP X pins σ Q (.ref e) ⟨h', g, dr, tk', os⟩
  have old : ∀ c o, hp.get? c = some o → h'.get? c = some o := keep
  have hoe : h'.get? e = some (excObj C t1 (some d) .none) := hoe
  obtain ⟨G', g1, g2⟩ := restrict h' fun c => decide (c ≠ e)
  have gk : ∀ c, c ≠ e → G'.get? c = h'.get? c := fun c hc => g1 c (decide_eq_true hc)
  have ge : G'.get? e = none := g2 e (by simp)
  have oldG : ∀ c o, hp.get? c = some o → G'.get? c = some o := fun c o q => (gk c (Nat.ne_of_lt (Nat.lt_of_lt_of_le (Heap.lt_size q) new))).trans (old c o q)
  obtain ⟨mA, hns, hrel⟩ := at_ns hd
  have ob : ObjOk X.prog X.w (upd H1 d (.xd (atFields b))) G' d (.xd (atFields b)) := ⟨mA, hns.at (fun o q => (gk d dne).trans q), hrel⟩
  have J : Inv X pins σ (upd H1 d (.xd (atFields b))) ⟨G', g, dr, tk', os⟩ := I1.laid (t' := tk') oldG dbig ob
  refine ⟨e, _, _, ⟨G', g, dr, tk', os⟩, _, .ref C, some d, rfl, J, fun c o q => ?_, ge, hoe, ⟨rfl, rfl⟩, rfl, rfl, ?_, rfl, I1.bare, raises_own T.ex T.ty, q1 d (I1.hok.fresh dbig)⟩
  · by_cases hc : c = e
    · have q' : G'.get? c = some o := q
      rw [hc, ge] at q'
      exact nomatch q'
    · exact (gk c hc).symm.trans q
  · rw [upd_ne (Ne.symm dne)]
    exact I1.hok.fresh new
def tRaiseA (C : Addr) (W : WX) (ta : TA) : TS := fun _ σ H => tMkA C ta σ H fun cls d H' => W cls d σ H'
theorem ps_raiseA {e1 : Expr} {ta : TA} {W : WX} {p pos pos2 : Pos} {k : Nat} (hc : X.calm = true) (T : AtC X.prog X.K X.mg nm C fI cc cda) (hr : Room k X.A) (tk : Takes X W) (ha : PA X [e1] ta) (hg : Gl X nm := by rfl) (hdb : (nm == ("__debug__" : Str)) = false := by decide)
    (he : starEach (e1 :: []) X.env = (false, eval e1 X.env) :: starEach [] X.env := by rfl) (hpl : (backTo pos (starEach [] X.env)).any (·.1) = false := by rfl) :
    PS X (.Raise (some (.Call (.Name nm p) [e1] [] pos)) none pos2) (tRaiseA C W ta) := ps_raise hc tk (pmk_at T hr ha hg hdb he hpl)
end
end LH

set_option maxHeartbeats 2000000
namespace LH
open PySem PySem.Spec PySem.Calls PyProof.Rows L2
open PySem.W (Frag clsIn findIn subIn typeIn nsIn keepIn codeIn hasDictIn mroIn excObj InstAt dictOf)
/-! ### raise C(row, place) from None, in an except suite -/
section
variable {X : Cx} {nm kd : Str} {C D fI cc cda B fH ccH cdaH : Addr}
theorem pmk5_wr {e1 e2 : Expr} {ta : TA} {p pos : Pos} {k : Nat} (T : WrC X.prog X.K X.mg nm C D fI cc cda B fH ccH cdaH kd) (hr : L2H.RoomH k X.A) (ha : PA X [e1, e2] ta) (hg : Gl X nm := by rfl) (hdb : (nm == ("__debug__" : Str)) = false := by decide)
    (he : starEach (e1 :: [e2]) X.env = (false, eval e1 X.env) :: starEach [e2] X.env := by rfl) (hpl : (backTo pos (starEach [e2] X.env)).any (·.1) = false := by rfl) :
    L2H.PMk5 X (.Call (.Name nm p) [e1, e2] [] pos) (tMkW C kd ta) := by
  intro pins s σ H Q I h
  refine wpAny_Call_Name_kw (ld_glob I hg T.mg ?_ hdb)
  refine PySem.W.callWith_K (h₀ := X.base) I.ok.mod.kin T.kp (thn (ha.run pos pins s σ H _ I h) fun us s1 hh => ?_) he hpl
  obtain ⟨vs, H1, I1, r1, a, b, ev, hla, hlb, q1⟩ := hh
  subst ev
  refine ⟨I1.kIn, ?_⟩
  obtain ⟨u1, u2, rfl, rv1, rv2⟩ := vals2 r1
  obtain ⟨ta', rfl⟩ := rv1
  obtain ⟨tb', rfl⟩ := rv2
  show wpAny _ _ (call (.ref C) [.int a ta', .int b tb']) _ _ _
  obtain ⟨mb, hmb, hbb⟩ := I.ok.mod.blt
  have M1 : Mod X.K X.mg s1.heap := ⟨I1.kIn, I1.ok.mod.glob.keeps I1.bk, ⟨mb, hmb.keeps I1.bk, hbb⟩, I1.nolimit⟩
  obtain ⟨hp, g, dr, tk, os⟩ := s1
  refine wpAny_call (wr_made T.txt M1 hla hlb (by have := hr.dp; omega) fun h' tk' e t1 d k0 k1 k2 z0 z1 z2 tkk n keep new hoe dne dbig hd => ?_)
  have old : ∀ c o, hp.get? c = some o → h'.get? c = some o := keep
  have hoe : h'.get? e = some (excObj C t1 (some d) .none) := hoe
  obtain ⟨G', g1, g2⟩ := restrict h' fun c => decide (c ≠ e)
  have gk : ∀ c, c ≠ e → G'.get? c = h'.get? c := fun c hc => g1 c (decide_eq_true hc)
  have ge : G'.get? e = none := g2 e (by simp)
  have oldG : ∀ c o, hp.get? c = some o → G'.get? c = some o := fun c o q => (gk c (Nat.ne_of_lt (Nat.lt_of_lt_of_le (Heap.lt_size q) new))).trans (old c o q)
  obtain ⟨mA, hns, hrel⟩ := wr_ns hd
  have ob : ObjOk X.prog X.w (upd H1 d (.xd (wrFields kd a b))) G' d (.xd (wrFields kd a b)) := ⟨mA, hns.at (fun o q => (gk d dne).trans q), hrel⟩
  have J : Inv X pins σ (upd H1 d (.xd (wrFields kd a b))) ⟨G', g, dr, tk', os⟩ := I1.laid (t' := tk') oldG dbig ob
  refine ⟨⟨e, _, _, ⟨G', g, dr, tk', os⟩, _, .ref C, some d, rfl, J, fun c o q => ?_, ge, hoe, ⟨rfl, rfl, fun vs' e' => by cases e'; rfl⟩, rfl, rfl, ?_, rfl, I1.bare, raises_own T.ex T.ty, q1 d (I1.hok.fresh dbig)⟩, fun a' oe' vs' ea hg' hd' => ?_⟩
  · by_cases hc : c = e
    · have q' : G'.get? c = some o := q
      rw [hc, ge] at q'
      exact nomatch q'
    · exact (gk c hc).symm.trans q
  · rw [upd_ne (Ne.symm dne)]
    exact I1.hok.fresh new
  · cases ea
    have hg' : h'.get? e = some oe' := hg'
    rw [hoe] at hg'
    cases hg'
    cases hd'
    show (4 : Nat) < 6
    decide
theorem ps_raiseWN {e1 e2 : Expr} {ta : TA} {W : WX} {p pos pos2 cpos : Pos} {k j : Nat} (hc : L2H.HotC X) (T : WrC X.prog X.K X.mg nm C D fI cc cda B fH ccH cdaH kd) (hr : L2H.RoomH k X.A) (tk : Takes X W) (ha : PA X [e1, e2] ta) (hg : Gl X nm := by rfl) (hdb : (nm == ("__debug__" : Str)) = false := by decide)
    (he : starEach (e1 :: [e2]) X.env = (false, eval e1 X.env) :: starEach [e2] X.env := by rfl) (hpl : (backTo pos (starEach [e2] X.env)).any (·.1) = false := by rfl) :
    PS X (.Raise (some (.Call (.Name nm p) [e1, e2] [] pos)) (some (.Constant .none j cpos)) pos2) (tRaiseW C kd W ta) := L2H.ps_raiseHN hc tk (pmk5_wr T hr ha hg hdb he hpl)
end
end LH

set_option maxHeartbeats 2000000
namespace LH
open PySem PySem.Spec PySem.Calls PyProof.Rows L2
open PySem.W (Frag clsIn findIn subIn typeIn nsIn keepIn codeIn hasDictIn mroIn excObj InstAt dictOf)
/-! ### raise C(place) where the catcher wants to know that its context is None -/
section
variable {X : Cx} {nm : Str} {C fI cc cda : Addr}
theorem pmk_atN {e1 : Expr} {ta : TA} {p pos : Pos} {k : Nat} (T : AtC X.prog X.K X.mg nm C fI cc cda) (hr : Room k X.A) (ha : PA X [e1] ta) (hg : Gl X nm := by rfl) (hdb : (nm == ("__debug__" : Str)) = false := by decide)
    (he : starEach (e1 :: []) X.env = (false, eval e1 X.env) :: starEach [] X.env := by rfl) (hpl : (backTo pos (starEach [] X.env)).any (·.1) = false := by rfl) :
    L2N.PMk X (.Call (.Name nm p) [e1] [] pos) (tMkA C ta) := by
  intro pins s σ H Q I h
  refine wpAny_Call_Name_kw (ld_glob I hg T.mg ?_ hdb)
  refine PySem.W.callWith_K (h₀ := X.base) I.ok.mod.kin T.kp (thn (ha.run pos pins s σ H _ I h) fun us s1 hh => ?_) he hpl
  obtain ⟨vs, H1, I1, r1, b, ev, hlb, q1⟩ := hh
  subst ev
  refine ⟨I1.kIn, ?_⟩
  obtain ⟨u1, rfl, rv1⟩ := vals1 r1
  obtain ⟨tb', rfl⟩ := rv1
  show wpAny _ _ (call (.ref C) [.int b tb']) _ _ _
  obtain ⟨mb, hmb, hbb⟩ := I.ok.mod.blt
  have M1 : Mod X.K X.mg s1.heap := ⟨I1.kIn, I1.ok.mod.glob.keeps I1.bk, ⟨mb, hmb.keeps I1.bk, hbb⟩, I1.nolimit⟩
  obtain ⟨hp, g, dr, tk, os⟩ := s1
  refine wpAny_call (at_made T.txt M1 hlb (by have := hr.dp; omega) fun h' tk' e t1 d k1 z1 n keep new hoe dne dbig hd => ?_)
  show L2N.MkP X pins σ Q (.ref e) ⟨h', g, dr, tk', os⟩
  have old : ∀ c o, hp.get? c = some o → h'.get? c = some o := keep
  have hoe : h'.get? e = some (excObj C t1 (some d) .none) := hoe
  obtain ⟨G', g1, g2⟩ := restrict h' fun c => decide (c ≠ e)
  have gk : ∀ c, c ≠ e → G'.get? c = h'.get? c := fun c hc => g1 c (decide_eq_true hc)
  have ge : G'.get? e = none := g2 e (by simp)
  have oldG : ∀ c o, hp.get? c = some o → G'.get? c = some o := fun c o q => (gk c (Nat.ne_of_lt (Nat.lt_of_lt_of_le (Heap.lt_size q) new))).trans (old c o q)
  obtain ⟨mA, hns, hrel⟩ := at_ns hd
  have ob : ObjOk X.prog X.w (upd H1 d (.xd (atFields b))) G' d (.xd (atFields b)) := ⟨mA, hns.at (fun o q => (gk d dne).trans q), hrel⟩
  have J : Inv X pins σ (upd H1 d (.xd (atFields b))) ⟨G', g, dr, tk', os⟩ := I1.laid (t' := tk') oldG dbig ob
  refine ⟨e, _, _, ⟨G', g, dr, tk', os⟩, _, .ref C, some d, rfl, J, fun c o q => ?_, ge, hoe, ⟨rfl, rfl, fun vs' e' => by cases e'; rfl⟩, rfl, rfl, ?_, rfl, I1.bare, raises_own T.ex T.ty, q1 d (I1.hok.fresh dbig)⟩
  · by_cases hc : c = e
    · have q' : G'.get? c = some o := q
      rw [hc, ge] at q'
      exact nomatch q'
    · exact (gk c hc).symm.trans q
  · rw [upd_ne (Ne.symm dne)]
    exact I1.hok.fresh new
theorem ps_raiseAN {e1 : Expr} {ta : TA} {W : WX} {p pos pos2 : Pos} {k : Nat} (hc : X.calm = true) (T : AtC X.prog X.K X.mg nm C fI cc cda) (hr : Room k X.A) (tk : L2N.Takes X W) (ha : PA X [e1] ta) (hg : Gl X nm := by rfl) (hdb : (nm == ("__debug__" : Str)) = false := by decide)
    (he : starEach (e1 :: []) X.env = (false, eval e1 X.env) :: starEach [] X.env := by rfl) (hpl : (backTo pos (starEach [] X.env)).any (·.1) = false := by rfl) :
    PS X (.Raise (some (.Call (.Name nm p) [e1] [] pos)) none pos2) (tRaiseA C W ta) := L2N.ps_raise hc tk (pmk_atN T hr ha hg hdb he hpl)
end
section
variable {P : Program} {w : World} {K : PySem.W.Frag} {mg : Str → Option Value} {base : Heap}
theorem okXN {x qual : Str} {st : Stmt} {f : Addr} {fd : FuncData} {N ps : List Str} {k : Nat} {sp : Sp} (F : Fun K x qual st f fd) (S : FnScope N ps (defScope st)) (len : ∀ vs H Q E, sp vs H Q E → vs.length = ps.length)
    (hbody : ∀ (cdv : Value) (A : Around) (outer : List Env) (s : Shared) (H : Hp) (vs : List V) (Q : VK) (E : XK), Room k (A.deeper (envOfC qual (defScope st) s.heap.objs.size f cdv)) → sp vs H Q E →
      ∃ t, PSs (cxOf (L2N.CX P w) P w K mg base N qual (defScope st) f cdv A outer s H E) (defBody st) t ∧ t { nx := fun _ H' => Q .non H', rt := Q } (start N vs) H) : FnOk P w K mg base (L2N.CX P w) (k + 1) f fd ps sp := by
  obtain ⟨oc, od, kV, doc, pm, an, cdv, ct, osl, rfl, lk, hcd⟩ := F.ex
  exact fn_of lk hcd S len fun A outer s H vs Q E hr hsp => hbody cdv A outer s H vs Q E hr hsp
end
end LH

set_option maxHeartbeats 2000000
namespace LH
open PySem PySem.Spec PyProof.Rows L2 L2H HotX
/-! ### except X as n: with a suite that raises out of the try -/
section
variable {X : Cx} {pins : List (Addr × Obj)} {σ : L2.St} {H : Hp} {s : Shared}
theorem inv_gone {i : Nat} {n : Str} {h' : Heap} {v : Option Value} {t' : Nat} {m : Str → Option Value} (I : Inv X pins σ H s) (hN : X.N.Nodup) (hi : X.N[i]? = some n) (hn : s.heap.Ns X.env.locals m)
    (hn' : h'.Ns X.env.locals (fun x => if x = n then v else m x)) (hs : ∀ b, b ≠ X.env.locals → h'.get? b = s.heap.get? b) : Inv X pins (σ.set i none) H { s with heap := h', toks := t' } := by
  obtain ⟨m0, hn0, hlk⟩ := id I.loc
  have neL : ∀ b o, X.s_0.heap.get? b = some o → b ≠ X.env.locals := fun b o e => Nat.ne_of_lt (Nat.lt_of_lt_of_le (Heap.lt_size e) I.ok.above)
  have cell : ∀ {c : Addr} {u : Option Value}, c ≠ X.env.locals → s.heap.IsCell c u → h'.IsCell c u := fun hc ⟨o, ho, r⟩ => ⟨o, (hs _ hc).trans ho, r⟩
  refine ⟨I.ok, I.os, I.bare, ⟨fun b o e n hb hx => ?_, fun b o e n hb hx => ?_, I.base.free, fun b o e hx => ?_, I.base.tups, I.base.frzs, I.base.tbls⟩, ⟨_, hn', fun j y v' e1 e2 e3 => ?_⟩, fun y c e => ?_, I.free, I.freeC, fun p hp => ?_, fun b ob e => ?_, by simpa using I.len⟩
  · exact (hs b (neL b o e)).trans (I.base.keep b o e n hb hx)
  · obtain ⟨sl, e1⟩ := I.base.slot b o e n hb hx
    exact ⟨sl, (hs b (neL b o e)).trans e1⟩
  · obtain ⟨o', e1⟩ := I.base.there b o e hx
    exact ⟨o', (hs b (neL b o e)).trans e1⟩
  · by_cases hj : j = i
    · subst hj
      by_cases hlt : j < σ.length
      · rw [List.getElem?_set_self hlt] at e2; cases e2
      · rw [List.getElem?_eq_none (by simpa using hlt)] at e2; cases e2
    · rw [List.getElem?_set_ne (Ne.symm hj)] at e2
      obtain ⟨u', r', q⟩ := hlk j y v' e1 e2 e3
      refine ⟨u', r', ?_⟩
      rcases q with ⟨k, e⟩ | ⟨k, c, e, z⟩
      · have ny : y ≠ n := fun e => hj (nodup_ix hN e1 (e ▸ hi))
        exact .inl ⟨k, (if_neg ny).trans ((hn.agree hn0 y).trans e)⟩
      · exact .inr ⟨k, c, e, cell (I.cne y c e) z⟩
  · obtain ⟨w', z⟩ := I.cell y c e
    exact ⟨w', cell (I.cne y c e) z⟩
  · obtain ⟨e, n, ne, nf, d⟩ := I.pin p hp
    exact ⟨(hs p.1 ne).trans e, n, ne, nf, d⟩
  · refine (I.hok b ob e).stay (fun c w' hc q => (hs c ?_).trans q) (fun _ q => q) fun _ _ q => q
    intro z
    subst z
    rcases hc with hc | hc
    · rw [← hc, I.free] at e; cases e
    · rw [I.free] at hc; cases hc
end
/-- the context of an except suite with its own wish for what it raises -/
abbrev suiteY (X : Cx) (a : Addr) (pn : List (Addr × Obj)) (xe : Value → Shared → Prop) : Cx := { X with A := X.A.mark (some (.ref a)), calm := false, pn := pn, xe := xe }
def wGone (i : Nat) (Wout : WX) : WX := fun cls d σ H => Wout cls d (σ.set i none) H
section
variable {X : Cx} {x n : Str} {c : Value} {i : Nat} {body suite : List Stmt} {b₀ : Stmt} {np pos pos' : Pos} {tb : WX → TS} {ts : Addr → Value → Option Addr → TS} {Wout : WX}
theorem ps_try_asX (hs : X.stack = X.env :: X.outer) (hf : X.env.frame = some X.env.locals) (hN : X.N.Nodup) (hi : X.N[i]? = some n) (hln : X.env.kindOf n = some .local) (hc : Names X x c)
    (hpa : ∀ hd : Option Value, PassesOwnAt (model X.prog X.w) (X.A.mark hd) X.A X.env X.xe) (tk : L2.Takes X Wout)
    (hb : ∀ (W : WX) (pn : List (Addr × Obj)) (xe : Value → Shared → Prop), L2N.Takes (X.tr pn xe) W → L2.Takes (X.tr pn xe) (wPass X.K c Wout) → PassesOwn (model X.prog X.w) X.A X.env xe → PSs (X.tr pn xe) body (tb W))
    (hsu : ∀ (a : Addr) (oe : Obj) (cls : Value) (d : Option Addr) (pn : List (Addr × Obj)) (xe : Value → Shared → Prop), L2N.Zn cls d oe → (∃ vs, oe.data = .fields vs) → L2.Takes (suiteY X a ((a, oe) :: pn) xe) (wGone i Wout) → HotC (suiteY X a ((a, oe) :: pn) xe) →
      PSs (suiteY X a ((a, oe) :: pn) xe) (b₀ :: suite) (ts a cls d)) :
    PS X (.Try body [.ExceptHandler (some (.Name x np)) (some n) (b₀ :: suite) pos'] [] [] pos) (fun D σ H => tb (L2.wAs X.K c i ts Wout D) D σ H) := by
  refine ⟨fun pins s σ H D I h => ?_⟩
  have ok := I.ok
  have hfr : X.A.frames = some (X.env :: X.outer) := by rw [ok.frames, hs]
  have hloc : Loc X.env.scope n := .inl hln
  have notFr : ∀ {B h : Heap} {a : Addr} {o : Obj} {vs : Array Value}, h.FunFrames B (X.env :: X.outer) → h.get? a = some o → o.data = .fields vs → a ∉ frs (X.env :: X.outer) := fun {B h a o vs} ff e dd hm => by
    obtain ⟨_, o', e', hnf⟩ := ff.mem hm
    rw [e] at e'; cases e'
    exact hnf _ dd
  have hLf : X.env.locals ∈ frs (X.env :: X.outer) := List.mem_filterMap.mpr ⟨X.env, List.mem_cons_self, hf⟩
  have flyOn : ∀ {a : Addr} {B : Heap} {sI s' : Shared} {σ' : L2.St} {H' : Hp} {cls : Value} {d : Option Addr} {h3 : Heap}, Inv X pins σ' H' sI → (∀ b o, sI.heap.get? b = some o → b ∉ frs X.stack → B.get? b = some o) → sI.heap.UpToSlots h3 →
      HandSPX.FlyingZ B (X.env :: X.outer) a (Zc cls d) h3 → H' a = none → s'.os = sI.os → AllBare s'.gens → Wout cls d σ' H' → wpAny (model X.prog X.w) X.A (handleBy (.ref a) X.env []) (SP X pins D) X.xe { s' with heap := h3 } := by
    intro a B sI s' σ' H' cls d h3 J nb up fl3 na os ag w
    refine wpAny_handleBy_nil ?_
    obtain ⟨k1, k2, k3, oe, vs, T, oT, ts', he, hz, hd, h1, hr⟩ := id fl3
    unfold PySem.passOn
    refine wpAny_bind (wpAny_field he hd h1 ?_)
    rw [if_neg (show ¬ ((Value.ref T == Value.none) = true) from by simp)]
    have fin : wpAny (model X.prog X.w) X.A (setFlight (.ref a) X.env.frame) (fun _ s4 => wpAny (model X.prog X.w) X.A (throw (.ref a) : Sem Flow) (SP X pins D) X.xe s4) X.xe { s' with heap := h3 } := by
      rw [hf]
      refine HandSPX.setFlight_upZ fl3 fun h4 hh4 up4 => wpAny_throw (tk _ _ ?_)
      exact ⟨a, B, sI, pins, σ', H', cls, d, rfl, J, nb, up.trans up4, .inr (.inr (by rw [hs]; exact hh4)), na, os, ag, w⟩
    first
      | exact wpAny_bind (wpAny_pure (wpAny_bind fin))
      | exact wpAny_bind fin
  refine wpAny_Try_except ?_
  refine wpAny_mono ((hb (L2.wAs X.K c i ts Wout D) (X.pn ++ pins) (fun e s₁ => wpAny (model X.prog X.w) X.A (noteFrame e X.env) (fun _ s₂ => wpAny (model X.prog X.w) X.A (setFlight e none) (fun _ s₃ =>
    wpAny (model X.prog X.w) X.A (handleBy e X.env [.ExceptHandler (some (.Name x np)) (some n) (b₀ :: suite) pos']) (SP X pins D) X.xe s₃) X.xe s₂) X.xe s₁) (fun u s' xx => ?_) (fun u s' xx => ?_) PassesOwn.looking).run [] s σ H D (I.toTry _) h) (fun f s1 hsp => ?_) (fun e s1 he => he)
  · -- an exception whose context is None
    obtain ⟨a, B, sI, pins', σ', H', cls, d, rfl, J', nb, up, sky, na, os, ag, b, hb1, hyes, hno⟩ := xx
    have J : Inv X pins σ' H' sI := J'.ofTry ok
    have sky' : Sky B (X.env :: X.outer) a (L2N.Zn cls d) X.env.locals s'.heap := by rw [← hs]; exact sky
    show wpAny (model X.prog X.w) X.A (noteFrame (.ref a) X.env) _ _ _
    refine L2N.Sky.land L2N.Zn.steady hfr hf sky' fun h3 fl3 up3 => ?_
    have J3 : Inv X pins σ' H' { s' with heap := h3 } := J.landed nb fl3.1 (up.trans up3) os ag
    obtain ⟨oe3, vs3, he3, hz3, hd3⟩ := fl3.there
    have nfr : a ∉ frs (X.env :: X.outer) := notFr fl3.2.2.1 he3 hd3
    have nL : a ≠ X.env.locals := fun z => nfr (z ▸ hLf)
    have nF : a ∉ X.fs := fun hm => by
      obtain ⟨e, he, q⟩ := List.mem_filterMap.mp hm
      exact nfr (List.mem_filterMap.mpr ⟨e, List.mem_cons_of_mem _ he, q⟩)
    have S3 := J3.suite he3 hd3 na nL nF
    refine wpAny_handleBy_cons (codeAny_handlers_test ?_) (by intro q; cases q)
    have LT : PySem.W.Looks (model X.prog X.w) h3 (typeOf (.ref a)) cls := fun A Q E s k q => wpAny_typeOf_ref (k _ _ he3) (by rw [hz3.1]; exact q)
    have LM := PySem.W.exm_one (M := model X.prog X.w) (J3.kIn) LT hb1
    have test : ∀ {Q : Value → Shared → Prop} {E : Value → Shared → Prop}, Q c { s' with heap := h3 } → wpAny (model X.prog X.w) (X.A.mark (some (.ref a))) (eval (.Name x np) X.env) Q E { s' with heap := h3 } := fun {Q E} q => by
      obtain ⟨hg, hdbg, hm | ⟨hm, hv, hnn⟩⟩ := hc
      · exact ld_glob (X := X.suite a ((a, oe3) :: (X.pn ++ pins))) S3 hg hm q hdbg
      · exact ld_blt (X := X.suite a ((a, oe3) :: (X.pn ++ pins))) S3 hg hm hv q hnn hdbg
    refine test (LM.here ?_)
    cases b with
    | true =>
      refine codeAny_handlers_suite_as ?_
      refine HandSPX.lands_againZ fl3 fun h4 fl4 up4 => ?_
      have J4 : Inv X pins σ' H' { s' with heap := h4 } := J.landed nb fl4.1 ((up.trans up3).trans up4) os ag
      obtain ⟨oe4, vs4, he4, hz4, hd4⟩ := fl4.there
      have S4 := J4.suite he4 hd4 na nL nF
      let xe' : Value → Shared → Prop := fun u2 s2 => ∃ (a2 : Addr) (B2 : Heap) (sI2 : Shared) (σ2 : L2.St) (H2 : Hp) (cls2 : Value) (d2 : Option Addr), u2 = .ref a2 ∧ Inv X pins σ2 H2 sI2 ∧ (∀ b o, sI2.heap.get? b = some o → b ∉ frs X.stack → B2.get? b = some o) ∧ sI2.heap.UpToSlots s2.heap ∧
        Sky B2 X.stack a2 (Zc cls2 d2) X.env.locals s2.heap ∧ H2 a2 = none ∧ s2.os = sI2.os ∧ AllBare s2.gens ∧ Wout cls2 d2 (σ2.set i none) H2
      have tkS : L2.Takes (suiteY X a ((a, oe4) :: (X.pn ++ pins)) xe') (wGone i Wout) := fun u2 s2 x2 => by
        obtain ⟨a2, B2, sI2, pn2, σ2, H2, cls2, d2, e2, I2, nb2, up2, sky2, na2, os2, ag2, w2⟩ := x2
        have I2' : Inv (suiteX X a ((a, oe4) :: (X.pn ++ pins))) pn2 σ2 H2 sI2 := Inv.unwish (X := suiteX X a ((a, oe4) :: (X.pn ++ pins))) (E := xe') I2
        exact ⟨a2, B2, sI2, σ2, H2, cls2, d2, e2, unsuiteX I2' ok, nb2, up2, sky2, na2, os2, ag2, w2⟩
      have hot : HotC (suiteY X a ((a, oe4) :: (X.pn ++ pins)) xe') := ⟨(a, oe4), ⟨rfl, vs4, hd4, hz4.2.2 vs4 hd4⟩, List.mem_cons_self⟩
      refine store_ok (X := X.suite a ((a, oe4) :: (X.pn ++ pins))) (v := .ref a) S4 hN hi hloc rfl (fun s5 S5 => ?_) (.inr hln)
      have S5' : Inv (suiteY X a ((a, oe4) :: (X.pn ++ pins)) xe') [] (σ'.set i (some (.ref a))) H' s5 := Inv.wish (X := suiteX X a ((a, oe4) :: (X.pn ++ pins))) (suiteX_of S5) xe'
      refine wpAny_mono ((hsu a oe4 cls d (X.pn ++ pins) xe' hz4 ⟨_, hd4⟩ tkS hot).run [] s5 _ H' _ S5' (hyes rfl a na)) (fun f s6 hsp => ?_) (fun e6 s6 z => ?_)
      · have back : ∀ {σ6 : L2.St} {H6 : Hp}, Inv (suiteY X a ((a, oe4) :: (X.pn ++ pins)) xe') [] σ6 H6 s6 → Inv X pins σ6 H6 s6 := fun S6 => unsuiteX (Inv.unwish (X := suiteX X a ((a, oe4) :: (X.pn ++ pins))) (E := xe') S6) ok
        have end_ : ∀ {σ6 : L2.St} {H6 : Hp} {Q : Shared → Prop}, Inv (suiteY X a ((a, oe4) :: (X.pn ++ pins)) xe') [] σ6 H6 s6 → (∀ s7, Inv X pins (σ6.set i none) H6 s7 → Q s7) →
            wpAny (model X.prog X.w) X.A (do bindName X.env n .none; unbindBehindTheSuite X.env n pos') (fun _ s7 => Q s7) X.xe s6 := fun {σ6 H6 Q} S6 hq => gone_ok (back S6) hN hi hln hq
        cases f with
        | next =>
          obtain ⟨σ6, H6, S6, q6⟩ := hsp
          exact end_ S6 fun s7 J7 => ⟨_, _, J7, q6⟩
        | brk =>
          obtain ⟨σ6, H6, S6, q6⟩ := hsp
          exact end_ S6 fun s7 J7 => ⟨_, _, J7, q6⟩
        | cont =>
          obtain ⟨σ6, H6, S6, q6⟩ := hsp
          exact end_ S6 fun s7 J7 => ⟨_, _, J7, q6⟩
        | ret u =>
          obtain ⟨v6, σ6, H6, S6, r6, q6⟩ := hsp
          exact end_ S6 fun s7 J7 => ⟨_, _, _, J7, r6, q6⟩
      · -- what the suite raised: noted, the name goes, passed on
        obtain ⟨a2, B2, sI2, σ2, H2, cls2, d2, rfl, I2, nb2, up2, sky2, na2, os2, ag2, w2⟩ := z
        have sky2' : Sky B2 (X.env :: X.outer) a2 (Zc cls2 d2) X.env.locals s6.heap := by rw [← hs]; exact sky2
        have hfrM : (X.A.mark (some (.ref a))).frames = some (X.env :: X.outer) := hfr
        have G : ∀ {E₁ : Value → Shared → Prop} (h1 : Heap), HandSPX.HeldZ B2 (X.env :: X.outer) a2 (Zc cls2 d2) X.env.locals h1 → s6.heap.UpToSlots h1 →
            wpAny (model X.prog X.w) (X.A.mark (some (.ref a))) (do bindName X.env n .none; unbindBehindTheSuite X.env n pos')
              (fun _ s₄ => wpAny (model X.prog X.w) (X.A.mark (some (.ref a))) (passOn "try.except-as" (.ref a2) X.env : Sem Flow) (fun _ _ => False) (notedBy (model X.prog X.w) (X.A.mark (some (.ref a))) X.env (cameBackBy (model X.prog X.w) X.A X.env X.xe)) s₄) E₁ { s6 with heap := h1 } := by
          intro E₁ h1 hh1 up1
          obtain ⟨k1, k2, k3, oe, vs, T, oT, ts', he, hz, hd, h1', hnT, hTe, hT, hdT, h3'⟩ := hh1
          have J6 : Inv X pins σ2 H2 { s6 with heap := h1 } := I2.landed nb2 k1 (up2.trans up1) os2 ag2
          obtain ⟨m, hn, _⟩ := id J6.loc
          have hcls : (X.env.scope.kind == .class || (X.env.scope.kind == .module && X.env.locals != X.env.globals)) = false := by rw [ok.kind]; rfl
          refine wpAny_nameGoes_keeps hln hn hcls fun h2 v hn2 hs2 => ?_
          have neE : a2 ≠ X.env.locals := fun z => notFr k3 he hd (z ▸ hLf)
          have neT : T ≠ X.env.locals := fun z => notFr k3 hT hdT (z ▸ hLf)
          have st2 : B2.StaysIn h2 := fun b o e => (hs2.2 b fun z => by
            rw [z, (k3.mem hLf).1] at e; cases e).trans (k1 b o e)
          have ff2 : h2.FunFrames B2 (X.env :: X.outer) := Heap.FunFrames.sameBut hs2 hn2 k3
          have he2 := (hs2.2 a2 neE).trans he
          have hT2 := (hs2.2 T neT).trans hT
          have tr2 : HandSPX.TracedZ h2 B2 a2 (Zc cls2 d2) (rawInt X.env.locals) := ⟨oe, vs, T, oT, ts', he2, hz, hd, h1', hnT, hTe, hT2, hdT, h3'⟩
          unfold PySem.passOn
          refine wpAny_bind (wpAny_field he2 hd h1' ?_)
          rw [if_neg (show ¬ ((Value.ref T == Value.none) = true) from by simp)]
          have fin : wpAny (model X.prog X.w) (X.A.mark (some (.ref a))) (setFlight (.ref a2) X.env.frame) (fun _ s4 => wpAny (model X.prog X.w) (X.A.mark (some (.ref a))) (throw (.ref a2) : Sem Flow) (fun _ _ => False) (notedBy (model X.prog X.w) (X.A.mark (some (.ref a))) X.env (cameBackBy (model X.prog X.w) X.A X.env X.xe)) s4) (notedBy (model X.prog X.w) (X.A.mark (some (.ref a))) X.env (cameBackBy (model X.prog X.w) X.A X.env X.xe)) { s6 with heap := h2, toks := s6.toks + 1 } := by
            rw [hf]
            refine HandSPX.setFlight_anyZ (fr := some X.env.locals) st2 ff2 tr2 fun h5 q1 q2 q3 q4 => wpAny_throw (hpa (some (.ref a)) _ _ (tk _ _ ?_))
            -- the state without what flies
            obtain ⟨R, R1, R2⟩ := restrict h1 fun b => (sI2.heap.get? b).isSome
            obtain ⟨S, S1, S2⟩ := restrict h2 fun b => (sI2.heap.get? b).isSome
            obtain ⟨Br, Br1, Br2⟩ := restrict B2 fun b => (sI2.heap.get? b).isSome
            have dom : ∀ b, (sI2.heap.get? b).isSome = true ∨ (sI2.heap.get? b).isSome = false := fun b => by cases (sI2.heap.get? b).isSome <;> simp
            have hLI : (sI2.heap.get? X.env.locals).isSome = true := by
              obtain ⟨mI, hnI, _⟩ := I2.loc
              obtain ⟨oL, _, _, hoL, _⟩ := hnI
              rw [hoL]; rfl
            have I3 : Inv X pins σ2 H2 { s6 with heap := R } := by
              refine I2.landed (B := Br) (s' := { s6 with heap := R }) (fun b o e hb => ?_) (fun b o e => ?_) (fun b o e hnf => ?_) os2 ag2
              · rw [Br1 b (by rw [e]; rfl)]
                exact nb2 b o e hb
              · rcases dom b with hd' | hd'
                · rw [Br1 b hd'] at e
                  exact (R1 b hd').trans (k1 b o e)
                · rw [Br2 b hd'] at e; cases e
              · obtain ⟨sl, e'⟩ := (up2.trans up1) b o e hnf
                exact ⟨sl, (R1 b (by rw [e]; rfl)).trans e'⟩
            have hnR : R.Ns X.env.locals m := hn.at fun o q => (R1 _ hLI).trans q
            have hnS : S.Ns X.env.locals (fun x => if x = n then v else m x) := hn2.at fun o q => (S1 _ hLI).trans q
            have I4 : Inv X pins (σ2.set i none) H2 { s6 with heap := S, toks := s6.toks + 1 } := inv_gone (s := { s6 with heap := R }) (h' := S) (t' := s6.toks + 1) I3 hN hi hnR hnS fun b hb => by
              rcases dom b with hd' | hd'
              · exact (S1 b hd').trans ((hs2.2 b hb).trans (R1 b hd').symm)
              · exact (S2 b hd').trans (R2 b hd').symm
            refine ⟨a2, B2, { s6 with heap := S, toks := s6.toks + 1 }, pins, σ2.set i none, H2, cls2, d2, rfl, I4, fun b o e hb => ?_, fun b o e hnf => ?_, .inr (.inr (by rw [hs]; exact ⟨q1, k2, q2, q3⟩)), na2, rfl, ag2, w2⟩
            · rcases dom b with hd' | hd'
              · obtain ⟨o', e'⟩ := Option.isSome_iff_exists.mp hd'
                have eB := nb2 b o' e' hb
                have e1 := st2 b o' eB
                have e : S.get? b = some o := e
                rw [S1 b hd', e1] at e
                rw [eB, e]
              · have e : S.get? b = some o := e
                rw [S2 b hd'] at e; cases e
            · have e : S.get? b = some o := e
              rcases dom b with hd' | hd'
              · rw [S1 b hd'] at e
                exact q4 b o e hnf
              · rw [S2 b hd'] at e; cases e
          first
            | exact wpAny_bind (wpAny_pure (wpAny_bind fin))
            | exact wpAny_bind fin
        rcases sky2' with ⟨hB, hn', hl, oe, vs, he, hz, hd, h1⟩ | fl | hh
        · exact HandSPX.look_newZ Zc.steady hfrM hl hf he hB hn' hd h1 hz (fun h' hh up => G h' hh up)
        · exact HandSPX.looks_onZ Zc.steady hfrM hf fl (fun h' hh up => G h' hh up)
        · exact HandSPX.againZ hf hh.2.2.2 (G s6.heap hh (Heap.UpToSlots.refl _))
    | false =>
      show wpAny _ X.A (handleBy (.ref a) X.env []) _ _ _
      exact flyOn J nb (up.trans up3) (flyingZ_imp (fun o z => z.zc) fl3) na os ag (hno rfl)
  · -- any other: the clause doesn't name it
    obtain ⟨a, B, sI, pins', σ', H', cls, d, rfl, J', nb, up, sky, na, os, ag, hb1, hno⟩ := xx
    have J : Inv X pins σ' H' sI := J'.ofTry ok
    have sky' : Sky B (X.env :: X.outer) a (Zc cls d) X.env.locals s'.heap := by rw [← hs]; exact sky
    show wpAny (model X.prog X.w) X.A (noteFrame (.ref a) X.env) _ _ _
    refine L2.Sky.land Zc.steady hfr hf sky' fun h3 fl3 up3 => ?_
    have J3 : Inv X pins σ' H' { s' with heap := h3 } := J.landed nb fl3.1 (up.trans up3) os ag
    obtain ⟨oe3, vs3, he3, hz3, hd3⟩ := fl3.there
    have nfr : a ∉ frs (X.env :: X.outer) := notFr fl3.2.2.1 he3 hd3
    have nL : a ≠ X.env.locals := fun z => nfr (z ▸ hLf)
    have nF : a ∉ X.fs := fun hm => by
      obtain ⟨e, he, q⟩ := List.mem_filterMap.mp hm
      exact nfr (List.mem_filterMap.mpr ⟨e, List.mem_cons_of_mem _ he, q⟩)
    have S3 := J3.suite he3 hd3 na nL nF
    refine wpAny_handleBy_cons (codeAny_handlers_test ?_) (by intro q; cases q)
    have LT : PySem.W.Looks (model X.prog X.w) h3 (typeOf (.ref a)) cls := fun A Q E s k q => wpAny_typeOf_ref (k _ _ he3) (by rw [hz3.1]; exact q)
    have LM := PySem.W.exm_one (M := model X.prog X.w) (J3.kIn) LT hb1
    have test : ∀ {Q : Value → Shared → Prop} {E : Value → Shared → Prop}, Q c { s' with heap := h3 } → wpAny (model X.prog X.w) (X.A.mark (some (.ref a))) (eval (.Name x np) X.env) Q E { s' with heap := h3 } := fun {Q E} q => by
      obtain ⟨hg, hdbg, hm | ⟨hm, hv, hnn⟩⟩ := hc
      · exact ld_glob (X := X.suite a ((a, oe3) :: (X.pn ++ pins))) S3 hg hm q hdbg
      · exact ld_blt (X := X.suite a ((a, oe3) :: (X.pn ++ pins))) S3 hg hm hv q hnn hdbg
    refine test (LM.here ?_)
    show wpAny _ X.A (handleBy (.ref a) X.env []) _ _ _
    exact flyOn J nb (up.trans up3) fl3 na os ag hno
  · cases f with
    | next =>
      obtain ⟨σ', H', J', q⟩ := hsp
      exact wpAny_execs_nil ⟨σ', H', J'.ofTry ok, q⟩
    | brk =>
      obtain ⟨σ', H', J', q⟩ := hsp
      exact ⟨σ', H', J'.ofTry ok, q⟩
    | cont =>
      obtain ⟨σ', H', J', q⟩ := hsp
      exact ⟨σ', H', J'.ofTry ok, q⟩
    | ret u =>
      obtain ⟨v, σ', H', J', r, q⟩ := hsp
      exact ⟨v, σ', H', J'.ofTry ok, r, q⟩
theorem roomY {k : Nat} {A : Around} {v : Option Value} (r : Room k A) : L2H.RoomH k (A.mark v) := ⟨r.dp, r.un⟩
end
end LH

namespace K12
open PySem PySem.Spec PyProof.Rows L2 LH
def topS (i : Nat) : Stmt := PySem.Challenge.pw_letterhouse_k12_times_refused.main.body.getD i (.Pass ⟨0, 0, 0, 0⟩)
def clsS (i j : Nat) : Stmt := match topS i with
  | .ClassDef _ _ _ b _ _ _ _ _ _ _ => b.getD j (.Pass ⟨0, 0, 0, 0⟩)
  | s => s
def FIGS : Str := Str.ofString "0123456789"
def dayNames : List Str := [Str.ofString "Mon", Str.ofString "Tue", Str.ofString "Wed", Str.ofString "Thu", Str.ofString "Fri", Str.ofString "Sat", Str.ofString "Sun"]
def monthDays : List Int := [31, 28, 31, 30, 31, 30, 31, 31, 30, 31, 30, 31]
structure Tx (K : PySem.W.Frag) (mg : Str → Option Value) (tk : Nat → Tok) (dn md : Addr) : Prop where
  n_all : mg "all" = none
  n_ValueError : mg "ValueError" = none
  n_abs : mg "abs" = none
  n_bool : mg "bool" = none
  n_divmod : mg "divmod" = none
  n_enumerate : mg "enumerate" = none
  n_int : mg "int" = none
  n_isinstance : mg "isinstance" = none
  n_len : mg "len" = none
  n_max : mg "max" = none
  n_range : mg "range" = none
  n_str : mg "str" = none
  n_sum : mg "sum" = none
  n_tuple : mg "tuple" = none
  m_FIGURES : mg "FIGURES" = some (.str FIGS (tk 0))
  m_LAST_YEAR : mg "LAST_YEAR" = some (.int 9999 (tk 1))
  m_DAY_MINUTES : mg "DAY_MINUTES" = some (.int 1440 (tk 2))
  m_MOST_HOURS : mg "MOST_HOURS" = some (.int 14 (tk 3))
  m_DAY_NAMES : mg "DAY_NAMES" = some (.ref dn)
  m_MONTH_DAYS : mg "MONTH_DAYS" = some (.ref md)
  t_DAY_NAMES : ∀ H, SqT K H dn (dayNames.map V.str)
  t_MONTH_DAYS : ∀ H, SqT K H md (monthDays.map V.int)
end K12

namespace K12
open PySem PySem.Spec PyProof.Rows L2 LH
section
variable {P : Program} {w : World} {K : PySem.W.Frag} {mg : Str → Option Value} {base : Heap} {tk : Nat → Tok} {ca : Nat → Addr} {dn md C : Addr}
/-! ### a text read from its first sign on, as far as it is good -/
def rfs (z : Str) (n : Nat) : List (Str × V) := [("signs", .str z), ("at", .int (n : Nat))]
def Rdr (H : Hp) (C a dx : Addr) (z : Str) (n : Nat) : Prop := H a = some (.ins C dx (rfs z n))
structure Rc (K : PySem.W.Frag) (C : Addr) : Prop where
  c : Cls K C
  n_signs : NoAttr K C "signs"
  n_at : NoAttr K C "at"
def oneV (c : Nat) : V := .str ⟨#[c]⟩
/-- a choice of the signs S -/
def Ch (K : PySem.W.Frag) (H : Hp) (y : V) (S : List Nat) : Prop := (∃ t : Str, y = .str t ∧ TL.tl t = S) ∨ ∃ p : Addr, y = .ref p ∧ H p = some (.lst (S.map oneV))
theorem Ch.same {H H' : Hp} {y : V} {S : List Nat} (s : Same H H') (h : Ch K H y S) : Ch K H' y S := h.imp (fun h => h) fun ⟨p, e, h⟩ => ⟨p, e, s _ _ h⟩
theorem small_place {i : Int} (h : i.natAbs ≤ 200000) : i.natAbs.log2 < 1920 := by
  by_cases h0 : i.natAbs = 0
  · rw [h0]; decide
  · have : i.natAbs.log2 < 20 := (Nat.log2_lt h0).mpr (by omega)
    omega
/-- whether the next sign is one of S -/
def nextIn (l : List Nat) (n : Nat) (S : List Nat) : Bool := match l[n]? with
  | some c => decide (c ∈ S)
  | none => false
/-- astray at the sign at n -/
def Lost (H : Hp) (a A : Addr) (n : Nat) (E : XK) : Prop := ∀ H' d, SameBut a H H' → H' d = none → E (.ref A) (some d) (upd H' d (.xd (atFields ((n + 1 : Nat) : Int))))
/-! ### Reader___init__ -/
abbrev s_Reader___init__ : Stmt := clsS 25 0
abbrev N_Reader___init__ : List Str := ["self", "signs"]
abbrev P_Reader___init__ : List Str := ["self", "signs"]
theorem sc_Reader___init__ : FnScope N_Reader___init__ ["self", "signs"] (defScope s_Reader___init__) := ⟨rfl, rfl, rfl, by decide +kernel, rfl, by decide +kernel, by decide +kernel⟩
def sp_init (C : Addr) : Sp := fun vs H Q _ => ∃ (a dx : Addr) (z : Str), vs = [.ref a, .str z] ∧ H a = some (.ins C dx []) ∧ ∀ H', SameBut a H H' → Rdr H' C a dx z 0 → Q .non H'
theorem ok_init {f : Addr} {fd : FuncData} {k : Nat} (F : Fun K "__init__" "Reader.__init__" s_Reader___init__ f fd) (R : Rc K C) : FnOk P w K mg base CX0 (k + 1) f fd P_Reader___init__ (sp_init C) := by
  refine F.ok sc_Reader___init__ (fun vs H Q E h => ?_) (fun cdv A outer s H vs Q E hr h => ?_)
  · obtain ⟨a, dx, z, rfl, _⟩ := h
    rfl
  · have nd := sc_Reader___init__.nd
    obtain ⟨a, dx, z, rfl, e, q⟩ := h
    refine ⟨_, (pss_cons (ps_fld (pv 0) (pv 1) rfl)
      (pss_one (ps_fld (pv 0) pe_int rfl))), ?_⟩
    refine ⟨.str z, rfl, .ref a, rfl, a, C, dx, [], rfl, e, R.c, R.n_signs, (by show 0 < 1000; decide), ?_⟩
    refine ⟨.ref a, rfl, a, C, dx, _, rfl, upd_same, R.c, R.n_at, (by show 1 < 1000; decide), ?_⟩
    exact q _ (SameBut.trans (SameBut.upd _ _ _) (SameBut.upd _ _ _)) upd_same
/-! ### Reader_sees -/
abbrev s_Reader_sees : Stmt := clsS 25 1
abbrev N_Reader_sees : List Str := ["self", "choice"]
abbrev P_Reader_sees : List Str := ["self", "choice"]
theorem sc_Reader_sees : FnScope N_Reader_sees ["self", "choice"] (defScope s_Reader_sees) := ⟨rfl, rfl, rfl, by decide +kernel, rfl, by decide +kernel, by decide +kernel⟩
def sp_sees (K : PySem.W.Frag) (C : Addr) : Sp := fun vs H Q _ => ∃ (a dx : Addr) (z : Str) (n : Nat) (y : V) (S : List Nat), vs = [.ref a, y] ∧ Rdr H C a dx z n ∧ z.length ≤ 100000 ∧ Ch K H y S ∧ Tell H (.bl (nextIn (TL.tl z) n S)) Q
theorem ok_sees {f : Addr} {fd : FuncData} {k : Nat} (F : Fun K "sees" "Reader.sees" s_Reader_sees f fd) (T : Tx K mg tk dn md) (R : Rc K C) : FnOk P w K mg base CX0 (k + 1) f fd P_Reader_sees (sp_sees K C) := by
  refine F.ok sc_Reader_sees (fun vs H Q E h => ?_) (fun cdv A outer s H vs Q E hr h => ?_)
  · obtain ⟨a, dx, z, n, y, S, rfl, _⟩ := h
    rfl
  · have nd := sc_Reader_sees.nd
    obtain ⟨a, dx, z, n, y, S, rfl, e, hz, hy, q⟩ := h
    refine ⟨_, (pss_one (ps_ret (pe_and (pe_cmpR op_lt (pe_fld (pv 0) rfl) (pe_callB call_len_str (by rfl) T.n_len (by decide +kernel) (pa_cons (pe_fld (pv 0) rfl) pa_nil)) (nomark _)) (pe_one (pe_cmpR (op_inBoth K) (pe_ix ix_str (pe_fld (pv 0) rfl) (pe_fld (pv 0) rfl) (fun _ _ => rfl)) (pv 1) rfl))))), ?_⟩
    have hzl : z.length = (TL.tl z).length := TL.len_tl z
    have hzs : z.length ≤ sizeLine := by rw [sizeLine_eq]; omega
    have hq : (decide (n < (TL.tl z).length) && decide ((TL.tl z).getD n 0 ∈ S)) = nextIn (TL.tl z) n S := by
      unfold nextIn
      by_cases hn : n < (TL.tl z).length
      · rw [decide_eq_true hn, List.getD_eq_getElem?_getD, List.getElem?_eq_getElem hn]; rfl
      · rw [decide_eq_false hn, List.getElem?_eq_none (by omega)]; rfl
    refine andV (decide (n < (TL.tl z).length)) (decide ((TL.tl z).getD n 0 ∈ S)) (fun Q' q' => ?_) (fun hb H2 Q' s2 q' => ?_) (by rw [hq]; exact q)
    · refine ⟨.ref a, rfl, a, C, dx, _, _, rfl, e, R.c, R.n_at, rfl, .ref a, rfl, a, C, dx, _, _, rfl, e, R.c, R.n_signs, rfl, z, rfl, hzs, _, _, rfl, rfl, ?_⟩
      show Q' (.bl (decide (((n : Nat) : Int) < (z.length : Nat)))) _
      rw [show decide (((n : Nat) : Int) < (z.length : Nat)) = decide (n < (TL.tl z).length) from decide_eq_decide.mpr (by omega)]
      exact q' _ (Same.refl _)
    · have hlt := of_decide_eq_true hb
      have hc : (TL.tl z)[n]? = some ((TL.tl z).getD n 0) := by rw [List.getD_eq_getElem?_getD, List.getElem?_eq_getElem hlt]; rfl
      have e2 := s2 _ _ e
      generalize (TL.tl z).getD n 0 = c at *
      refine ⟨.ref a, rfl, a, C, dx, _, _, rfl, e2, R.c, R.n_signs, rfl, .ref a, rfl, a, C, dx, _, _, rfl, e2, R.c, R.n_at, rfl, z, _, c, rfl, rfl, hzs, atI_nat hc, y, rfl, ?_⟩
      rcases hy with ⟨t, rfl, ht⟩ | ⟨p, rfl, ep⟩
      · refine .inl ⟨c, t, rfl, rfl, ?_⟩
        show Q' (.bl (decide (c ∈ TL.tl t))) _
        rw [ht]
        exact q' _ (Same.refl _)
      · refine .inr ⟨p, _, rfl, .inl (.inl (.inl (s2 _ _ ep))), rfl, ?_, ?_⟩
        · rw [List.all_eq_true]
          intro v hv
          obtain ⟨d, _, rfl⟩ := List.mem_map.mp hv
          rfl
        · show Q' (.bl (inV (oneV c) (S.map oneV))) _
          rw [show inV (oneV c) (S.map oneV) = decide (c ∈ S) by
            unfold inV
            rw [Bool.eq_iff_iff, List.any_eq_true, decide_eq_true_eq]
            constructor
            · rintro ⟨v, hv, he⟩
              obtain ⟨d, hd, rfl⟩ := List.mem_map.mp hv
              have : d = c := by simpa [oneV, eqV] using he
              rw [← this]; exact hd
            · intro hc'
              exact ⟨oneV c, List.mem_map_of_mem hc', by simp [oneV, eqV]⟩]
          exact q' _ (Same.refl _)
/-! ### Reader_one_of -/
abbrev s_Reader_one_of : Stmt := clsS 25 3
abbrev N_Reader_one_of : List Str := ["self", "choice"]
abbrev P_Reader_one_of : List Str := ["self", "choice"]
theorem sc_Reader_one_of : FnScope N_Reader_one_of ["self", "choice"] (defScope s_Reader_one_of) := ⟨rfl, rfl, rfl, by decide +kernel, rfl, by decide +kernel, by decide +kernel⟩
def sp_oneX (K : PySem.W.Frag) (C A : Addr) : Sp := fun vs H Q E => ∃ (a dx : Addr) (z : Str) (n : Nat) (y : V) (S : List Nat), vs = [.ref a, y] ∧ Rdr H C a dx z n ∧ z.length ≤ 100000 ∧ n ≤ z.length ∧ Ch K H y S ∧
  (nextIn (TL.tl z) n S = false → Lost H a A n E) ∧ ∀ c, (TL.tl z)[n]? = some c → c ∈ S → ∀ H', SameBut a H H' → Rdr H' C a dx z (n + 1) → Q (oneV c) H'
theorem ok_oneX {f fS fI cc cda CA : Addr} {fd fdS : FuncData} (F : Fun K "one_of" "Reader.one_of" s_Reader_one_of f fd) (T : Tx K mg tk dn md) (R : Rc K C) (A_Astray : AtC P K mg "Astray" CA fI cc cda) (M_Reader_sees : DefM P w K mg base C "sees" 1 fS fdS P_Reader_sees (sp_sees K C)) : FnOk P w K mg base (L2N.CX P w) 2 f fd P_Reader_one_of (sp_oneX K C CA) := by
  refine okXN F sc_Reader_one_of (fun vs H Q E h => ?_) (fun cdv A outer s H vs Q E hr h => ?_)
  · obtain ⟨a, dx, z, n, y, S, rfl, _⟩ := h
    rfl
  · have nd := sc_Reader_one_of.nd
    obtain ⟨a, dx, z, n, y, S, rfl, e, hz, hn, hy, hl, q⟩ := h
    refine ⟨_, (pss_cons (ps_if (pt_not (pt_val (pe_meth (pv 0) M_Reader_sees.c M_Reader_sees.hm M_Reader_sees.ok (hr.mono (by decide)) M_Reader_sees.bd .nil pass0 (pa_cons (pv 1) pa_nil))))
        (pss_one (ps_raiseAN rfl A_Astray hr (L2N.takes_of rfl rfl rfl rfl) (by exact (pa_cons (pe_op op_add (pe_fld (pv 0) rfl) pe_int) pa_nil))))
        pss_nil)
      (PSs.nox (pss_cons (ps_fldaug (pv 0) pe_int in_add)
      (pss_one (ps_ret (pe_ix ix_str (pe_fld (pv 0) rfl) (pe_op op_sub (pe_fld (pv 0) rfl) pe_int) (fun _ _ => rfl))))))), ?_⟩
    have hzs : z.length ≤ sizeLine := by rw [sizeLine_eq]; omega
    have hzl : z.length = (TL.tl z).length := TL.len_tl z
    refine ifT (!nextIn (TL.tl z) n S) (fun k q1 => notT (nextIn (TL.tl z) n S) (fun k q2 => ⟨.ref a, rfl, a, dx, _, rfl, e, rfl, y, rfl, a, dx, z, n, y, S, rfl, e, hz, hy, fun H3 s3 => ⟨_, rfl, q2 _ s3⟩⟩) q1) (fun h H1 s1 => ?_) (fun h H1 s1 => ?_)
    · have h' : nextIn (TL.tl z) n S = false := by simpa using h
      exact ⟨.ref a, rfl, a, C, dx, _, _, rfl, s1 _ _ e, R.c, R.n_at, rfl, _, 1, rfl, rfl, _, rfl, small_place (by omega), fun d hd => hl h' _ d (SameBut.of s1) hd⟩
    · have h' : nextIn (TL.tl z) n S = true := by simpa using h
      obtain ⟨c, hc, hcS⟩ : ∃ c, (TL.tl z)[n]? = some c ∧ c ∈ S := by
        unfold nextIn at h'
        cases e : (TL.tl z)[n]? with
        | none => rw [e] at h'; exact nomatch h'
        | some c => rw [e] at h'; exact ⟨c, rfl, of_decide_eq_true h'⟩
      dsimp only [tNext, tSeq]
      have e1 := s1 _ _ e
      refine ⟨.ref a, rfl, a, C, dx, _, _, rfl, e1, R.c, R.n_at, rfl, _, 1, rfl, rfl, dx, _, e1, (by show 2 < 1000; decide), ?_⟩
      have e2 : Rdr (upd H1 a (.ins C dx (putF (Str.ofString "at") (.int ((n : Nat) + 1)) (rfs z n)))) C a dx z (n + 1) := by
        unfold Rdr
        rw [upd_same]
        rfl
      have s2 : SameBut a H (upd H1 a (.ins C dx (putF (Str.ofString "at") (.int ((n : Nat) + 1)) (rfs z n)))) := (SameBut.of s1).trans (SameBut.upd _ _ _)
      dsimp only
      generalize upd H1 a (.ins C dx (putF (Str.ofString "at") (.int ((n : Nat) + 1)) (rfs z n))) = H2 at *
      refine ⟨.ref a, rfl, a, C, dx, _, _, rfl, e2, R.c, R.n_signs, rfl, .ref a, rfl, a, C, dx, _, _, rfl, e2, R.c, R.n_at, rfl, _, 1, rfl, rfl, z, _, c, rfl, rfl, hzs, ?_, q c hc hcS _ s2 e2⟩
      rw [show ((n + 1 : Nat) : Int) - 1 = ((n : Nat) : Int) by omega]
      exact atI_nat hc
/-- a method that may raise, as its callers see it -/
structure DefMX (P : Program) (w : World) (K : PySem.W.Frag) (mg : Str → Option Value) (base : Heap) (C : Addr) (m : Str) (k : Nat) (f : Addr) (fd : FuncData) (ps : List Str) (sp : Sp) : Prop where
  c : Cls K C
  hm : Meth K C m f
  ok : FnOk P w K mg base (L2N.CX P w) k f fd ps sp
  bd : Binds K fd ps []
/-- the first place at which the signs are not the wanted ones -/
def mis : List Nat → List Nat → Option Nat
  | [], _ => none
  | _ :: _, [] => some 0
  | c :: w, d :: r => if c = d then (mis w r).map (· + 1) else some 0
theorem mis_at : ∀ {w r : List Nat} {i : Nat}, (∀ k, k < i → r[k]? = w[k]?) → i < w.length → nextIn r i [w.getD i 0] = false → mis w r = some i
  | [], _, _, _, h, _ => absurd h (Nat.not_lt_zero _)
  | c :: w, [], i, h, hi, _ => by
    cases i with
    | zero => rfl
    | succ i => exact nomatch h 0 (Nat.succ_pos _)
  | c :: w, d :: r, i, h, hi, hf => by
    unfold mis
    cases i with
    | zero =>
      have hf : decide (d ∈ [c]) = false := hf
      rw [if_neg (fun e => by rw [e, decide_eq_true (List.mem_singleton.mpr rfl)] at hf; exact nomatch hf)]
    | succ i =>
      have h0 := h 0 (Nat.succ_pos _)
      have e : d = c := Option.some.inj h0
      rw [if_pos e.symm, mis_at (fun k hk => h (k + 1) (Nat.succ_lt_succ hk)) (Nat.lt_of_succ_lt_succ hi) hf]
      rfl
theorem mis_all : ∀ {w r : List Nat}, (∀ k, k < w.length → r[k]? = w[k]?) → mis w r = none
  | [], _, _ => rfl
  | c :: w, [], h => nomatch h 0 (Nat.succ_pos _)
  | c :: w, d :: r, h => by
    unfold mis
    have e : d = c := Option.some.inj (h 0 (Nat.succ_pos _))
    rw [if_pos e.symm, mis_all (w := w) (r := r) (fun k hk => h (k + 1) (Nat.succ_lt_succ hk))]
    rfl
theorem Lost.at {H H' : Hp} {a A : Addr} {n : Nat} {E : XK} (h : Lost H a A n E) (s : SameBut a H H') : Lost H' a A n E := fun H2 d s2 hd => h H2 d (s.trans s2) hd
theorem nextIn_drop (l : List Nat) (n j : Nat) (S : List Nat) : nextIn (l.drop n) j S = nextIn l (n + j) S := by
  unfold nextIn
  rw [List.getElem?_drop]
/-! ### Reader_sees_word -/
abbrev s_Reader_sees_word : Stmt := clsS 25 2
abbrev N_Reader_sees_word : List Str := ["self", "wanted"]
abbrev P_Reader_sees_word : List Str := ["self", "wanted"]
theorem sc_Reader_sees_word : FnScope N_Reader_sees_word ["self", "wanted"] (defScope s_Reader_sees_word) := ⟨rfl, rfl, rfl, by decide +kernel, rfl, by decide +kernel, by decide +kernel⟩
/-- whether the signs from n on are a word's -/
def aheadIs (l w : List Nat) (n : Nat) : Bool := decide ((l.drop n).take w.length = w)
def sp_seesword (C : Addr) : Sp := fun vs H Q _ => ∃ (a dx : Addr) (z t : Str) (n : Nat), vs = [.ref a, .str t] ∧ Rdr H C a dx z n ∧ z.length ≤ 100000 ∧ t.length ≤ 100000 ∧ Tell H (.bl (aheadIs (TL.tl z) (TL.tl t) n)) Q
theorem ok_seesword {f : Addr} {fd : FuncData} {k : Nat} (F : Fun K "sees_word" "Reader.sees_word" s_Reader_sees_word f fd) (T : Tx K mg tk dn md) (R : Rc K C) : FnOk P w K mg base CX0 (k + 1) f fd P_Reader_sees_word (sp_seesword C) := by
  refine F.ok sc_Reader_sees_word (fun vs H Q E h => ?_) (fun cdv A outer s H vs Q E hr h => ?_)
  · obtain ⟨a, dx, z, t, n, rfl, _⟩ := h
    rfl
  · have nd := sc_Reader_sees_word.nd
    obtain ⟨a, dx, z, t, n, rfl, e, hz, ht, q⟩ := h
    refine ⟨_, (pss_one (ps_ret (pe_cmpR op_eq (pe_slice sl_str (pe_fld (pv 0) rfl) (po_some (pe_fld (pv 0) rfl)) (po_some (pe_op op_add (pe_fld (pv 0) rfl) (pe_callB call_len_str (by rfl) T.n_len (by decide +kernel) (pa_cons (pv 1) pa_nil))))) (pv 1) (nomark _)))), ?_⟩
    have hzs : z.length ≤ sizeLine := by rw [sizeLine_eq]; omega
    have hts : t.length ≤ sizeLine := by rw [sizeLine_eq]; omega
    refine ⟨.ref a, rfl, a, C, dx, _, _, rfl, e, R.c, R.n_signs, rfl, .ref a, rfl, a, C, dx, _, _, rfl, e, R.c, R.n_at, rfl, _, rfl, .ref a, rfl, a, C, dx, _, _, rfl, e, R.c, R.n_at, rfl, .str t, rfl, t, rfl, hts, _, _, rfl, rfl, _, rfl, z, rfl, hzs, .str t, rfl, rfl, ?_⟩
    have et : decide (V.str (cutS z (some (n : Int)) (some ((n : Int) + (t.length : Nat)))) = V.str t) = aheadIs (TL.tl z) (TL.tl t) n := by
      have hl : t.length = (TL.tl t).length := TL.len_tl t
      rw [show ((n : Int) + (t.length : Nat)) = ((n + t.length : Nat) : Int) by omega, cutS_at, show n + t.length - n = (TL.tl t).length by omega]
      unfold aheadIs
      rw [decide_eq_decide]
      constructor
      · intro h
        exact congrArg TL.tl (V.str.inj h)
      · intro h
        exact congrArg V.str (TL.ext_tl h)
    show Q (.bl (decide (V.str (cutS z (some (n : Int)) (some ((n : Int) + (t.length : Nat)))) = V.str t))) H
    rw [et]
    exact q _ (Same.refl _)
/-! ### Reader_word -/
abbrev s_Reader_word : Stmt := clsS 25 4
abbrev N_Reader_word : List Str := ["self", "wanted", "sign"]
abbrev P_Reader_word : List Str := ["self", "wanted"]
theorem sc_Reader_word : FnScope N_Reader_word ["self", "wanted"] (defScope s_Reader_word) := ⟨rfl, rfl, rfl, by decide +kernel, rfl, by decide +kernel, by decide +kernel⟩
def sp_wordX (K : PySem.W.Frag) (C A : Addr) : Sp := fun vs H Q E => ∃ (a dx : Addr) (z t : Str) (n : Nat), vs = [.ref a, .str t] ∧ Rdr H C a dx z n ∧ z.length ≤ 100000 ∧ t.length ≤ 100000 ∧ n ≤ z.length ∧
  (∀ j, mis (TL.tl t) ((TL.tl z).drop n) = some j → Lost H a A (n + j) E) ∧ (mis (TL.tl t) ((TL.tl z).drop n) = none → ∀ H', SameBut a H H' → Rdr H' C a dx z (n + (TL.tl t).length) → n + (TL.tl t).length ≤ z.length → Q .non H')
theorem ok_wordX {f fO fW CA : Addr} {fd fdO fdW : FuncData} (F : Fun K "word" "Reader.word" s_Reader_word f fd) (T : Tx K mg tk dn md) (R : Rc K C) (M_Reader_sees_word : DefM P w K mg base C "sees_word" 1 fW fdW P_Reader_sees_word (sp_seesword C)) (MX_Reader_one_of : DefMX P w K mg base C "one_of" 2 fO fdO P_Reader_one_of (sp_oneX K C CA)) : FnOk P w K mg base (L2N.CX P w) 3 f fd P_Reader_word (sp_wordX K C CA) := by
  refine okXN F sc_Reader_word (fun vs H Q E h => ?_) (fun cdv A outer s H vs Q E hr h => ?_)
  · obtain ⟨a, dx, z, t, n, rfl, _⟩ := h
    rfl
  · have nd := sc_Reader_word.nd
    obtain ⟨a, dx, z, t, n, rfl, e, hz, ht, hn, hl, q⟩ := h
    refine ⟨_, (pss_cons (ps_if (pt_truth (pe_meth (pv 0) M_Reader_sees_word.c M_Reader_sees_word.hm M_Reader_sees_word.ok (hr.mono (by decide)) M_Reader_sees_word.bd .nil pass0 (pa_cons (pv 1) pa_nil)) (by intro _; rfl))
        (pss_cons (ps_fldaug (pv 0) (pe_callB call_len_str (by rfl) T.n_len (by decide +kernel) (pa_cons (pv 1) pa_nil)) in_add)
        (PSs.nox (pss_one ps_retN)))
        pss_nil)
      (pss_one (ps_for (passes_of rfl) rfl (pi_str (pv 1)) (pg_name (i := 2) nd rfl (Or.inl rfl))
        (pss_one (ps_expr (pe_meth (pv 0) MX_Reader_one_of.c MX_Reader_one_of.hm MX_Reader_one_of.ok (hr.mono (by decide)) MX_Reader_one_of.bd .nil (L2N.passes_call (L2N.takes_of rfl rfl rfl rfl) (fun _ _ _ _ h => h)) (pa_cons (pv 2) pa_nil))))))), ?_⟩
    have hzl : z.length = (TL.tl z).length := TL.len_tl z
    dsimp only [gName, tSeq]
    refine ifT (aheadIs (TL.tl z) (TL.tl t) n) (fun k q1 => ⟨.ref a, rfl, a, dx, _, rfl, e, rfl, .str t, rfl, a, dx, z, t, n, rfl, e, hz, ht, fun H1 s1 => ⟨_, rfl, q1 _ s1⟩⟩) (fun ha H1 s1 => ?_) (fun ha H1 s1 => ?_)
    · dsimp only [tNext, tSeq]
      have ha : ((TL.tl z).drop n).take (TL.tl t).length = TL.tl t := of_decide_eq_true ha
      have hat : ∀ k, k < (TL.tl t).length → ((TL.tl z).drop n)[k]? = (TL.tl t)[k]? := fun k hk => by
        have := congrArg (fun l => l[k]?) ha
        simp only [List.getElem?_take] at this
        rw [if_pos hk] at this
        exact this
      have hlen : n + (TL.tl t).length ≤ z.length := by
        have := congrArg List.length ha
        rw [List.length_take, List.length_drop] at this
        omega
      have e1 := s1 _ _ e
      have hl2 : t.length = (TL.tl t).length := TL.len_tl t
      have hts2 : t.length ≤ sizeLine := by rw [sizeLine_eq]; omega
      refine ⟨.ref a, rfl, a, C, dx, _, _, rfl, e1, R.c, R.n_at, rfl, .str t, rfl, t, rfl, hts2, _, _, rfl, rfl, dx, _, e1, (by show 2 < 1000; decide), ?_⟩
      dsimp only [tRetN]
      refine q (mis_all hat) _ ((SameBut.of s1).trans (SameBut.upd _ _ _)) ?_ hlen
      unfold Rdr
      rw [upd_same, ← hl2]
      rfl
    · dsimp only [tNext, tSeq]
      refine ⟨.str t, rfl, t, rfl, for_it walk_strF (fun i σ H' => ∃ y2 : Option V, σ = [some (.ref a), some (.str t), y2] ∧ SameBut a H H' ∧ Rdr H' C a dx z (n + i) ∧ n + i ≤ z.length ∧ ∀ k, k < i → ((TL.tl z).drop n)[k]? = (TL.tl t)[k]?) ⟨none, rfl, SameBut.of s1, s1 _ _ e, hn, fun _ h => absurd h (Nat.not_lt_zero _)⟩ (fun _ _ _ _ _ => trivial) (fun i x σ H3' H2 hi hP hy => ?_) (fun σ H1 hP => ?_)⟩
      · obtain ⟨y2, rfl, sm, eR, hni, hj⟩ := hP
        obtain ⟨rfl, rfl⟩ := hy
        dsimp only [gName]
        refine ⟨.ref a, rfl, a, dx, _, rfl, eR, rfl, .str ⟨#[(TL.tl t).getD i 0]⟩, rfl, a, dx, z, n + i, _, [(TL.tl t).getD i 0], rfl, eR, hz, hni, .inl ⟨_, rfl, rfl⟩, fun hf => ?_, fun c hc hcS H3 s3 e3 => ?_⟩
        · exact (hl i (mis_at hj hi (by rw [nextIn_drop]; exact hf))).at sm
        · have hlt := (List.getElem?_eq_some_iff.mp hc).1
          refine ⟨_, rfl, sm.trans s3, e3, by omega, fun k hk => ?_⟩
          by_cases hki : k = i
          · subst hki
            rw [List.getElem?_drop, hc, List.mem_singleton.mp hcS, List.getD_eq_getElem?_getD, List.getElem?_eq_getElem hi]
            rfl
          · exact hj k (by omega)
      · obtain ⟨y2, rfl, sm, eR, hni, hj⟩ := hP
        exact q (mis_all hj) _ sm eR hni
/-! ### Reader_end -/
abbrev s_Reader_end : Stmt := clsS 25 9
abbrev N_Reader_end : List Str := ["self"]
abbrev P_Reader_end : List Str := ["self"]
theorem sc_Reader_end : FnScope N_Reader_end ["self"] (defScope s_Reader_end) := ⟨rfl, rfl, rfl, by decide +kernel, rfl, by decide +kernel, by decide +kernel⟩
def sp_endX (C A : Addr) : Sp := fun vs H Q E => ∃ (a dx : Addr) (z : Str) (n : Nat), vs = [.ref a] ∧ Rdr H C a dx z n ∧ z.length ≤ 100000 ∧ n ≤ z.length ∧ (n < (TL.tl z).length → Lost H a A n E) ∧ (n = (TL.tl z).length → Tell H .non Q)
theorem ok_endX {f fI cc cda CA : Addr} {fd : FuncData} {k : Nat} (F : Fun K "end" "Reader.end" s_Reader_end f fd) (T : Tx K mg tk dn md) (R : Rc K C) (A_Astray : AtC P K mg "Astray" CA fI cc cda) : FnOk P w K mg base (L2N.CX P w) (k + 1) f fd P_Reader_end (sp_endX C CA) := by
  refine okXN F sc_Reader_end (fun vs H Q E h => ?_) (fun cdv A outer s H vs Q E hr h => ?_)
  · obtain ⟨a, dx, z, n, rfl, _⟩ := h
    rfl
  · have nd := sc_Reader_end.nd
    obtain ⟨a, dx, z, n, rfl, e, hz, hn, hl, q⟩ := h
    refine ⟨_, (pss_one (ps_if (pt_cmpR op_lt (pe_fld (pv 0) rfl) (pe_callB call_len_str (by rfl) T.n_len (by decide +kernel) (pa_cons (pe_fld (pv 0) rfl) pa_nil)) (nomark _))
        (pss_one (ps_raiseAN rfl A_Astray hr (L2N.takes_of rfl rfl rfl rfl) (by exact (pa_cons (pe_op op_add (pe_fld (pv 0) rfl) pe_int) pa_nil))))
        pss_nil)), ?_⟩
    have hzl : z.length = (TL.tl z).length := TL.len_tl z
    have hzs : z.length ≤ sizeLine := by rw [sizeLine_eq]; omega
    refine ifT (decide (n < (TL.tl z).length)) (fun k q1 => ⟨.ref a, rfl, a, C, dx, _, _, rfl, e, R.c, R.n_at, rfl, .ref a, rfl, a, C, dx, _, _, rfl, e, R.c, R.n_signs, rfl, z, rfl, hzs, _, _, rfl, rfl, _, rfl, TellB.eq (decide_eq_decide.mpr (by omega)) q1 _ (Same.refl _)⟩) (fun h H1 s1 => ?_) (fun h H1 s1 => q (by have := of_decide_eq_false h; omega) _ s1)
    exact ⟨.ref a, rfl, a, C, dx, _, _, rfl, s1 _ _ e, R.c, R.n_at, rfl, _, 1, rfl, rfl, _, rfl, small_place (by omega), fun d hd => hl (of_decide_eq_true h) _ d (SameBut.of s1) hd⟩
/-! ### Reader_refuse_number -/
abbrev s_Reader_refuse_number : Stmt := clsS 25 8
abbrev N_Reader_refuse_number : List Str := ["self", "low", "high", "found", "many", "sign"]
abbrev P_Reader_refuse_number : List Str := ["self", "low", "high"]
theorem sc_Reader_refuse_number : FnScope N_Reader_refuse_number ["self", "low", "high"] (defScope s_Reader_refuse_number) := ⟨rfl, rfl, rfl, by decide +kernel, rfl, by decide +kernel, by decide +kernel⟩
/-- whether the figure at k goes on with a number from lo to hi -/
def okAt (lo hi l : List Nat) (k : Nat) : Bool := match l[k]? with
  | some c => decide (48 ≤ c ∧ c ≤ 57) && (!decide (l.take (k + 1) < lo.take (k + 1)) && !decide (hi.take (k + 1) < l.take (k + 1)))
  | none => false
def sp_refuseX (K : PySem.W.Frag) (C A : Addr) : Sp := fun vs H Q E => ∃ (a dx : Addr) (z lo hi : Str) (n L : Nat), vs = [.ref a, .str lo, .str hi] ∧ Rdr H C a dx z n ∧ z.length ≤ 100000 ∧ n ≤ z.length ∧ (TL.tl lo).length = L ∧ (TL.tl hi).length = L ∧ 1 ≤ L ∧ L ≤ 4 ∧
  (∀ j, j < L → (∀ k, k < j → okAt (TL.tl lo) (TL.tl hi) ((TL.tl z).drop n) k = true) → okAt (TL.tl lo) (TL.tl hi) ((TL.tl z).drop n) j = false → Lost H a A (n + j) E) ∧
  ¬ ∀ k, k < L → okAt (TL.tl lo) (TL.tl hi) ((TL.tl z).drop n) k = true
theorem ok_refuseX {f fO CA : Addr} {fd fdO : FuncData} (F : Fun K "refuse_number" "Reader.refuse_number" s_Reader_refuse_number f fd) (T : Tx K mg tk dn md) (MX_Reader_one_of : DefMX P w K mg base C "one_of" 2 fO fdO P_Reader_one_of (sp_oneX K C CA)) : FnOk P w K mg base (L2N.CX P w) 3 f fd P_Reader_refuse_number (sp_refuseX K C CA) := by
  refine okXN F sc_Reader_refuse_number (fun vs H Q E h => ?_) (fun cdv A outer s H vs Q E hr h => ?_)
  · obtain ⟨a, dx, z, lo, hi, n, L, rfl, _⟩ := h
    rfl
  · have nd := sc_Reader_refuse_number.nd
    obtain ⟨a, dx, z, lo, hi, n, L, rfl, e, hz, hn, hlo, hhi, h1, h4, hl, hb⟩ := h
    refine ⟨_, (pss_cons (ps_set (i := 3) nd rfl (.inr rfl) pe_str)
      (pss_one (ps_for (passes_of rfl) rfl (pi_range2 (by rfl) T.n_range (pa_cons pe_int (pa_cons (pe_op op_add (pe_callB call_len_str (by rfl) T.n_len (by decide +kernel) (pa_cons (pv 1) pa_nil)) pe_int) pa_nil))) (pg_name (i := 4) nd rfl (Or.inr rfl))
        (pss_one (ps_aug (i := 3) nd rfl (.inr rfl) (pe_meth (pv 0) MX_Reader_one_of.c MX_Reader_one_of.hm MX_Reader_one_of.ok (hr.mono (by decide)) MX_Reader_one_of.bd .nil (L2N.passes_call (L2N.takes_of rfl rfl rfl rfl) (fun _ _ _ _ h => h)) (pa_cons (pe_lc (own := [("sign", 5)]) (g := gName 5) (by rfl) nd (pi_str (pe_glob (v := .str FIGS) (by rfl) T.m_FIGURES ⟨_, rfl⟩)) (blkOk_by (N := N_Reader_refuse_number) (sc := defScope s_Reader_refuse_number) (by decide +kernel)) (fun _ _ _ _ _ => (pg_name (i := 5) nd rfl (Or.inl rfl))) (fun _ _ _ _ _ => (pts_one (pt_chain op_le_str op_le_str (pe_slice sl_str (pv 1) po_none (po_some (pv 4))) (pe_op op_add_str (pv 3) (pv 5)) (pe_slice sl_str (pv 2) po_none (po_some (pv 4)))))) (fun _ _ _ _ _ => (pv 5))) pa_nil)) iop_add_str))))), ?_⟩
    have hlol : lo.length = (TL.tl lo).length := TL.len_tl lo
    have hhil : hi.length = (TL.tl hi).length := TL.len_tl hi
    have hzl : z.length = (TL.tl z).length := TL.len_tl z
    have hlos : lo.length ≤ sizeLine := by rw [sizeLine_eq]; omega
    have hhis : hi.length ≤ sizeLine := by rw [sizeLine_eq]; omega
    have hF : (TL.tl FIGS).length = 10 := by decide +kernel
    have hFat : ∀ i, i < 10 → (TL.tl FIGS).getD i 0 = 48 + i := by decide +kernel
    dsimp only [gName, tSeq]
    refine ⟨.str lo, rfl, lo, rfl, hlos, _, 1, rfl, rfl, 1, _, rfl, ⟨by decide, by decide, by omega, by omega⟩, for_it walk_range (fun i σ H' => ∃ (y4 : Option V) (fd : Str), σ = [some (.ref a), some (.str lo), some (.str hi), some (.str fd), y4, none] ∧ TL.tl fd = ((TL.tl z).drop n).take i ∧ SameBut a H H' ∧ Rdr H' C a dx z (n + i) ∧ n + i ≤ z.length ∧ ∀ k, k < i → okAt (TL.tl lo) (TL.tl hi) ((TL.tl z).drop n) k = true) ⟨none, Str.ofString "", rfl, (show TL.tl (Str.ofString "") = [] by decide +kernel), SameBut.refl _ _, e, hn, fun _ h => absurd h (Nat.not_lt_zero _)⟩ (fun _ _ _ _ _ => trivial) (fun i x σ H1 H2 hi' hP hy => ?_) (fun σ H1 hP => ?_)⟩
    · obtain ⟨y4, fnd, rfl, hf, sm, eR, hni, hall⟩ := hP
      obtain ⟨rfl, rfl⟩ := hy
      have hil : i < L := by omega
      dsimp only [gName]
      rw [show (1 : Int) + (i : Int) = ((i + 1 : Nat) : Int) by omega]
      have hfl : fnd.length ≤ 4 := by rw [TL.len_tl, hf, List.length_take]; omega
      let b : Nat → Bool := fun j => !decide (((TL.tl z).drop n).take i ++ [48 + j] < (TL.tl lo).take (i + 1)) && !decide ((TL.tl hi).take (i + 1) < ((TL.tl z).drop n).take i ++ [48 + j])
      have hcl : TL.tl (cutS lo none (some ((i + 1 : Nat) : Int))) = (TL.tl lo).take (i + 1) := by rw [cutS_to]
      have hch : TL.tl (cutS hi none (some ((i + 1 : Nat) : Int))) = (TL.tl hi).take (i + 1) := by rw [cutS_to]
      have hfs : ∀ j, j < 10 → TL.tl (fnd ++ (⟨#[(TL.tl FIGS).getD j 0]⟩ : Str)) = ((TL.tl z).drop n).take i ++ [48 + j] := fun j hj => by
        rw [TL.tl_append, hf, hFat j hj]
      have hnx : ∀ c, (TL.tl z)[n + i]? = some c → ((TL.tl z).drop n).take (i + 1) = ((TL.tl z).drop n).take i ++ [c] := fun c hc => by
        rw [List.take_add_one, List.getElem?_drop, hc]
        rfl
      have hmem : ∀ c, c ∈ ((List.range 10).filter b).map (fun j => (TL.tl FIGS).getD j 0) ↔ (48 ≤ c ∧ c ≤ 57) ∧ b (c - 48) = true := fun c => by
        rw [List.mem_map]
        constructor
        · rintro ⟨j, hj, rfl⟩
          obtain ⟨h1, h2⟩ := List.mem_filter.mp hj
          have h1 := List.mem_range.mp h1
          rw [hFat j h1, show 48 + j - 48 = j by omega]
          exact ⟨by omega, h2⟩
        · rintro ⟨h1, h2⟩
          exact ⟨c - 48, List.mem_filter.mpr ⟨List.mem_range.mpr (by omega), h2⟩, by rw [hFat _ (by omega)]; omega⟩
      have hok : nextIn (TL.tl z) (n + i) (((List.range 10).filter b).map (fun j => (TL.tl FIGS).getD j 0)) = okAt (TL.tl lo) (TL.tl hi) ((TL.tl z).drop n) i := by
        unfold nextIn okAt
        rw [List.getElem?_drop]
        cases hc : (TL.tl z)[n + i]? with
        | none => rfl
        | some c =>
          dsimp only
          rw [hnx c hc]
          by_cases hr : 48 ≤ c ∧ c ≤ 57
          · rw [decide_eq_true hr, Bool.true_and]
            have : (!decide (((TL.tl z).drop n).take i ++ [c] < (TL.tl lo).take (i + 1)) && !decide ((TL.tl hi).take (i + 1) < ((TL.tl z).drop n).take i ++ [c])) = b (c - 48) := by
              show _ = (!decide (((TL.tl z).drop n).take i ++ [48 + (c - 48)] < _) && !decide (_ < ((TL.tl z).drop n).take i ++ [48 + (c - 48)]))
              rw [show 48 + (c - 48) = c by omega]
            rw [this, Bool.eq_iff_iff, decide_eq_true_eq, hmem]
            exact ⟨fun h => h.2, fun h => ⟨hr, h⟩⟩
          · rw [decide_eq_false hr, Bool.false_and, decide_eq_false (fun h => hr ((hmem c).mp h).1)]
      refine ⟨.str fnd, rfl, .ref a, rfl, a, dx, _, rfl, eR, rfl, FIGS, rfl, fun D hD => lc_filt (fun j => oneV ((TL.tl FIGS).getD j 0)) (fun j => oneV ((TL.tl FIGS).getD j 0)) b walk_strF (fun _ _ => trivial) hD (by rw [hF, sizeLine_eq]; decide) (fun j H3 Q1 hj s3 q1 => ?_) (fun j H3 Q1 hj s3 _ q1 => ⟨_, rfl, q1 _ (Same.refl _)⟩) (fun H3 s3 e3 => ?_)⟩
      · rw [hF] at hj
        have hfj := hfs j hj
        have hlen : fnd.length + (⟨#[(TL.tl FIGS).getD j 0]⟩ : Str).length ≤ sizeLine := by
          show fnd.length + 1 ≤ sizeLine
          rw [sizeLine_eq]
          omega
        refine ⟨.str lo, rfl, .int ((i + 1 : Nat) : Int), rfl, _, rfl, lo, rfl, hlos, .str fnd, rfl, .str ⟨#[(TL.tl FIGS).getD j 0]⟩, rfl, fnd, ⟨#[(TL.tl FIGS).getD j 0]⟩, rfl, rfl, hlen, _, _, rfl, rfl, _, rfl, ?_⟩
        show if (!decide (TL.tl (fnd ++ (⟨#[(TL.tl FIGS).getD j 0]⟩ : Str)) < TL.tl (cutS lo none (some ((i + 1 : Nat) : Int))))) = true then _ else _
        rw [hfj, hcl]
        by_cases h1 : ((TL.tl z).drop n).take i ++ [48 + j] < (TL.tl lo).take (i + 1)
        · rw [decide_eq_true h1]
          refine iteF ⟨false, rfl, ?_⟩
          have : b j = false := by show (!decide _ && _) = false; rw [decide_eq_true h1]; rfl
          rw [← this]
          exact q1 _ (Same.refl _)
        · rw [decide_eq_false h1]
          refine iteT ⟨.str hi, rfl, .int ((i + 1 : Nat) : Int), rfl, _, rfl, hi, rfl, hhis, _, _, rfl, rfl, _, rfl, ?_⟩
          show Q1 (!decide (TL.tl (cutS hi none (some ((i + 1 : Nat) : Int))) < TL.tl (fnd ++ (⟨#[(TL.tl FIGS).getD j 0]⟩ : Str)))) _
          rw [hfj, hch]
          have : b j = !decide ((TL.tl hi).take (i + 1) < ((TL.tl z).drop n).take i ++ [48 + j]) := by show (!decide _ && _) = _; rw [decide_eq_false h1]; rfl
          rw [← this]
          exact q1 _ (Same.refl _)
      · rw [hF] at e3
        refine ⟨a, dx, z, n + i, .ref D, ((List.range 10).filter b).map fun j => (TL.tl FIGS).getD j 0, rfl, s3 _ _ eR, hz, hni, .inr ⟨D, rfl, by rw [e3, List.map_map]; rfl⟩, fun hfa => ?_, fun c hc hcS H4 s4 e4 => ?_⟩
        · exact (hl i hil hall (by rw [← hok]; exact hfa)).at (sm.trans (SameBut.of s3))
        · have hlt := (List.getElem?_eq_some_iff.mp hc).1
          refine ⟨fnd, ⟨#[c]⟩, rfl, rfl, by show fnd.length + 1 ≤ sizeLine; rw [sizeLine_eq]; omega, ?_⟩
          refine ⟨_, fnd ++ ⟨#[c]⟩, rfl, by rw [TL.tl_append, hf, hnx c hc], (sm.trans (SameBut.of s3)).trans s4, e4, by omega, fun k hk => ?_⟩
          by_cases hki : k = i
          · subst hki
            rw [← hok]
            unfold nextIn
            rw [hc]
            exact decide_eq_true hcS
          · exact hall k (by omega)
    · obtain ⟨y4, fnd, rfl, hf, sm, eR, hni, hall⟩ := hP
      rw [show ((lo.length : Nat) + 1 - 1 : Int).toNat = L by omega] at hf eR hall hni
      exact absurd hall hb
/-! ### Reader_number -/
abbrev s_Reader_number : Stmt := clsS 25 7
abbrev N_Reader_number : List Str := ["self", "low", "high", "found"]
abbrev P_Reader_number : List Str := ["self", "low", "high"]
theorem sc_Reader_number : FnScope N_Reader_number ["self", "low", "high"] (defScope s_Reader_number) := ⟨rfl, rfl, rfl, by decide +kernel, rfl, by decide +kernel, by decide +kernel⟩
theorem take_lt : ∀ {k : Nat} {a b : List Nat}, k ≤ a.length → k ≤ b.length → a.take k < b.take k → a < b
  | 0, _, _, _, _, h => by simp at h
  | k + 1, [], _, h, _, _ => by simp at h
  | k + 1, _ :: _, [], _, h, _ => by simp at h
  | k + 1, x :: a, y :: b, h1, h2, h => by
    rw [List.take_succ_cons, List.take_succ_cons, List.cons_lt_cons_iff] at h
    rw [List.cons_lt_cons_iff]
    rcases h with h | ⟨h, h'⟩
    · exact .inl h
    · exact .inr ⟨h, take_lt (Nat.le_of_succ_le_succ h1) (Nat.le_of_succ_le_succ h2) h'⟩
/-- the whole of a number at once, or sign by sign -/
theorem okAt_all {lo hi l : List Nat} {L : Nat} (hlo : lo.length = L) (hhi : hi.length = L) (h1 : 1 ≤ L) :
    (∀ k, k < L → okAt lo hi l k = true) ↔ (l.take L).length = L ∧ ((l.take L).all fun c => decide (48 ≤ c ∧ c ≤ 57)) = true ∧ ¬ l.take L < lo ∧ ¬ hi < l.take L := by
  constructor
  · intro h
    have hlen : (l.take L).length = L := by
      have := h (L - 1) (by omega)
      unfold okAt at this
      cases e : l[L - 1]? with
      | none => rw [e] at this; exact nomatch this
      | some c =>
        have := (List.getElem?_eq_some_iff.mp e).1
        rw [List.length_take]
        omega
    refine ⟨hlen, ?_, ?_⟩
    · rw [List.all_eq_true]
      intro c hc
      obtain ⟨k, hk, rfl⟩ := List.getElem_of_mem hc
      rw [hlen] at hk
      have := h k hk
      unfold okAt at this
      rw [List.getElem_take]
      rw [List.length_take] at hlen
      rw [List.getElem?_eq_getElem (by omega)] at this
      exact (Bool.and_eq_true_iff.mp this).1
    · have := h (L - 1) (by omega)
      unfold okAt at this
      cases e : l[L - 1]? with
      | none => rw [e] at this; exact nomatch this
      | some c =>
        rw [e] at this
        obtain ⟨_, g⟩ := Bool.and_eq_true_iff.mp this
        obtain ⟨g1, g2⟩ := Bool.and_eq_true_iff.mp g
        rw [show L - 1 + 1 = L by omega, List.take_of_length_le (by omega : lo.length ≤ L)] at g1
        rw [show L - 1 + 1 = L by omega, List.take_of_length_le (by omega : hi.length ≤ L)] at g2
        exact ⟨by simpa using g1, by simpa using g2⟩
  · rintro ⟨hlen, hd, g1, g2⟩ k hk
    have hll : L ≤ l.length := by rw [List.length_take] at hlen; omega
    unfold okAt
    rw [List.getElem?_eq_getElem (by omega)]
    dsimp only
    have hm : l[k]'(by omega) ∈ l.take L := by
      have : (l.take L)[k]'(by omega) = l[k]'(by omega) := List.getElem_take
      rw [← this]
      exact List.getElem_mem _
    rw [List.all_eq_true.mp hd _ hm]
    have e1 : ¬ l.take (k + 1) < lo.take (k + 1) := fun h => g1 (take_lt (k := k + 1) (by omega) (by omega) (by rw [List.take_take, show min (k + 1) L = k + 1 by omega]; exact h))
    have e2 : ¬ hi.take (k + 1) < l.take (k + 1) := fun h => g2 (take_lt (k := k + 1) (by omega) (by omega) (by rw [List.take_take, show min (k + 1) L = k + 1 by omega]; exact h))
    rw [decide_eq_false e1, decide_eq_false e2]
    rfl
def sp_numberX (K : PySem.W.Frag) (C A : Addr) : Sp := fun vs H Q E => ∃ (a dx : Addr) (z lo hi : Str) (n L : Nat), vs = [.ref a, .str lo, .str hi] ∧ Rdr H C a dx z n ∧ z.length ≤ 100000 ∧ n ≤ z.length ∧ (TL.tl lo).length = L ∧ (TL.tl hi).length = L ∧ 1 ≤ L ∧ L ≤ 4 ∧
  (∀ j, j < L → (∀ k, k < j → okAt (TL.tl lo) (TL.tl hi) ((TL.tl z).drop n) k = true) → okAt (TL.tl lo) (TL.tl hi) ((TL.tl z).drop n) j = false → Lost H a A (n + j) E) ∧
  ((∀ k, k < L → okAt (TL.tl lo) (TL.tl hi) ((TL.tl z).drop n) k = true) → ∀ H', SameBut a H H' → Rdr H' C a dx z (n + L) → n + L ≤ z.length → Q (.int (NumText.digitsVal (((TL.tl z).drop n).take L) : Nat)) H')
theorem ok_numberX {f fR CA : Addr} {fd fdR : FuncData} (F : Fun K "number" "Reader.number" s_Reader_number f fd) (T : Tx K mg tk dn md) (R : Rc K C) (MX_Reader_refuse_number : DefMX P w K mg base C "refuse_number" 3 fR fdR P_Reader_refuse_number (sp_refuseX K C CA)) : FnOk P w K mg base (L2N.CX P w) 4 f fd P_Reader_number (sp_numberX K C CA) := by
  refine okXN F sc_Reader_number (fun vs H Q E h => ?_) (fun cdv A outer s H vs Q E hr h => ?_)
  · obtain ⟨a, dx, z, lo, hi, n, L, rfl, _⟩ := h
    rfl
  · have nd := sc_Reader_number.nd
    obtain ⟨a, dx, z, lo, hi, n, L, rfl, e, hz, hn, hlo, hhi, h1, h4, hl, q⟩ := h
    refine ⟨_, (pss_cons (ps_set (i := 3) nd rfl (.inl rfl) (pe_slice sl_str (pe_fld (pv 0) rfl) (po_some (pe_fld (pv 0) rfl)) (po_some (pe_op op_add (pe_fld (pv 0) rfl) (pe_callB call_len_str (by rfl) T.n_len (by decide +kernel) (pa_cons (pv 1) pa_nil))))))
      (pss_cons (ps_if (PW.pt (pw_or (pt_cmpR op_lt (pe_callB call_len_str (by rfl) T.n_len (by decide +kernel) (pa_cons (pv 3) pa_nil)) (pe_callB call_len_str (by rfl) T.n_len (by decide +kernel) (pa_cons (pv 1) pa_nil)) (nomark _)) (pw_or (pt_cmpR op_ne (pe_m1 PySem.F.slot_str_strip PySem.F.type_str_strip mt_stripChars (pv 3) (pe_glob (v := .str FIGS) (by rfl) T.m_FIGURES ⟨_, rfl⟩)) pe_str (nomark _)) (pw_or1 (pt_not (pt_chain op_le_str op_le_str (pv 1) (pv 3) (pv 2)))))))
        (pss_one (ps_expr (pe_meth (pv 0) MX_Reader_refuse_number.c MX_Reader_refuse_number.hm MX_Reader_refuse_number.ok (hr.mono (by decide)) MX_Reader_refuse_number.bd .nil (L2N.passes_call (L2N.takes_of rfl rfl rfl rfl) (fun _ _ _ _ h => h)) (pa_cons (pv 1) (pa_cons (pv 2) pa_nil)))))
        pss_nil)
      (PSs.nox (pss_cons (ps_fldaug (pv 0) (pe_callB call_len_str (by rfl) T.n_len (by decide +kernel) (pa_cons (pv 1) pa_nil)) in_add)
      (pss_one (ps_ret (pe_callTy call_int_str (by rfl) T.n_int (by decide +kernel) (pa_cons (pv 3) pa_nil)))))))), ?_⟩
    have hlol : lo.length = (TL.tl lo).length := TL.len_tl lo
    have hzl : z.length = (TL.tl z).length := TL.len_tl z
    have hlos : lo.length ≤ sizeLine := by rw [sizeLine_eq]; omega
    have hzs : z.length ≤ sizeLine := by rw [sizeLine_eq]; omega
    have hA := okAt_all (l := (TL.tl z).drop n) hlo hhi h1
    dsimp only [gName, tSeq]
    refine ⟨.ref a, rfl, a, C, dx, _, _, rfl, e, R.c, R.n_signs, rfl, .ref a, rfl, a, C, dx, _, _, rfl, e, R.c, R.n_at, rfl, _, rfl, .ref a, rfl, a, C, dx, _, _, rfl, e, R.c, R.n_at, rfl, .str lo, rfl, lo, rfl, hlos, _, _, rfl, rfl, _, rfl, z, rfl, hzs, ?_⟩
    dsimp only [gName, tSeq]
    show tIfS _ _ _ _ [some (.ref a), some (.str lo), some (.str hi), some (.str (cutS z (some (n : Int)) (some ((n : Int) + (lo.length : Nat)))))] H
    have hcut : cutS z (some (n : Int)) (some ((n : Int) + (lo.length : Nat))) = SX.S (((TL.tl z).drop n).take L) := by
      rw [show ((n : Int) + (lo.length : Nat)) = ((n + lo.length : Nat) : Int) by omega, cutS_at, show n + lo.length - n = L by omega]
    rw [hcut]
    have hfl : (SX.S (((TL.tl z).drop n).take L)).length = (((TL.tl z).drop n).take L).length := by rw [TL.len_tl]
    have hlen : (((TL.tl z).drop n).take L).length ≤ 4 := by rw [List.length_take]; omega
    generalize hds : ((TL.tl z).drop n).take L = ds at *
    have hfs : (SX.S ds).length ≤ sizeLine := by rw [hfl, sizeLine_eq]; omega
    refine ifT (!decide (∀ k, k < L → okAt (TL.tl lo) (TL.tl hi) ((TL.tl z).drop n) k = true)) (fun k q1 => orT (decide (ds.length < L)) (!(ds.all fun c => decide (48 ≤ c ∧ c ≤ 57)) || !(!decide (ds < TL.tl lo) && !decide (TL.tl hi < ds))) (fun k2 q2 => ⟨.str (SX.S ds), rfl, _, rfl, hfs, .str lo, rfl, lo, rfl, hlos, _, _, rfl, rfl, _, rfl, TellB.eq (decide_eq_decide.mpr (by omega)) q2 _ (Same.refl _)⟩)
      (fun _ H1 k2 s1 q2 => orT (!(ds.all fun c => decide (48 ≤ c ∧ c ≤ 57))) (!(!decide (ds < TL.tl lo) && !decide (TL.tl hi < ds))) (fun k3 q3 => ⟨.str (SX.S ds), rfl, ⟨_, rfl⟩, SX.S ds, FIGS, rfl, rfl, hfs, ?_⟩) (fun _ H2 k3 s2 q3 => notT (!decide (ds < TL.tl lo) && !decide (TL.tl hi < ds)) (fun k4 q4 => ?_) q3) q2) (TellB.eq ?_ q1)) (fun hb H1 s1 => ?_) (fun hb H1 s1 => ?_)
    · refine ⟨rfl, _, rfl, TellB.eq ?_ q3 _ (Same.refl _)⟩
      rw [strip_eq]
      congr 1
      show ds.all _ = ds.all _
      congr 1
      funext d
      have hF : TL.tl FIGS = (List.range 10).map (· + 48) := by decide +kernel
      rw [decide_eq_decide, hF, List.mem_map]
      constructor
      · rintro ⟨i, hi, rfl⟩
        have := List.mem_range.mp hi
        omega
      · intro h
        exact ⟨d - 48, List.mem_range.mpr (by omega), by omega⟩
    · refine ⟨.str lo, rfl, .str (SX.S ds), rfl, lo, SX.S ds, rfl, rfl, _, rfl, ?_⟩
      show if (!decide (ds < TL.tl lo)) = true then _ else _
      by_cases hl1 : ds < TL.tl lo
      · rw [decide_eq_true hl1] at q4 ⊢
        exact iteF ⟨false, rfl, q4 _ (Same.refl _)⟩
      · rw [decide_eq_false hl1] at q4 ⊢
        exact iteT ⟨.str hi, rfl, SX.S ds, hi, rfl, rfl, _, rfl, q4 _ (Same.refl _)⟩
    · rw [Bool.eq_iff_iff]
      simp only [Bool.or_eq_true, Bool.not_eq_true', decide_eq_true_eq, Bool.and_eq_false_iff, decide_eq_false_iff_not, Bool.not_eq_false', hA, hds]
      have hle : ds.length ≤ L := by rw [← hds, List.length_take]; omega
      constructor
      · rintro (h | h | h | h) ⟨g1, g2, g3, g4⟩
        · omega
        · rw [g2] at h; cases h
        · exact g3 h
        · exact g4 h
      · intro h
        by_cases g1 : ds.length = L
        · cases g2 : (ds.all fun c => decide (48 ≤ c ∧ c ≤ 57)) with
          | false => exact .inr (.inl rfl)
          | true =>
            by_cases g3 : ds < TL.tl lo
            · exact .inr (.inr (.inl g3))
            · by_cases g4 : TL.tl hi < ds
              · exact .inr (.inr (.inr g4))
              · exact absurd ⟨g1, g2, g3, g4⟩ h
        · exact .inl (by omega)
    · have hb' : ¬ ∀ k, k < L → okAt (TL.tl lo) (TL.tl hi) ((TL.tl z).drop n) k = true := by simpa using hb
      exact ⟨.ref a, rfl, a, dx, _, rfl, s1 _ _ e, rfl, .str lo, rfl, .str hi, rfl, a, dx, z, lo, hi, n, L, rfl, s1 _ _ e, hz, hn, hlo, hhi, h1, h4, fun j g1 g2 g3 => (hl j g1 g2 g3).at (SameBut.of s1), hb'⟩
    · have hb' : ∀ k, k < L → okAt (TL.tl lo) (TL.tl hi) ((TL.tl z).drop n) k = true := by simpa using hb
      obtain ⟨g1, g2, _, _⟩ := hA.mp hb'
      dsimp only [tNext, tSeq]
      have e1 := s1 _ _ e
      refine ⟨.ref a, rfl, a, C, dx, _, _, rfl, e1, R.c, R.n_at, rfl, .str lo, rfl, lo, rfl, hlos, _, _, rfl, rfl, dx, _, e1, (by show 2 < 1000; decide), ?_⟩
      have hall : (ds.all fun c => decide (48 ≤ c) && decide (c ≤ 57)) = true := by
        rw [List.all_eq_true] at g2 ⊢
        intro c hc
        have := of_decide_eq_true (g2 c hc)
        rw [decide_eq_true this.1, decide_eq_true this.2]
        rfl
      have hne : ds ≠ [] := fun h => by rw [h] at g1; simp at g1; omega
      have hnl : n + L ≤ z.length := by rw [← hds, List.length_take, List.length_drop] at g1; omega
      refine ⟨.str (SX.S ds), rfl, SX.S ds, _, rfl, SX.int_S hall hne (by omega), by rw [hfl]; omega, q hb' _ ((SameBut.of s1).trans (SameBut.upd _ _ _)) ?_ hnl⟩
      unfold Rdr
      rw [upd_same, ← hlo, ← hlol]
      rfl
end
end K12

namespace K12
open PySem PySem.Spec PyProof.Rows L2 LH
section
variable {P : Program} {w : World} {K : PySem.W.Frag} {mg : Str → Option Value} {base : Heap} {tk : Nat → Tok} {ca : Nat → Addr} {dn md C : Addr}
/-! ### the calendar -/
def leapB (y : Int) : Bool := decide (y % 400 = 0) || (decide (y % 4 = 0) && decide (0 < y % 100))
def daysIn (y m : Int) : Int := if m = 2 then (if leapB y = true then 29 else 28) else if m = 4 ∨ m = 6 ∨ m = 9 ∨ m = 11 then 30 else 31
/-- days of the year ahead of a month -/
def daysTo (y : Int) : Nat → Int
  | 0 => 0
  | k + 1 => daysTo y k + daysIn y ((k : Nat) + 1)
def daysA (y m : Int) : Int := (y - 1) * 365 + ((y - 1) / 4 - (y - 1) / 100 + (y - 1) / 400) + daysTo y (m - 1).toNat
/-! ### has_leap_day -/
abbrev s_has_leap_day : Stmt := topS 40
abbrev N_has_leap_day : List Str := ["year"]
abbrev P_has_leap_day : List Str := ["year"]
theorem sc_has_leap_day : FnScope N_has_leap_day ["year"] (defScope s_has_leap_day) := ⟨rfl, rfl, rfl, by decide +kernel, rfl, by decide +kernel, by decide +kernel⟩
def sp_leap : Sp := fun vs H Q _ => ∃ y : Int, vs = [.int y] ∧ Tell H (.bl (leapB y)) Q
theorem ok_leap {f : Addr} {fd : FuncData} {k : Nat} (F : Fun K "has_leap_day" "has_leap_day" s_has_leap_day f fd) : FnOk P w K mg base CX0 (k + 1) f fd P_has_leap_day sp_leap := by
  refine F.ok sc_has_leap_day (fun vs H Q E h => ?_) (fun cdv A outer s H vs Q E hr h => ?_)
  · obtain ⟨y, rfl, _⟩ := h
    rfl
  · have nd := sc_has_leap_day.nd
    obtain ⟨y, rfl, q⟩ := h
    refine ⟨_, (pss_one (ps_ret (pe_or (pe_cmpR op_eq (pe_op op_mod (pv 0) pe_int) pe_int (nomark _)) (pe_one (pe_and (pe_cmpR op_eq (pe_op op_mod (pv 0) pe_int) pe_int (nomark _)) (pe_one (pe_cmpR op_gt (pe_op op_mod (pv 0) pe_int) pe_int (nomark _)))))))), ?_⟩
    refine orV (decide (y % 400 = 0)) (decide (y % 4 = 0) && decide (0 < y % 100)) (fun Q' q' => ⟨_, rfl, _, 400, rfl, rfl, (show (0 : Int) < 400 by decide), rfl, ?_⟩) (fun _ H2 Q' s2 q' => andV (decide (y % 4 = 0)) (decide (0 < y % 100)) (fun Q2 q2 => ⟨_, rfl, _, 4, rfl, rfl, (show (0 : Int) < 4 by decide), rfl, ?_⟩) (fun _ H3 Q2 s3 q2 => ⟨_, rfl, _, 100, rfl, rfl, (show (0 : Int) < 100 by decide), _, 0, rfl, rfl, q2 _ (Same.refl _)⟩) q') q
    · rw [vint_dec]; exact q' _ (Same.refl _)
    · rw [vint_dec]; exact q2 _ (Same.refl _)
/-! ### days_in -/
abbrev s_days_in : Stmt := topS 39
abbrev N_days_in : List Str := ["year", "month"]
abbrev P_days_in : List Str := ["year", "month"]
theorem sc_days_in : FnScope N_days_in ["year", "month"] (defScope s_days_in) := ⟨rfl, rfl, rfl, by decide +kernel, rfl, by decide +kernel, by decide +kernel⟩
theorem md_at : ∀ m : Fin 13, 1 ≤ m.val → monthDays[m.val - 1]? = some (if m.val = 2 then 28 else if m.val = 4 ∨ m.val = 6 ∨ m.val = 9 ∨ m.val = 11 then 30 else 31) := by decide
def sp_daysin : Sp := fun vs H Q _ => ∃ (y : Int) (m : Nat), vs = [.int y, .int (m : Nat)] ∧ 1 ≤ m ∧ m ≤ 12 ∧ Tell H (.int (daysIn y m)) Q
theorem ok_daysin {f fL : Addr} {fd fdL : FuncData} (F : Fun K "days_in" "days_in" s_days_in f fd) (T : Tx K mg tk dn md) (D_has_leap_day : Def P w K mg base "has_leap_day" 1 fL fdL P_has_leap_day sp_leap) : FnOk P w K mg base CX0 2 f fd P_days_in sp_daysin := by
  refine F.ok sc_days_in (fun vs H Q E h => ?_) (fun cdv A outer s H vs Q E hr h => ?_)
  · obtain ⟨y, m, rfl, _⟩ := h
    rfl
  · have nd := sc_days_in.nd
    obtain ⟨y, m, rfl, h1, h2, q⟩ := h
    refine ⟨_, (pss_one (ps_ret (pe_op op_add (pe_ix (ixT K) (pe_glob (v := .ref md) (by rfl) T.m_MONTH_DAYS rfl) (pe_op op_sub (pv 1) pe_int) (fun _ _ => rfl)) (pe_ifExp (PW.pt (pw_and (pt_cmpR op_eq (pv 1) pe_int (nomark _)) (pw_and1 (pt_val (pe_def D_has_leap_day (hr.mono (by decide)) (pa_cons (pv 0) pa_nil)))))) pe_int pe_int)))), ?_⟩
    have hm := md_at ⟨m, by omega⟩ h1
    dsimp only at hm
    have hat : atI (monthDays.map V.int) ((m : Nat) - 1 : Int) = some (.int (if m = 2 then 28 else if m = 4 ∨ m = 6 ∨ m = 9 ∨ m = 11 then 30 else 31)) := by
      rw [show ((m : Nat) : Int) - 1 = ((m - 1 : Nat) : Int) by omega]
      refine atI_nat ?_
      rw [List.getElem?_map, hm]
      rfl
    refine ⟨.int m, rfl, _, 1, rfl, rfl, md, _, _, _, rfl, rfl, T.t_MONTH_DAYS _, hat, ?_⟩
    refine andT (decide ((m : Int) = 2)) (leapB y) (fun k q1 => ⟨.int m, rfl, rfl, _, rfl, ?_⟩) (fun _ H1 k s1 q1 => ⟨.int y, rfl, y, rfl, fun H2 s2 => ⟨_, rfl, q1 _ s2⟩⟩) (fun H1 s1 => ?_)
    · rw [vint_dec]
      exact q1 _ (Same.refl _)
    have hq := q H1 s1
    unfold daysIn at hq
    cases hb : (decide ((m : Int) = 2) && leapB y) with
    | true =>
      obtain ⟨e2, el⟩ := Bool.and_eq_true_iff.mp hb
      have e2 := of_decide_eq_true e2
      have e3 : m = 2 := by omega
      refine iteT ⟨_, 1, rfl, rfl, ?_⟩
      rw [if_pos e2, if_pos el] at hq
      rw [if_pos e3]
      exact hq
    | false =>
      refine iteF ⟨_, 0, rfl, rfl, ?_⟩
      by_cases e2 : m = 2
      · have : leapB y = false := by
          cases h : leapB y with
          | false => rfl
          | true => rw [h, decide_eq_true (by omega : (m : Int) = 2)] at hb; exact nomatch hb
        rw [if_pos (by omega), this] at hq
        rw [if_pos e2]
        exact hq
      · rw [if_neg (by omega)] at hq
        rw [if_neg e2]
        by_cases e4 : m = 4 ∨ m = 6 ∨ m = 9 ∨ m = 11
        · rw [if_pos (by omega)] at hq
          rw [if_pos e4]
          exact hq
        · rw [if_neg (by omega)] at hq
          rw [if_neg e4]
          exact hq
/-! ### days_ahead -/
abbrev s_days_ahead : Stmt := topS 38
abbrev N_days_ahead : List Str := ["year", "month", "years", "leap_days"]
abbrev P_days_ahead : List Str := ["year", "month"]
theorem sc_days_ahead : FnScope N_days_ahead ["year", "month"] (defScope s_days_ahead) := ⟨rfl, rfl, rfl, by decide +kernel, rfl, by decide +kernel, by decide +kernel⟩
def sp_daysA : Sp := fun vs H Q _ => ∃ (y : Int) (m : Nat), vs = [.int y, .int (m : Nat)] ∧ 1 ≤ m ∧ m ≤ 13 ∧ Tell H (.int (daysA y m)) Q
theorem ok_daysA {f fL : Addr} {fd fdL : FuncData} (F : Fun K "days_ahead" "days_ahead" s_days_ahead f fd) (T : Tx K mg tk dn md) (D_has_leap_day : Def P w K mg base "has_leap_day" 1 fL fdL P_has_leap_day sp_leap) : FnOk P w K mg base CX0 3 f fd P_days_ahead sp_daysA := by
  refine F.ok sc_days_ahead (fun vs H Q E h => ?_) (fun cdv A outer s H vs Q E hr h => ?_)
  · obtain ⟨y, m, rfl, _⟩ := h
    rfl
  · have nd := sc_days_ahead.nd
    obtain ⟨y, m, rfl, h1, h2, q⟩ := h
    refine ⟨_, (pss_cons (ps_set (i := 2) nd rfl (.inl rfl) (pe_op op_sub (pv 0) pe_int))
      (pss_cons (ps_set (i := 3) nd rfl (.inl rfl) (pe_op op_add (pe_op op_sub (pe_op op_fdiv (pv 2) pe_int) (pe_op op_fdiv (pv 2) pe_int)) (pe_op op_fdiv (pv 2) pe_int)))
      (pss_cons (ps_if (PW.pt (pw_and (pt_cmpR op_gt (pv 1) pe_int (nomark _)) (pw_and1 (pt_val (pe_def D_has_leap_day (hr.mono (by decide)) (pa_cons (pv 0) pa_nil))))))
        (pss_one (ps_aug (i := 3) nd rfl (.inl rfl) pe_int ip_add))
        pss_nil)
      (pss_one (ps_ret (pe_op op_add (pe_op op_add (pe_op op_mul (pv 2) pe_int) (pv 3)) (pe_callB (sumT K (by rfl)) (by rfl) T.n_sum (by decide +kernel) (pa_cons (pe_slice (slA K) (pe_glob (v := .ref md) (by rfl) T.m_MONTH_DAYS rfl) po_none (po_some (pe_op op_sub (pv 1) pe_int))) pa_nil)))))))), ?_⟩
    dsimp only [gName, tSeq]
    refine ⟨.int y, rfl, _, 1, rfl, rfl, ?_⟩
    refine ⟨_, rfl, _, 4, rfl, rfl, ⟨by decide, by decide⟩, _, rfl, _, 100, rfl, rfl, ⟨by decide, by decide⟩, _, _, rfl, rfl, _, rfl, _, 400, rfl, rfl, ⟨by decide, by decide⟩, _, _, rfl, rfl, ?_⟩
    have hsum : ((monthDays.take (m - 1)).sum : Int) + (if (decide (2 < (m : Int)) && leapB y) = true then 1 else 0) = daysTo y (m - 1) := by
      have : m = 1 ∨ m = 2 ∨ m = 3 ∨ m = 4 ∨ m = 5 ∨ m = 6 ∨ m = 7 ∨ m = 8 ∨ m = 9 ∨ m = 10 ∨ m = 11 ∨ m = 12 ∨ m = 13 := by omega
      cases hb : leapB y <;> rcases this with rfl | rfl | rfl | rfl | rfl | rfl | rfl | rfl | rfl | rfl | rfl | rfl | rfl <;> simp [daysTo, daysIn, hb, monthDays]
    have fin : ∀ (H1 : Hp) (L : Int), Same H H1 → L = ((y - 1) / 4 - (y - 1) / 100 + (y - 1) / 400) + (if (decide (2 < (m : Int)) && leapB y) = true then 1 else 0) → ∀ v : Int, v = (y - 1) * 365 + L + (monthDays.take (m - 1)).sum → ∀ H2, Same H1 H2 → Q (.int v) H2 := fun H1 L s1 eL v ev H2 s2 => by
      have := q H2 (s1.trans s2)
      unfold daysA at this
      rw [show (((m : Nat) : Int) - 1).toNat = m - 1 by omega, ← hsum] at this
      rw [ev, eL]
      rw [show (y - 1) * 365 + ((y - 1) / 4 - (y - 1) / 100 + (y - 1) / 400 + if (decide (2 < (m : Int)) && leapB y) = true then 1 else 0) + (monthDays.take (m - 1)).sum = (y - 1) * 365 + ((y - 1) / 4 - (y - 1) / 100 + (y - 1) / 400) + ((monthDays.take (m - 1)).sum + if (decide (2 < (m : Int)) && leapB y) = true then 1 else 0) by omega]
      exact this
    have hcut : cutV (monthDays.map V.int) none (some (((m : Nat) : Int) - 1)) = (monthDays.take (m - 1)).map V.int := by
      rw [show ((m : Nat) : Int) - 1 = ((m - 1 : Nat) : Int) by omega]
      unfold cutV
      rw [HT.sIx_nat, HT.sIx_none, List.map_take, List.length_map]
      show ((monthDays.map V.int).drop 0).take (min (m - 1) 12 - 0) = _
      rw [List.drop_zero, show min (m - 1) 12 - 0 = m - 1 by omega]
    dsimp only [gName, tSeq]
    show tIfS _ _ _ _ [some (.int y), some (.int m), some (.int (y - 1)), some (.int ((y - 1) / 4 - (y - 1) / 100 + (y - 1) / 400))] H
    have hsq : ∀ H, SqT K H md (monthDays.map V.int) := T.t_MONTH_DAYS
    have ret : ∀ (H1 : Hp) (L : Int), Same H H1 → L = ((y - 1) / 4 - (y - 1) / 100 + (y - 1) / 400) + (if (decide (2 < (m : Int)) && leapB y) = true then 1 else 0) →
        tRet (tOp (rI0 fun i j => V.int (i + j)) (tOp (rI0 fun i j => V.int (i + j)) (tOp (rI CMul fun i j => V.int (i * j)) (tVar 2) (tC (V.int 365))) (tVar 3))
          (tCB (rSumT K) (tCons (tSl (rSlA K) (tC (V.ref md)) tNoPart (tPart (tOp (rI0 fun i j => V.int (i - j)) (tVar 1) (tC (V.int 1))))) tNil))) { nx := fun x H' => Q V.non H', rt := Q } [some (.int y), some (.int m), some (.int (y - 1)), some (.int L)] H1 := fun H1 L s1 eL => by
      refine ⟨_, rfl, _, 365, rfl, rfl, .inr ⟨by decide, by decide⟩, _, rfl, _, _, rfl, rfl, .int m, rfl, _, 1, rfl, rfl, _, rfl, md, _, rfl, hsq _, fun hw => ?_, fun _ p np => ?_⟩
      · have h13 : m = 13 := by
          have := hw.2
          rw [show ((m : Nat) : Int) - 1 = ((m - 1 : Nat) : Int) by omega, HT.sIx_nat, List.length_map] at this
          have h12 : monthDays.length = 12 := rfl
          omega
        subst h13
        exact ⟨md, monthDays, rfl, hsq _, _, _, rfl, rfl, fin _ _ s1 eL _ rfl _ (Same.refl _)⟩
      · refine ⟨p, monthDays.take (m - 1), rfl, ?_, _, _, rfl, rfl, fin _ _ s1 eL _ rfl _ (same_upd np)⟩
        rw [hcut]
        exact .inl (.inl upd_same)
    refine ifT (decide (2 < (m : Int)) && leapB y) (fun k q1 => andT (decide (2 < (m : Int))) (leapB y) (fun k2 q2 => ⟨.int m, rfl, _, _, rfl, rfl, _, rfl, q2 _ (Same.refl _)⟩) (fun _ H1 k2 s1 q2 => ⟨.int y, rfl, y, rfl, fun H2 s2 => ⟨_, rfl, q2 _ s2⟩⟩) q1) (fun hb H1 s1 => ?_) (fun hb H1 s1 => ?_)
    · refine ⟨_, rfl, _, 1, rfl, rfl, ?_⟩
      exact ret _ _ s1 (by rw [hb]; rfl)
    · dsimp only [tNext, tSeq]
      exact ret _ _ s1 (by rw [hb]; simp)
/-! ### day_name -/
abbrev s_day_name : Stmt := topS 37
abbrev N_day_name : List Str := ["day"]
abbrev P_day_name : List Str := ["day"]
theorem sc_day_name : FnScope N_day_name ["day"] (defScope s_day_name) := ⟨rfl, rfl, rfl, by decide +kernel, rfl, by decide +kernel, by decide +kernel⟩
def sp_dayname : Sp := fun vs H Q _ => ∃ d : Int, vs = [.int d] ∧ Tell H (.str (dayNames.getD (d % 7).toNat Str.empty)) Q
theorem ok_dayname {f : Addr} {fd : FuncData} {k : Nat} (F : Fun K "day_name" "day_name" s_day_name f fd) (T : Tx K mg tk dn md) : FnOk P w K mg base CX0 (k + 1) f fd P_day_name sp_dayname := by
  refine F.ok sc_day_name (fun vs H Q E h => ?_) (fun cdv A outer s H vs Q E hr h => ?_)
  · obtain ⟨d, rfl, _⟩ := h
    rfl
  · have nd := sc_day_name.nd
    obtain ⟨d, rfl, q⟩ := h
    refine ⟨_, (pss_one (ps_ret (pe_ix (ixT K) (pe_glob (v := .ref dn) (by rfl) T.m_DAY_NAMES rfl) (pe_op op_mod (pv 0) (pe_callB (cLen K) (by rfl) T.n_len (by decide +kernel) (pa_cons (pe_glob (v := .ref dn) (by rfl) T.m_DAY_NAMES rfl) pa_nil))) (fun _ _ => rfl)))), ?_⟩
    have h0 := Int.emod_nonneg d (by decide : (7 : Int) ≠ 0)
    have h7 := Int.emod_lt_of_pos d (by decide : (0 : Int) < 7)
    have hat : atI (dayNames.map V.str) (d % 7) = some (.str (dayNames.getD (d % 7).toNat Str.empty)) := by
      conv => lhs; rw [show d % 7 = ((d % 7).toNat : Int) by omega]
      have hl : (d % 7).toNat < dayNames.length := by show _ < 7; omega
      refine atI_nat ?_
      rw [List.getElem?_map, List.getElem?_eq_getElem hl, List.getD_eq_getElem?_getD, List.getElem?_eq_getElem hl]
      rfl
    exact ⟨.int d, rfl, dn, _, rfl, .inr (T.t_DAY_NAMES _), _, 7, rfl, rfl, (show (0 : Int) < 7 by decide), dn, _, _, _, rfl, rfl, T.t_DAY_NAMES _, hat, q _ (Same.refl _)⟩
end
end K12

namespace K12
open PySem PySem.Spec PyProof.Rows L2 LH
section
variable {P : Program} {w : World} {K : PySem.W.Frag} {mg : Str → Option Value} {base : Heap} {tk : Nat → Tok} {ca : Nat → Addr} {dn md C : Addr}
def two (n : Nat) : List Nat := [48 + n / 10, 48 + n % 10]
def four (n : Nat) : List Nat := [48 + n / 1000, 48 + n / 100 % 10, 48 + n / 10 % 10, 48 + n % 10]
def aheadL (a : Int) : List Nat := [if a < 0 then 45 else 43] ++ two (a.natAbs / 60) ++ two (a.natAbs % 60)
/-! ### the calendar's arithmetic -/
def leapI (y : Int) : Int := if leapB y = true then 1 else 0
theorem leapI_val (y : Int) : leapI y = y / 4 - y / 100 + y / 400 - ((y - 1) / 4 - (y - 1) / 100 + (y - 1) / 400) := by
  unfold leapI leapB
  by_cases h4 : y % 4 = 0 <;> by_cases h1 : y % 100 = 0 <;> by_cases h400 : y % 400 = 0 <;> simp [h4, h1, h400] <;> first | omega | (split <;> omega)
theorem leapI_01 (y : Int) : leapI y = 0 ∨ leapI y = 1 := by unfold leapI; split <;> simp
theorem daysIn_val (y m : Int) : daysIn y m = if m = 2 then 28 + leapI y else if m = 4 ∨ m = 6 ∨ m = 9 ∨ m = 11 then 30 else 31 := by
  unfold daysIn leapI
  split
  · split <;> rfl
  · rfl
theorem daysIn_ge (y m : Int) : 28 ≤ daysIn y m ∧ daysIn y m ≤ 31 := by
  rw [daysIn_val]
  have := leapI_01 y
  split
  · omega
  · split <;> omega
theorem daysTo_val (y : Int) : ∀ m : Nat, 1 ≤ m → m ≤ 13 → daysTo y (m - 1) = if m = 1 then 0 else if m = 2 then 31 else if m = 13 then 365 + leapI y else (153 * ((m : Int) - 3) + 2) / 5 + 59 + leapI y := by
  intro m h1 h2
  have h : m = 1 ∨ m = 2 ∨ m = 3 ∨ m = 4 ∨ m = 5 ∨ m = 6 ∨ m = 7 ∨ m = 8 ∨ m = 9 ∨ m = 10 ∨ m = 11 ∨ m = 12 ∨ m = 13 := by omega
  rcases h with rfl | rfl | rfl | rfl | rfl | rfl | rfl | rfl | rfl | rfl | rfl | rfl | rfl <;> simp [daysTo, daysIn_val] <;> omega
theorem daysA_val (y : Int) (m : Nat) : daysA y m = (y - 1) * 365 + ((y - 1) / 4 - (y - 1) / 100 + (y - 1) / 400) + daysTo y (m - 1) := by
  unfold daysA
  rw [show (((m : Nat) : Int) - 1).toNat = m - 1 by omega]
theorem daysA_succ (y : Int) (k : Nat) (h : 1 ≤ k) : daysA y (k + 1 : Nat) = daysA y k + daysIn y k := by
  rw [daysA_val, daysA_val]
  obtain ⟨j, rfl⟩ : ∃ j, k = j + 1 := ⟨k - 1, by omega⟩
  simp only [Nat.add_sub_cancel, daysTo]
  rw [show ((j + 1 : Nat) : Int) = (j : Int) + 1 by omega]
  omega
theorem daysA_mono (y : Int) {k m : Nat} (h1 : 1 ≤ k) (h : k ≤ m) : daysA y k ≤ daysA y m := by
  induction m with
  | zero => omega
  | succ n ih =>
    by_cases e : k = n + 1
    · rw [e]; exact Int.le_refl _
    · have := ih (by omega)
      rw [daysA_succ y n (by omega)]
      have := daysIn_ge y n
      omega
theorem daysA_one (y : Int) : daysA y (1 : Nat) = (y - 1) * 365 + ((y - 1) / 4 - (y - 1) / 100 + (y - 1) / 400) := by rw [daysA_val]; simp [daysTo]
theorem daysA_13 (y : Int) : daysA y (13 : Nat) = daysA (y + 1) (1 : Nat) := by
  rw [daysA_one, daysA_val, daysTo_val y 13 (by decide) (by decide), leapI_val]
  simp
  omega
theorem daysA_years {y1 y2 : Int} (h : y1 ≤ y2) : daysA y1 (1 : Nat) ≤ daysA y2 (1 : Nat) := by
  rw [daysA_one, daysA_one]
  omega
theorem daysA_small {y : Int} (h : 1 ≤ y) : daysA y (1 : Nat) ≤ (y - 1) * 366 ∧ 0 ≤ daysA y (1 : Nat) := by
  rw [daysA_one]
  omega
theorem daysA_in (y : Int) {m d : Nat} (h1 : 1 ≤ m) (h2 : m ≤ 12) (hd : 1 ≤ d) (hd2 : (d : Int) ≤ daysIn y m) : daysA y (1 : Nat) ≤ daysA y m + d - 1 ∧ daysA y m + d - 1 < daysA (y + 1) (1 : Nat) := by
  have a := daysA_mono y (Nat.le_refl 1) h1
  have b := daysA_mono y (show 1 ≤ m + 1 by omega) (show m + 1 ≤ 13 by omega)
  rw [daysA_13, daysA_succ y m h1] at b
  omega
def dateL (y m d : Nat) : List Nat := four y ++ [45] ++ two m ++ [45] ++ two d
/-- a day of the calendar -/
def Date (y m d : Nat) : Prop := 1 ≤ y ∧ y ≤ 9999 ∧ 1 ≤ m ∧ m ≤ 12 ∧ 1 ≤ d ∧ (d : Int) ≤ daysIn y m
def dayNo (y m d : Nat) : Int := daysA y m + d - 1
/-- the signs of a time -/
def timeL (y m d l : Nat) (a : Int) : List Nat := dateL y m d ++ [32] ++ TL.tl (dayNames.getD (dayNo y m d % 7).toNat Str.empty) ++ [32] ++ (two (l / 60) ++ [58] ++ two (l % 60)) ++ [32] ++ aheadL a
end
end K12

namespace K12
open PySem PySem.Spec PyProof.Rows L2 LH
section
variable {P : Program} {w : World} {K : PySem.W.Frag} {mg : Str → Option Value} {base : Heap} {tk : Nat → Tok} {ca : Nat → Addr} {dn md C : Addr}
/-! ### readers as functions: the place that is astray, or what was read and where it ends -/
def oneR (S l : List Nat) (n : Nat) : Except Nat (Nat × Nat) := match l[n]? with
  | some c => if c ∈ S then .ok (c, n + 1) else .error n
  | none => .error n
def wordR (w l : List Nat) (n : Nat) : Except Nat Nat := match mis w (l.drop n) with
  | some j => .error (n + j)
  | none => .ok (n + w.length)
def numR (lo hi l : List Nat) (n : Nat) : Except Nat (Nat × Nat) := match (List.range lo.length).find? (fun j => !okAt lo hi (l.drop n) j) with
  | some j => .error (n + j)
  | none => .ok (NumText.digitsVal ((l.drop n).take lo.length), n + lo.length)
theorem find_range {p : Nat → Bool} : ∀ {L j : Nat}, j < L → (∀ k, k < j → p k = false) → p j = true → (List.range L).find? p = some j := by
  intro L j hj hk hp
  rw [List.find?_range_eq_some]
  exact ⟨hp, List.mem_range.mpr hj, fun k hk' => by rw [hk k hk']; rfl⟩
theorem numR_err {lo hi l : List Nat} {n j : Nat} (hj : j < lo.length) (hk : ∀ k, k < j → okAt lo hi (l.drop n) k = true) (hb : okAt lo hi (l.drop n) j = false) : numR lo hi l n = .error (n + j) := by
  unfold numR
  rw [find_range hj (fun k h => by rw [hk k h]; rfl) (by rw [hb]; rfl)]
theorem numR_ok {lo hi l : List Nat} {n : Nat} (hk : ∀ k, k < lo.length → okAt lo hi (l.drop n) k = true) : numR lo hi l n = .ok (NumText.digitsVal ((l.drop n).take lo.length), n + lo.length) := by
  unfold numR
  rw [List.find?_eq_none.mpr (fun k h => by rw [hk k (List.mem_range.mp h)]; decide)]
/-- what is read, or astray -/
def Got (H : Hp) (C A a dx : Addr) (z : Str) (E : XK) {α : Type} (f : α → V) (Q : VK) : Except Nat (α × Nat) → Prop
  | .error j => Lost H a A j E
  | .ok (v, m) => ∀ H', SameBut a H H' → Rdr H' C a dx z m → m ≤ z.length → Q (f v) H'
def sp_oneR (K : PySem.W.Frag) (C A : Addr) : Sp := fun vs H Q E => ∃ (a dx : Addr) (z : Str) (n : Nat) (y : V) (S : List Nat), vs = [.ref a, y] ∧ Rdr H C a dx z n ∧ z.length ≤ 100000 ∧ n ≤ z.length ∧ Ch K H y S ∧ Got H C A a dx z E oneV Q (oneR S (TL.tl z) n)
theorem ok_oneR {f : Addr} {fd : FuncData} {A : Addr} {k : Nat} (F : FnOk P w K mg base (L2N.CX P w) k f fd P_Reader_one_of (sp_oneX K C A)) : FnOk P w K mg base (L2N.CX P w) k f fd P_Reader_one_of (sp_oneR K C A) := F.imp fun vs H Q E h => by
  obtain ⟨a, dx, z, n, y, S, rfl, e, hz, hn, hy, g⟩ := h
  have hzl : z.length = (TL.tl z).length := TL.len_tl z
  unfold oneR at g
  refine ⟨a, dx, z, n, y, S, rfl, e, hz, hn, hy, fun hf => ?_, fun c hc hcS => ?_⟩
  · unfold nextIn at hf
    cases hc : (TL.tl z)[n]? with
    | none => rw [hc] at g; exact g
    | some c =>
      rw [hc] at g hf
      dsimp only at g hf
      rw [if_neg (of_decide_eq_false hf)] at g
      exact g
  · rw [hc] at g
    dsimp only at g
    rw [if_pos hcS] at g
    have := (List.getElem?_eq_some_iff.mp hc).1
    exact fun H' s e' => g H' s e' (by omega)
def GotW (H : Hp) (C A a dx : Addr) (z : Str) (E : XK) (Q : VK) : Except Nat Nat → Prop
  | .error j => Lost H a A j E
  | .ok m => ∀ H', SameBut a H H' → Rdr H' C a dx z m → m ≤ z.length → Q .non H'
def sp_wordR (C A : Addr) : Sp := fun vs H Q E => ∃ (a dx : Addr) (z t : Str) (n : Nat), vs = [.ref a, .str t] ∧ Rdr H C a dx z n ∧ z.length ≤ 100000 ∧ t.length ≤ 100000 ∧ n ≤ z.length ∧ GotW H C A a dx z E Q (wordR (TL.tl t) (TL.tl z) n)
theorem ok_wordR {f : Addr} {fd : FuncData} {A : Addr} {k : Nat} (F : FnOk P w K mg base (L2N.CX P w) k f fd P_Reader_word (sp_wordX K C A)) : FnOk P w K mg base (L2N.CX P w) k f fd P_Reader_word (sp_wordR C A) := F.imp fun vs H Q E h => by
  obtain ⟨a, dx, z, t, n, rfl, e, hz, ht, hn, g⟩ := h
  unfold wordR at g
  refine ⟨a, dx, z, t, n, rfl, e, hz, ht, hn, fun j hj => ?_, fun hj => ?_⟩
  · rw [hj] at g; exact g
  · rw [hj] at g; exact g
def sp_numberR (C A : Addr) : Sp := fun vs H Q E => ∃ (a dx : Addr) (z lo hi : Str) (n : Nat), vs = [.ref a, .str lo, .str hi] ∧ Rdr H C a dx z n ∧ z.length ≤ 100000 ∧ n ≤ z.length ∧ (TL.tl hi).length = (TL.tl lo).length ∧ 1 ≤ (TL.tl lo).length ∧ (TL.tl lo).length ≤ 4 ∧ Got H C A a dx z E (fun v : Nat => V.int (v : Nat)) Q (numR (TL.tl lo) (TL.tl hi) (TL.tl z) n)
theorem ok_numberR {f : Addr} {fd : FuncData} {A : Addr} {k : Nat} (F : FnOk P w K mg base (L2N.CX P w) k f fd P_Reader_number (sp_numberX K C A)) : FnOk P w K mg base (L2N.CX P w) k f fd P_Reader_number (sp_numberR C A) := F.imp fun vs H Q E h => by
  obtain ⟨a, dx, z, lo, hi, n, rfl, e, hz, hn, hl, h1, h4, g⟩ := h
  refine ⟨a, dx, z, lo, hi, n, _, rfl, e, hz, hn, rfl, hl, h1, h4, fun j hj hk hb => ?_, fun hk => ?_⟩
  · rw [numR_err hj hk hb] at g; exact g
  · rw [numR_ok hk] at g; exact g
/-- two figures in their bounds -/
theorem lt2 (a b c d : Nat) : [a, b] < [c, d] ↔ a < c ∨ (a = c ∧ b < d) := by
  rw [List.cons_lt_cons_iff, List.cons_lt_cons_iff]
  simp
theorem numR_two {a b : Nat} {l : List Nat} {n v m : Nat} (ha : a < 100) (hb : b < 100) (h : numR [48 + a / 10, 48 + a % 10] [48 + b / 10, 48 + b % 10] l n = .ok (v, m)) : a ≤ v ∧ v ≤ b ∧ m = n + 2 := by
  unfold numR at h
  split at h
  · exact nomatch h
  · rename_i hf
    have hk := List.find?_eq_none.mp hf
    have k0 := hk 0 (List.mem_range.mpr (by show 0 < 2; decide))
    have k1 := hk 1 (List.mem_range.mpr (by show 1 < 2; decide))
    obtain ⟨rfl, rfl⟩ := Prod.mk.inj (Except.ok.inj h)
    simp only [Bool.not_eq_true', Bool.not_eq_false] at k0 k1
    generalize l.drop n = r at *
    match r with
    | [] => exact nomatch k0
    | [c] => exact nomatch k1
    | c0 :: c1 :: r =>
      unfold okAt at k0 k1
      simp only [List.getElem?_cons_zero, List.getElem?_cons_succ, List.take_succ_cons, List.take_zero, Bool.and_eq_true, decide_eq_true_eq, Bool.not_eq_true', decide_eq_false_iff_not, lt2] at k0 k1
      refine ⟨?_, ?_, rfl⟩
      · simp [NumText.digitsVal]
        omega
      · simp [NumText.digitsVal]
        omega
end
end K12

namespace K12
open PySem PySem.Spec PyProof.Rows L2 LH
section
variable {P : Program} {w : World} {K : PySem.W.Frag} {mg : Str → Option Value} {base : Heap} {tk : Nat → Tok} {ca : Nat → Addr} {dn md C : Addr}
theorem tl_dash : TL.tl (Str.ofString "-") = [45] := by decide +kernel
theorem tl_0001 : TL.tl (Str.ofString "0001") = [48, 48, 48, 49] := by decide +kernel
theorem tl_9999 : TL.tl (Str.ofString (toString (9999 : Int))) = [57, 57, 57, 57] := by decide +kernel
theorem tl_01 : TL.tl (Str.ofString "01") = two 1 := by decide +kernel
theorem tl_12 : TL.tl (Str.ofString (toString (12 : Int))) = two 12 := by decide +kernel
theorem tl_days {v : Int} (h1 : 28 ≤ v) (h2 : v ≤ 31) : TL.tl (Str.ofString (toString v)) = two v.toNat := by
  have : v = 28 ∨ v = 29 ∨ v = 30 ∨ v = 31 := by omega
  rcases this with rfl | rfl | rfl | rfl <;> decide +kernel
theorem small_log {i : Int} (h : i.natAbs < 1920) : i.natAbs.log2 < 1920 := Nat.lt_of_le_of_lt (Nat.log2_le_self _) h
/-- a day that is read -/
def dayR (l : List Nat) (n : Nat) : Except Nat (Int × Nat) :=
  match numR [48, 48, 48, 49] [57, 57, 57, 57] l n with
  | .error j => .error j
  | .ok (y, n) => match wordR [45] l n with
    | .error j => .error j
    | .ok n => match numR (two 1) (two 12) l n with
      | .error j => .error j
      | .ok (m, n) => match wordR [45] l n with
        | .error j => .error j
        | .ok n => match numR (two 1) (two (daysIn y m).toNat) l n with
          | .error j => .error j
          | .ok (d, n) => .ok (dayNo y m d, n)
theorem Got.at {H H' : Hp} {C A a dx : Addr} {z : Str} {E : XK} {α : Type} {f : α → V} {Q : VK} {r : Except Nat (α × Nat)} (g : Got H C A a dx z E f Q r) (s : SameBut a H H') : Got H' C A a dx z E f Q r := by
  match r, g with
  | .error j, g => exact Lost.at g s
  | .ok (v, m), g => exact fun H2 s2 e2 hm => g H2 (s.trans s2) e2 hm
/-! ### read_day -/
abbrev s_read_day : Stmt := topS 34
abbrev N_read_day : List Str := ["reader", "year", "month", "day"]
abbrev P_read_day : List Str := ["reader"]
theorem sc_read_day : FnScope N_read_day ["reader"] (defScope s_read_day) := ⟨rfl, rfl, rfl, by decide +kernel, rfl, by decide +kernel, by decide +kernel⟩
def sp_readdayX (C A : Addr) : Sp := fun vs H Q E => ∃ (a dx : Addr) (z : Str) (n : Nat), vs = [.ref a] ∧ Rdr H C a dx z n ∧ z.length ≤ 100000 ∧ n ≤ z.length ∧ Got H C A a dx z E V.int Q (dayR (TL.tl z) n)
theorem ok_readdayX {fN fW fI fA f CA : Addr} {fdN fdW fdI fdA fd : FuncData} (F : Fun K "read_day" "read_day" s_read_day f fd) (T : Tx K mg tk dn md)
    (MX_Reader_number : DefMX P w K mg base C "number" 4 fN fdN P_Reader_number (sp_numberR C CA)) (MX_Reader_word : DefMX P w K mg base C "word" 3 fW fdW P_Reader_word (sp_wordR C CA))
    (D_days_in : Def P w K mg base "days_in" 2 fI fdI P_days_in sp_daysin) (D_days_ahead : Def P w K mg base "days_ahead" 3 fA fdA P_days_ahead sp_daysA) : FnOk P w K mg base (L2N.CX P w) 5 f fd P_read_day (sp_readdayX C CA) := by
  refine okXN F sc_read_day (fun vs H Q E h => ?_) (fun cdv A outer s H vs Q E hr h => ?_)
  · obtain ⟨a, dx, z, n, rfl, _⟩ := h
    rfl
  · have nd := sc_read_day.nd
    obtain ⟨a, dx, z, n, rfl, e, hz, hn, g⟩ := h
    refine ⟨_, (pss_cons (ps_set (i := 1) nd rfl (.inl rfl) (pe_meth (pv 0) MX_Reader_number.c MX_Reader_number.hm MX_Reader_number.ok (hr.mono (by decide)) MX_Reader_number.bd .nil (L2N.passes_call (L2N.takes_of rfl rfl rfl rfl) (fun _ _ _ _ h => h)) (pa_cons pe_str (pa_cons (pe_callTy call_str_int (by rfl) T.n_str (by decide +kernel) (pa_cons (pe_glob (v := .int 9999) (by rfl) T.m_LAST_YEAR ⟨_, rfl⟩) pa_nil)) pa_nil))))
      (pss_cons (ps_expr (pe_meth (pv 0) MX_Reader_word.c MX_Reader_word.hm MX_Reader_word.ok (hr.mono (by decide)) MX_Reader_word.bd .nil (L2N.passes_call (L2N.takes_of rfl rfl rfl rfl) (fun _ _ _ _ h => h)) (pa_cons pe_str pa_nil)))
      (pss_cons (ps_set (i := 2) nd rfl (.inl rfl) (pe_meth (pv 0) MX_Reader_number.c MX_Reader_number.hm MX_Reader_number.ok (hr.mono (by decide)) MX_Reader_number.bd .nil (L2N.passes_call (L2N.takes_of rfl rfl rfl rfl) (fun _ _ _ _ h => h)) (pa_cons pe_str (pa_cons (pe_callTy call_str_int (by rfl) T.n_str (by decide +kernel) (pa_cons (pe_callB (cLen K) (by rfl) T.n_len (by decide +kernel) (pa_cons (pe_glob (v := .ref md) (by rfl) T.m_MONTH_DAYS rfl) pa_nil)) pa_nil)) pa_nil))))
      (pss_cons (ps_expr (pe_meth (pv 0) MX_Reader_word.c MX_Reader_word.hm MX_Reader_word.ok (hr.mono (by decide)) MX_Reader_word.bd .nil (L2N.passes_call (L2N.takes_of rfl rfl rfl rfl) (fun _ _ _ _ h => h)) (pa_cons pe_str pa_nil)))
      (pss_cons (ps_set (i := 3) nd rfl (.inl rfl) (pe_meth (pv 0) MX_Reader_number.c MX_Reader_number.hm MX_Reader_number.ok (hr.mono (by decide)) MX_Reader_number.bd .nil (L2N.passes_call (L2N.takes_of rfl rfl rfl rfl) (fun _ _ _ _ h => h)) (pa_cons pe_str (pa_cons (pe_callTy call_str_int (by rfl) T.n_str (by decide +kernel) (pa_cons (pe_def D_days_in (hr.mono (by decide)) (pa_cons (pv 1) (pa_cons (pv 2) pa_nil))) pa_nil)) pa_nil))))
      (PSs.nox (pss_one (ps_ret (pe_op op_sub (pe_op op_add (pe_def D_days_ahead (hr.mono (by decide)) (pa_cons (pv 1) (pa_cons (pv 2) pa_nil))) (pv 3)) pe_int))))))))), ?_⟩
    dsimp only [gName, tSeq, tAsg]
    unfold dayR at g
    refine ⟨.ref a, rfl, a, dx, _, rfl, e, rfl, 9999, rfl, by decide +kernel, a, dx, z, _, _, n, rfl, e, hz, hn, by rw [tl_0001, tl_9999]; rfl, by rw [tl_0001]; decide, by rw [tl_0001]; decide, ?_⟩
    rw [tl_0001, tl_9999]
    cases h1 : numR [48, 48, 48, 49] [57, 57, 57, 57] (TL.tl z) n with
    | error j => rw [h1] at g; exact g
    | ok p =>
      obtain ⟨y, n1⟩ := p
      rw [h1] at g
      dsimp only at g
      intro H1 s1 e1 hn1
      refine ⟨.ref a, rfl, a, dx, _, rfl, e1, rfl, a, dx, z, Str.ofString "-", n1, rfl, e1, hz, by decide +kernel, hn1, ?_⟩
      rw [tl_dash]
      cases h2 : wordR [45] (TL.tl z) n1 with
      | error j => rw [h2] at g; exact Lost.at g s1
      | ok n2 =>
        rw [h2] at g
        dsimp only at g
        intro H2 s2 e2 hn2
        refine ⟨.ref a, rfl, a, dx, _, rfl, e2, rfl, md, _, rfl, .inr (T.t_MONTH_DAYS _), 12, rfl, by decide +kernel, a, dx, z, _, _, n2, rfl, e2, hz, hn2, by rw [tl_01, tl_12]; rfl, by rw [tl_01]; decide, by rw [tl_01]; decide, ?_⟩
        rw [tl_01, tl_12]
        cases h3 : numR (two 1) (two 12) (TL.tl z) n2 with
        | error j => rw [h3] at g; exact Lost.at g (s1.trans s2)
        | ok p =>
          obtain ⟨m, n3⟩ := p
          rw [h3] at g
          dsimp only at g
          obtain ⟨m1, m2, _⟩ := numR_two (a := 1) (b := 12) (by decide) (by decide) h3
          intro H3 s3 e3 hn3
          refine ⟨.ref a, rfl, a, dx, _, rfl, e3, rfl, a, dx, z, Str.ofString "-", n3, rfl, e3, hz, by decide +kernel, hn3, ?_⟩
          rw [tl_dash]
          cases h4 : wordR [45] (TL.tl z) n3 with
          | error j => rw [h4] at g; exact Lost.at g ((s1.trans s2).trans s3)
          | ok n4 =>
            rw [h4] at g
            dsimp only at g
            intro H4 s4 e4 hn4
            have hdv := daysIn_ge y m
            refine ⟨.ref a, rfl, a, dx, _, rfl, e4, rfl, .int y, rfl, .int m, rfl, (y : Int), m, rfl, m1, m2, fun H5 s5 => ⟨_, rfl, small_log (by omega), a, dx, z, _, _, n4, rfl, s5 _ _ e4, hz, hn4, by rw [tl_01, tl_days hdv.1 hdv.2]; rfl, by rw [tl_01]; decide, by rw [tl_01]; decide, ?_⟩⟩
            rw [tl_01, tl_days hdv.1 hdv.2]
            have s := (((s1.trans s2).trans s3).trans s4).trans (SameBut.of s5)
            cases h5 : numR (two 1) (two (daysIn y m).toNat) (TL.tl z) n4 with
            | error j => rw [h5] at g; exact Lost.at g s
            | ok p =>
              obtain ⟨d, n5⟩ := p
              rw [h5] at g
              dsimp only at g
              intro H6 s6 e6 hn6
              refine ⟨.int y, rfl, .int m, rfl, (y : Int), m, rfl, m1, by omega, fun H7 s7 => ⟨_, rfl, _, _, rfl, rfl, _, 1, rfl, rfl, ?_⟩⟩
              exact g _ ((s.trans s6).trans (SameBut.of s7)) (s7 _ _ e6) hn6
end
end K12

namespace K12
open PySem PySem.Spec PyProof.Rows L2 LH
section
variable {P : Program} {w : World} {K : PySem.W.Frag} {mg : Str → Option Value} {base : Heap} {tk : Nat → Tok} {ca : Nat → Addr} {dn md C : Addr}
theorem tl_colon : TL.tl (Str.ofString ":") = [58] := by decide +kernel
theorem tl_blank : TL.tl (Str.ofString " ") = [32] := by decide +kernel
theorem tl_00 : TL.tl (Str.ofString "00") = two 0 := by decide +kernel
theorem tl_23 : TL.tl (Str.ofString "23") = two 23 := by decide +kernel
theorem tl_59 : TL.tl (Str.ofString "59") = two 59 := by decide +kernel
theorem tl_14 : TL.tl (Str.ofString (toString (14 : Int))) = two 14 := by decide +kernel
theorem two_len (n : Nat) : (two n).length = 2 := rfl
/-- a minute of a day that is read -/
def clockR (l : List Nat) (n : Nat) : Except Nat (Int × Nat) :=
  match numR (two 0) (two 23) l n with
  | .error j => .error j
  | .ok (h, n) => match wordR [58] l n with
    | .error j => .error j
    | .ok n => match numR (two 0) (two 59) l n with
      | .error j => .error j
      | .ok (m, n) => .ok ((h : Int) * 60 + (m : Int), n)
/-! ### read_clock -/
abbrev s_read_clock : Stmt := topS 35
abbrev N_read_clock : List Str := ["reader", "hour"]
abbrev P_read_clock : List Str := ["reader"]
theorem sc_read_clock : FnScope N_read_clock ["reader"] (defScope s_read_clock) := ⟨rfl, rfl, rfl, by decide +kernel, rfl, by decide +kernel, by decide +kernel⟩
def sp_readclockX (C A : Addr) : Sp := fun vs H Q E => ∃ (a dx : Addr) (z : Str) (n : Nat), vs = [.ref a] ∧ Rdr H C a dx z n ∧ z.length ≤ 100000 ∧ n ≤ z.length ∧ Got H C A a dx z E V.int Q (clockR (TL.tl z) n)
theorem ok_readclockX {fN fW f CA : Addr} {fdN fdW fd : FuncData} (F : Fun K "read_clock" "read_clock" s_read_clock f fd)
    (MX_Reader_number : DefMX P w K mg base C "number" 4 fN fdN P_Reader_number (sp_numberR C CA)) (MX_Reader_word : DefMX P w K mg base C "word" 3 fW fdW P_Reader_word (sp_wordR C CA)) : FnOk P w K mg base (L2N.CX P w) 5 f fd P_read_clock (sp_readclockX C CA) := by
  refine okXN F sc_read_clock (fun vs H Q E h => ?_) (fun cdv A outer s H vs Q E hr h => ?_)
  · obtain ⟨a, dx, z, n, rfl, _⟩ := h
    rfl
  · have nd := sc_read_clock.nd
    obtain ⟨a, dx, z, n, rfl, e, hz, hn, g⟩ := h
    refine ⟨_, (pss_cons (ps_set (i := 1) nd rfl (.inl rfl) (pe_meth (pv 0) MX_Reader_number.c MX_Reader_number.hm MX_Reader_number.ok (hr.mono (by decide)) MX_Reader_number.bd .nil (L2N.passes_call (L2N.takes_of rfl rfl rfl rfl) (fun _ _ _ _ h => h)) (pa_cons pe_str (pa_cons pe_str pa_nil))))
      (pss_cons (ps_expr (pe_meth (pv 0) MX_Reader_word.c MX_Reader_word.hm MX_Reader_word.ok (hr.mono (by decide)) MX_Reader_word.bd .nil (L2N.passes_call (L2N.takes_of rfl rfl rfl rfl) (fun _ _ _ _ h => h)) (pa_cons pe_str pa_nil)))
      (pss_one (ps_ret (pe_op op_add (pe_op op_mul (pv 1) pe_int) (pe_meth (pv 0) MX_Reader_number.c MX_Reader_number.hm MX_Reader_number.ok (hr.mono (by decide)) MX_Reader_number.bd .nil (L2N.passes_call (L2N.takes_of rfl rfl rfl rfl) (fun _ _ _ _ h => h)) (pa_cons pe_str (pa_cons pe_str pa_nil)))))))), ?_⟩
    dsimp only [gName, tSeq, tAsg]
    unfold clockR at g
    refine ⟨.ref a, rfl, a, dx, _, rfl, e, rfl, a, dx, z, _, _, n, rfl, e, hz, hn, by rw [tl_00, tl_23]; rfl, by rw [tl_00, two_len]; decide, by rw [tl_00, two_len]; decide, ?_⟩
    rw [tl_00, tl_23]
    cases h1 : numR (two 0) (two 23) (TL.tl z) n with
    | error j => rw [h1] at g; exact g
    | ok p =>
      obtain ⟨h, n1⟩ := p
      rw [h1] at g
      dsimp only at g
      intro H1 s1 e1 hn1
      refine ⟨.ref a, rfl, a, dx, _, rfl, e1, rfl, a, dx, z, Str.ofString ":", n1, rfl, e1, hz, by decide +kernel, hn1, ?_⟩
      rw [tl_colon]
      cases h2 : wordR [58] (TL.tl z) n1 with
      | error j => rw [h2] at g; exact Lost.at g s1
      | ok n2 =>
        rw [h2] at g
        dsimp only at g
        intro H2 s2 e2 hn2
        refine ⟨_, rfl, _, 60, rfl, rfl, .inr ⟨by decide, by decide⟩, .ref a, rfl, a, dx, _, rfl, e2, rfl, a, dx, z, _, _, n2, rfl, e2, hz, hn2, by rw [tl_00, tl_59]; rfl, by rw [tl_00, two_len]; decide, by rw [tl_00, two_len]; decide, ?_⟩
        rw [tl_00, tl_59]
        cases h3 : numR (two 0) (two 59) (TL.tl z) n2 with
        | error j => rw [h3] at g; exact Lost.at g (s1.trans s2)
        | ok p =>
          obtain ⟨m, n3⟩ := p
          rw [h3] at g
          dsimp only at g
          intro H3 s3 e3 hn3
          exact ⟨_, _, rfl, rfl, g _ ((s1.trans s2).trans s3) e3 hn3⟩
/-- by how much ahead, read -/
def aheadR (l : List Nat) (n : Nat) : Except Nat (Int × Nat) :=
  match oneR [43, 45] l n with
  | .error j => .error j
  | .ok (c, n) => match numR (two 0) (two 14) l n with
    | .error j => .error j
    | .ok (h, n) => match numR (two (if c = 45 ∧ h = 0 then 1 else 0)) (two (if h = 14 then 0 else 59)) l n with
      | .error j => .error j
      | .ok (m, n) => .ok (if c = 45 then -((h : Int) * 60 + (m : Int)) else (h : Int) * 60 + (m : Int), n)
/-! ### read_ahead -/
abbrev s_read_ahead : Stmt := topS 36
abbrev N_read_ahead : List Str := ["reader", "behind", "hours", "low", "high", "minutes"]
abbrev P_read_ahead : List Str := ["reader"]
theorem sc_read_ahead : FnScope N_read_ahead ["reader"] (defScope s_read_ahead) := ⟨rfl, rfl, rfl, by decide +kernel, rfl, by decide +kernel, by decide +kernel⟩
def sp_readaheadX (C A : Addr) : Sp := fun vs H Q E => ∃ (a dx : Addr) (z : Str) (n : Nat), vs = [.ref a] ∧ Rdr H C a dx z n ∧ z.length ≤ 100000 ∧ n ≤ z.length ∧ Got H C A a dx z E V.int Q (aheadR (TL.tl z) n)
theorem ok_readaheadX {fN fO f CA : Addr} {fdN fdO fd : FuncData} (F : Fun K "read_ahead" "read_ahead" s_read_ahead f fd) (T : Tx K mg tk dn md)
    (MX_Reader_number : DefMX P w K mg base C "number" 4 fN fdN P_Reader_number (sp_numberR C CA)) (MX_Reader_one_of : DefMX P w K mg base C "one_of" 2 fO fdO P_Reader_one_of (sp_oneR K C CA)) : FnOk P w K mg base (L2N.CX P w) 5 f fd P_read_ahead (sp_readaheadX C CA) := by
  refine okXN F sc_read_ahead (fun vs H Q E h => ?_) (fun cdv A outer s H vs Q E hr h => ?_)
  · obtain ⟨a, dx, z, n, rfl, _⟩ := h
    rfl
  · have nd := sc_read_ahead.nd
    obtain ⟨a, dx, z, n, rfl, e, hz, hn, g⟩ := h
    refine ⟨_, (pss_cons (ps_set (i := 1) nd rfl (.inl rfl) (pe_cmpR op_eq (pe_meth (pv 0) MX_Reader_one_of.c MX_Reader_one_of.hm MX_Reader_one_of.ok (hr.mono (by decide)) MX_Reader_one_of.bd .nil (L2N.passes_call (L2N.takes_of rfl rfl rfl rfl) (fun _ _ _ _ h => h)) (pa_cons pe_str pa_nil)) pe_str (nomark _)))
      (pss_cons (ps_set (i := 2) nd rfl (.inl rfl) (pe_meth (pv 0) MX_Reader_number.c MX_Reader_number.hm MX_Reader_number.ok (hr.mono (by decide)) MX_Reader_number.bd .nil (L2N.passes_call (L2N.takes_of rfl rfl rfl rfl) (fun _ _ _ _ h => h)) (pa_cons pe_str (pa_cons (pe_callTy call_str_int (by rfl) T.n_str (by decide +kernel) (pa_cons (pe_glob (v := .int 14) (by rfl) T.m_MOST_HOURS ⟨_, rfl⟩) pa_nil)) pa_nil))))
      (pss_cons (ps_set (i := 3) nd rfl (.inl rfl) (pe_ifExp (PW.pt (pw_and (pt_val (pv 1)) (pw_and1 (pt_cmpR op_eq (pv 2) pe_int (nomark _))))) pe_str pe_str))
      (pss_cons (ps_set (i := 4) nd rfl (.inl rfl) (pe_ifExp (pt_cmpR op_eq (pv 2) (pe_glob (v := .int 14) (by rfl) T.m_MOST_HOURS ⟨_, rfl⟩) (nomark _)) pe_str pe_str))
      (pss_cons (ps_set (i := 5) nd rfl (.inl rfl) (pe_op op_add (pe_op op_mul (pv 2) pe_int) (pe_meth (pv 0) MX_Reader_number.c MX_Reader_number.hm MX_Reader_number.ok (hr.mono (by decide)) MX_Reader_number.bd .nil (L2N.passes_call (L2N.takes_of rfl rfl rfl rfl) (fun _ _ _ _ h => h)) (pa_cons (pv 3) (pa_cons (pv 4) pa_nil)))))
      (PSs.nox (pss_one (ps_ret (pe_ifExp (pt_val (pv 1)) (pe_un un_neg (pv 5)) (pv 5)))))))))), ?_⟩
    dsimp only [gName, tSeq, tAsg]
    unfold aheadR at g
    have hpm : TL.tl (Str.ofString "+-") = [43, 45] := by decide +kernel
    refine ⟨.ref a, rfl, a, dx, _, rfl, e, rfl, a, dx, z, n, _, [43, 45], rfl, e, hz, hn, .inl ⟨_, rfl, hpm⟩, ?_⟩
    cases h1 : oneR [43, 45] (TL.tl z) n with
    | error j => rw [h1] at g; exact g
    | ok p =>
      obtain ⟨c, n1⟩ := p
      rw [h1] at g
      dsimp only at g
      intro H1 s1 e1 hn1
      refine ⟨rfl, ?_⟩
      have hbe : decide (oneV c = V.str (Str.ofString "-")) = decide (c = 45) := by
        rw [show Str.ofString "-" = ⟨#[45]⟩ from TL.ext_tl (by decide +kernel)]
        refine decide_eq_decide.mpr ⟨fun h => ?_, fun h => by rw [h]; rfl⟩
        have := congrArg TL.tl (V.str.inj h)
        simpa [TL.tl] using this
      rw [hbe]
      dsimp only [gName]
      refine ⟨.ref a, rfl, a, dx, _, rfl, e1, rfl, 14, rfl, by decide +kernel, a, dx, z, _, _, n1, rfl, e1, hz, hn1, by rw [tl_00, tl_14]; rfl, by rw [tl_00, two_len]; decide, by rw [tl_00, two_len]; decide, ?_⟩
      rw [tl_00, tl_14]
      cases h2 : numR (two 0) (two 14) (TL.tl z) n1 with
      | error j => rw [h2] at g; exact Lost.at g s1
      | ok p =>
        obtain ⟨h, n2⟩ := p
        rw [h2] at g
        dsimp only at g
        intro H2 s2 e2 hn2
        dsimp only [gName, tSeq, tAsg, tIf]
        refine andT (decide (c = 45)) (decide (h = 0)) (fun k q1 => ⟨_, rfl, _, rfl, q1 _ (Same.refl _)⟩) (fun _ H3 k s3 q1 => ⟨_, rfl, rfl, _, rfl, ?_⟩) (fun H3 s3 => ?_)
        · rw [vint_dec, show decide (((h : Nat) : Int) = 0) = decide (h = 0) from decide_eq_decide.mpr (by omega)]
          exact q1 _ (Same.refl _)
        have s := (s1.trans s2).trans (SameBut.of s3)
        have e3 := s3 _ _ e2
        have last : ∀ lo hi : Str, TL.tl lo = two (if c = 45 ∧ h = 0 then 1 else 0) → TL.tl hi = two (if h = 14 then 0 else 59) → tOp (rI0 fun i j => V.int (i + j)) (tOp (rI CMul fun i j => V.int (i * j)) (tVar 2) (tC (V.int 60))) (tMeth C (Str.ofString "number") (sp_numberR C CA) [] E (tVar 0) (tCons (tVar 3) (tCons (tVar 4) tNil))) [some (.ref a), some (.bl (decide (c = 45))), some (.int (h : Nat)), some (.str lo), some (.str hi), none] H3 (fun x2 H1 => tRet (tIf (tB (tVar 1)) (tUn (rU fun i => V.int (-i)) (tVar 5)) (tVar 5)) { nx := fun x H' => Q V.non H', rt := Q } [some (.ref a), some (.bl (decide (c = 45))), some (.int (h : Nat)), some (.str lo), some (.str hi), some x2] H1) := by
          intro lo hi hlo hhi
          refine ⟨_, rfl, _, 60, rfl, rfl, .inr ⟨by decide, by decide⟩, .ref a, rfl, a, dx, _, rfl, e3, rfl, _, rfl, _, rfl, a, dx, z, lo, hi, n2, rfl, e3, hz, hn2, by rw [hlo, hhi]; rfl, by rw [hlo, two_len]; decide, by rw [hlo, two_len]; decide, ?_⟩
          rw [hlo, hhi]
          cases h3 : numR (two (if c = 45 ∧ h = 0 then 1 else 0)) (two (if h = 14 then 0 else 59)) (TL.tl z) n2 with
          | error j => rw [h3] at g; exact Lost.at g s
          | ok p =>
            obtain ⟨m, n3⟩ := p
            rw [h3] at g
            dsimp only at g
            intro H4 s4 e4 hn4
            refine ⟨_, _, rfl, rfl, _, rfl, _, rfl, ?_⟩
            by_cases hc : c = 45
            · rw [decide_eq_true hc]
              rw [if_pos hc] at g
              exact iteT ⟨_, rfl, _, rfl, g _ (s.trans s4) e4 hn4⟩
            · rw [decide_eq_false hc]
              rw [if_neg hc] at g
              exact iteF ⟨_, rfl, g _ (s.trans s4) e4 hn4⟩
        have h14 : ∀ (b : Bool), decide (V.int ((h : Nat) : Int) = V.int 14) = decide (h = 14) := fun _ => by rw [vint_dec]; exact decide_eq_decide.mpr (by omega)
        by_cases ha : c = 45 ∧ h = 0
        · rw [show (decide (c = 45) && decide (h = 0)) = true by rw [decide_eq_true ha.1, decide_eq_true ha.2]; rfl]
          refine iteT ⟨_, rfl, rfl, _, rfl, ?_⟩
          rw [h14 true, decide_eq_false (show ¬ h = 14 by omega)]
          exact iteF (last (Str.ofString "01") (Str.ofString "59") (by rw [if_pos ha]; exact tl_01) (by rw [if_neg (by omega)]; exact tl_59))
        · rw [show (decide (c = 45) && decide (h = 0)) = false by cases hh : (decide (c = 45) && decide (h = 0)) with | false => rfl | true => obtain ⟨h1, h2⟩ := Bool.and_eq_true_iff.mp hh; exact absurd ⟨of_decide_eq_true h1, of_decide_eq_true h2⟩ ha]
          refine iteF ⟨_, rfl, rfl, _, rfl, ?_⟩
          rw [h14 true]
          by_cases hb : h = 14
          · rw [decide_eq_true hb]
            exact iteT (last (Str.ofString "00") (Str.ofString "00") (by rw [if_neg ha]; exact tl_00) (by rw [if_pos hb]; exact tl_00))
          · rw [decide_eq_false hb]
            exact iteF (last (Str.ofString "00") (Str.ofString "59") (by rw [if_neg ha]; exact tl_00) (by rw [if_neg hb]; exact tl_59))
end
end K12

namespace K12
open PySem PySem.Spec PyProof.Rows L2 LH
section
variable {P : Program} {w : World} {K : PySem.W.Frag} {mg : Str → Option Value} {base : Heap} {tk : Nat → Tok} {ca : Nat → Addr} {dn md C : Addr}
/-- a def that may raise, as its callers see it -/
structure DefX (P : Program) (w : World) (K : PySem.W.Frag) (mg : Str → Option Value) (base : Heap) (x : Str) (k : Nat) (f : Addr) (fd : FuncData) (ps : List Str) (sp : Sp) : Prop where
  ok : FnOk P w K mg base (L2N.CX P w) k f fd ps sp
  mg : mg x = some (.ref f)
  kp : PySem.W.keepIn K (.ref f) = true
  bd : Binds K fd ps []
def nameL (d : Int) : List Nat := TL.tl (dayNames.getD (d % 7).toNat Str.empty)
/-- a time that is read: the minute and by how much ahead -/
def timeR (l : List Nat) : Except Nat (Int × Int) :=
  match dayR l 0 with
  | .error j => .error j
  | .ok (d, n) => match wordR ([32] ++ nameL d ++ [32]) l n with
    | .error j => .error j
    | .ok n => match clockR l n with
      | .error j => .error j
      | .ok (c, n) => match wordR [32] l n with
        | .error j => .error j
        | .ok n => match aheadR l n with
          | .error j => .error j
          | .ok (a, n) => if n < l.length then .error n else .ok (d * 1440 + c - a, a)
theorem fresh_of {a p : Addr} {H H' : Hp} {o : HO} (s : SameBut a H H') (e : H' a = some o) (hp : H' p = none) : H p = none := by
  cases h : H p with
  | none => rfl
  | some u =>
    by_cases hpa : p = a
    · rw [hpa, e] at hp; exact nomatch hp
    · rw [s _ _ hpa h] at hp; exact nomatch hp
/-! ### read_time -/
abbrev s_read_time : Stmt := topS 33
abbrev N_read_time : List Str := ["reader", "day", "clock", "ahead"]
abbrev P_read_time : List Str := ["reader"]
theorem sc_read_time : FnScope N_read_time ["reader"] (defScope s_read_time) := ⟨rfl, rfl, rfl, by decide +kernel, rfl, by decide +kernel, by decide +kernel⟩
def sp_readtimeX (C A : Addr) : Sp := fun vs H Q E => ∃ (a dx : Addr) (z : Str), vs = [.ref a] ∧ Rdr H C a dx z 0 ∧ z.length ≤ 100000 ∧ (match timeR (TL.tl z) with
  | .error j => Lost H a A j E
  | .ok (i, j) => ∀ H' p, SameBut a H H' → H p = none → H' p = some (.tup [.int i, .int j]) → Q (.ref p) H')
theorem ok_readtimeX {fD fW fN fC fA fE f CA : Addr} {fdD fdW fdN fdC fdA fdE fd : FuncData} (F : Fun K "read_time" "read_time" s_read_time f fd) (T : Tx K mg tk dn md)
    (D_read_day : DefX P w K mg base "read_day" 5 fD fdD P_read_day (sp_readdayX C CA)) (MX_Reader_word : DefMX P w K mg base C "word" 3 fW fdW P_Reader_word (sp_wordR C CA)) (D_day_name : Def P w K mg base "day_name" 1 fN fdN P_day_name sp_dayname)
    (D_read_clock : DefX P w K mg base "read_clock" 5 fC fdC P_read_clock (sp_readclockX C CA)) (D_read_ahead : DefX P w K mg base "read_ahead" 5 fA fdA P_read_ahead (sp_readaheadX C CA)) (MX_Reader_end : DefMX P w K mg base C "end" 1 fE fdE P_Reader_end (sp_endX C CA)) : FnOk P w K mg base (L2N.CX P w) 6 f fd P_read_time (sp_readtimeX C CA) := by
  refine okXN F sc_read_time (fun vs H Q E h => ?_) (fun cdv A outer s H vs Q E hr h => ?_)
  · obtain ⟨a, dx, z, rfl, _⟩ := h
    rfl
  · have nd := sc_read_time.nd
    obtain ⟨a, dx, z, rfl, e, hz, g⟩ := h
    refine ⟨_, (pss_cons (ps_set (i := 1) nd rfl (.inl rfl) (pe_callS D_read_day.ok (hr.mono (by decide)) (by rfl) D_read_day.mg D_read_day.kp D_read_day.bd (fun σ => L2N.passAt (L2N.takes_of rfl rfl rfl rfl) σ) (pa_cons (pv 0) pa_nil)))
      (pss_cons (ps_expr (pe_meth (pv 0) MX_Reader_word.c MX_Reader_word.hm MX_Reader_word.ok (hr.mono (by decide)) MX_Reader_word.bd .nil (L2N.passes_call (L2N.takes_of rfl rfl rfl rfl) (fun _ _ _ _ h => h)) (pa_cons (pe_joined (PJ.cons pe_str (PJ.cons (pe_fmt (pe_def D_day_name (hr.mono (by decide)) (pa_cons (pv 1) pa_nil))) (PJ.cons pe_str PJ.nil)))) pa_nil)))
      (pss_cons (ps_set (i := 2) nd rfl (.inl rfl) (pe_callS D_read_clock.ok (hr.mono (by decide)) (by rfl) D_read_clock.mg D_read_clock.kp D_read_clock.bd (fun σ => L2N.passAt (L2N.takes_of rfl rfl rfl rfl) σ) (pa_cons (pv 0) pa_nil)))
      (pss_cons (ps_expr (pe_meth (pv 0) MX_Reader_word.c MX_Reader_word.hm MX_Reader_word.ok (hr.mono (by decide)) MX_Reader_word.bd .nil (L2N.passes_call (L2N.takes_of rfl rfl rfl rfl) (fun _ _ _ _ h => h)) (pa_cons pe_str pa_nil)))
      (pss_cons (ps_set (i := 3) nd rfl (.inl rfl) (pe_callS D_read_ahead.ok (hr.mono (by decide)) (by rfl) D_read_ahead.mg D_read_ahead.kp D_read_ahead.bd (fun σ => L2N.passAt (L2N.takes_of rfl rfl rfl rfl) σ) (pa_cons (pv 0) pa_nil)))
      (pss_cons (ps_expr (pe_meth0 (pv 0) MX_Reader_end.c MX_Reader_end.hm MX_Reader_end.ok (hr.mono (by decide)) MX_Reader_end.bd .nil (L2N.passes_call (L2N.takes_of rfl rfl rfl rfl) (fun _ _ _ _ h => h))))
      (PSs.nox (pss_one (ps_ret (pe_tup (pa_cons (pe_op op_sub (pe_op op_add (pe_op op_mul (pv 1) (pe_glob (v := .int 1440) (by rfl) T.m_DAY_MINUTES ⟨_, rfl⟩)) (pv 2)) (pv 3)) (pa_cons (pv 3) pa_nil)))))))))))), ?_⟩
    dsimp only [gName, tSeq, tAsg]
    unfold timeR at g
    have n5 : (Str.ofString " ").length = 1 := by decide +kernel
    have n0 : Str.empty.length = 0 := rfl
    have hzl : z.length = (TL.tl z).length := TL.len_tl z
    refine ⟨.ref a, rfl, a, dx, z, 0, rfl, e, hz, Nat.zero_le _, ?_⟩
    cases h1 : dayR (TL.tl z) 0 with
    | error j => rw [h1] at g; exact g
    | ok p =>
      obtain ⟨d, m1⟩ := p
      rw [h1] at g
      dsimp only at g
      intro H1 s1 e1 hn1
      have hnl : (dayNames.getD (d % 7).toNat Str.empty).length ≤ 3 := by
        have : ∀ i, i < 7 → (dayNames.getD i Str.empty).length ≤ 3 := by decide +kernel
        exact this _ (by omega)
      refine ⟨.ref a, rfl, a, dx, _, rfl, e1, rfl, Str.ofString " ", rfl, by rw [len_app, sizeLine_eq]; omega, _, rfl, _, rfl, fun H2 s2 => .inl ⟨_, rfl, by rw [sizeLine_eq]; omega, _, rfl, by simp only [len_app, sizeLine_eq]; omega, Str.ofString " ", rfl, by simp only [len_app, sizeLine_eq]; omega, ?_⟩⟩
      have e2 := s2 _ _ e1
      have s12 := s1.trans (SameBut.of s2)
      have ht : TL.tl (Str.empty ++ Str.ofString " " ++ dayNames.getD (d % 7).toNat Str.empty ++ Str.ofString " ") = [32] ++ nameL d ++ [32] := by
        simp only [TL.tl_append, tl_blank, show TL.tl Str.empty = [] from rfl]
        rfl
      refine ⟨a, dx, z, _, m1, rfl, e2, hz, by simp only [len_app]; omega, hn1, ?_⟩
      rw [ht]
      cases h2 : wordR ([32] ++ nameL d ++ [32]) (TL.tl z) m1 with
      | error j => rw [h2] at g; exact Lost.at g s12
      | ok m2 =>
        rw [h2] at g
        dsimp only at g
        intro H3 s3 e3 hn2
        have s13 := s12.trans s3
        refine ⟨.ref a, rfl, a, dx, z, m2, rfl, e3, hz, hn2, ?_⟩
        cases h3 : clockR (TL.tl z) m2 with
        | error j => rw [h3] at g; exact Lost.at g s13
        | ok p =>
          obtain ⟨c, m3⟩ := p
          rw [h3] at g
          dsimp only at g
          intro H4 s4 e4 hn3
          have s14 := s13.trans s4
          refine ⟨.ref a, rfl, a, dx, _, rfl, e4, rfl, a, dx, z, Str.ofString " ", m3, rfl, e4, hz, by decide +kernel, hn3, ?_⟩
          rw [tl_blank]
          cases h4 : wordR [32] (TL.tl z) m3 with
          | error j => rw [h4] at g; exact Lost.at g s14
          | ok m4 =>
            rw [h4] at g
            dsimp only at g
            intro H5 s5 e5 hn4
            have s15 := s14.trans s5
            refine ⟨.ref a, rfl, a, dx, z, m4, rfl, e5, hz, hn4, ?_⟩
            cases h5 : aheadR (TL.tl z) m4 with
            | error j => rw [h5] at g; exact Lost.at g s15
            | ok p =>
              obtain ⟨i, m5⟩ := p
              rw [h5] at g
              dsimp only at g
              intro H6 s6 e6 hn5
              have s16 := s15.trans s6
              refine ⟨.ref a, rfl, a, dx, _, rfl, e6, rfl, a, dx, z, m5, rfl, e6, hz, hn5, fun hlt => ?_, fun heq H7 s7 => ?_⟩
              · rw [if_pos hlt] at g
                exact Lost.at g s16
              · rw [if_neg (by omega)] at g
                have s17 := s16.trans (SameBut.of s7)
                have e7 := s7 _ _ e6
                exact ⟨_, rfl, _, 1440, rfl, rfl, .inr ⟨by decide, by decide⟩, _, rfl, _, _, rfl, rfl, _, rfl, _, _, rfl, rfl, _, rfl, by show 2 ≤ _; rw [sizeLine_eq]; decide, fun p hp => g _ p (s17.trans (SameBut.of (same_upd hp))) (fresh_of s17 e7 hp) upd_same⟩
end
end K12

namespace K12
open PySem PySem.Spec PyProof.Rows L2 LH
section
variable {P : Program} {w : World} {K : PySem.W.Frag} {mg : Str → Option Value} {base : Heap} {tk : Nat → Tok} {ca : Nat → Addr} {dn md C : Addr}
/-! ### _law_cell -/
abbrev s__law_cell : Stmt := topS 42
abbrev N__law_cell : List Str := ["_law_script", "_law_k"]
abbrev P__law_cell : List Str := ["_law_script", "_law_k"]
theorem sc__law_cell : FnScope N__law_cell ["_law_script", "_law_k"] (defScope s__law_cell) := ⟨rfl, rfl, rfl, by decide +kernel, rfl, by decide +kernel, by decide +kernel⟩
def sp_cell (K : PySem.W.Frag) : Sp := fun vs H Q _ => ∃ (a : Addr) (bs : List Int) (k : Nat), vs = [.ref a, .int k] ∧ SqL K H a (bs.map V.int) ∧ Tell H (.int (bs.getD k 0)) Q
theorem ok_cell {f : Addr} {fd : FuncData} {k : Nat} (F : Fun K "_law_cell" "_law_cell" s__law_cell f fd) (T : Tx K mg tk dn md) : FnOk P w K mg base CX0 (k + 1) f fd P__law_cell (sp_cell K) := by
  refine F.ok sc__law_cell (fun vs H Q E h => ?_) (fun cdv A outer s H vs Q E hr h => ?_)
  · obtain ⟨a, bs, j, rfl, _⟩ := h
    rfl
  · have nd := sc__law_cell.nd
    obtain ⟨a, bs, j, rfl, hs, q⟩ := h
    refine ⟨_, (pss_cons (ps_if (pt_cmpR op_lt (pv 1) (pe_callB (cLen K) (by rfl) T.n_len (by decide +kernel) (pa_cons (pv 0) pa_nil)) (nomark _))
        (pss_one (ps_ret (pe_ix (ixL K) (pv 0) (pv 1) (fun _ _ => rfl))))
        pss_nil)
      (pss_one (ps_ret pe_int))), ?_⟩
    dsimp only [tSeq]
    refine ifT (decide (j < bs.length)) (fun k q1 => ⟨_, rfl, _, rfl, a, _, rfl, .inl hs, _, _, rfl, rfl, _, rfl, TellB.eq (decide_eq_decide.mpr (by rw [List.length_map]; omega)) q1 _ (Same.refl _)⟩) (fun h H1 s1 => ?_) (fun h H1 s1 => ?_)
    · have hj := of_decide_eq_true h
      refine ⟨.ref a, rfl, .int j, rfl, a, _, _, _, rfl, rfl, s1.seq hs, ?_, q H1 s1⟩
      refine atI_nat ?_
      rw [List.getElem?_map, List.getElem?_eq_getElem hj, List.getD_eq_getElem?_getD, List.getElem?_eq_getElem hj]
      rfl
    · have hj := of_decide_eq_false h
      have := q H1 s1
      rw [List.getD_eq_getElem?_getD, List.getElem?_eq_none (by omega)] at this
      exact this
/-! ### _law_is_long -/
abbrev s__law_is_long : Stmt := topS 46
abbrev N__law_is_long : List Str := ["_law_year"]
abbrev P__law_is_long : List Str := ["_law_year"]
theorem sc__law_is_long : FnScope N__law_is_long ["_law_year"] (defScope s__law_is_long) := ⟨rfl, rfl, rfl, by decide +kernel, rfl, by decide +kernel, by decide +kernel⟩
theorem ok_islong {f : Addr} {fd : FuncData} {k : Nat} (F : Fun K "_law_is_long" "_law_is_long" s__law_is_long f fd) : FnOk P w K mg base CX0 (k + 1) f fd P__law_is_long sp_leap := by
  refine F.ok sc__law_is_long (fun vs H Q E h => ?_) (fun cdv A outer s H vs Q E hr h => ?_)
  · obtain ⟨y, rfl, _⟩ := h
    rfl
  · have nd := sc__law_is_long.nd
    obtain ⟨y, rfl, q⟩ := h
    refine ⟨_, (pss_one (ps_ret (pe_or (pe_cmpR op_eq (pe_op op_mod (pv 0) pe_int) pe_int (nomark _)) (pe_one (pe_and (pe_cmpR op_eq (pe_op op_mod (pv 0) pe_int) pe_int (nomark _)) (pe_one (pe_cmpR op_gt (pe_op op_mod (pv 0) pe_int) pe_int (nomark _)))))))), ?_⟩
    refine orV (decide (y % 400 = 0)) (decide (y % 4 = 0) && decide (0 < y % 100)) (fun Q' q' => ⟨_, rfl, _, 400, rfl, rfl, (show (0 : Int) < 400 by decide), rfl, ?_⟩) (fun _ H2 Q' s2 q' => andV (decide (y % 4 = 0)) (decide (0 < y % 100)) (fun Q2 q2 => ⟨_, rfl, _, 4, rfl, rfl, (show (0 : Int) < 4 by decide), rfl, ?_⟩) (fun _ H3 Q2 s3 q2 => ⟨_, rfl, _, 100, rfl, rfl, (show (0 : Int) < 100 by decide), _, 0, rfl, rfl, q2 _ (Same.refl _)⟩) q') q
    · rw [vint_dec]; exact q' _ (Same.refl _)
    · rw [vint_dec]; exact q2 _ (Same.refl _)
/-! ### _law_many_days -/
abbrev s__law_many_days : Stmt := topS 47
abbrev N__law_many_days : List Str := ["_law_year", "_law_month"]
abbrev P__law_many_days : List Str := ["_law_year", "_law_month"]
theorem sc__law_many_days : FnScope N__law_many_days ["_law_year", "_law_month"] (defScope s__law_many_days) := ⟨rfl, rfl, rfl, by decide +kernel, rfl, by decide +kernel, by decide +kernel⟩
def sp_many : Sp := fun vs H Q _ => ∃ (y : Int) (m : Nat), vs = [.int y, .int (m : Nat)] ∧ 1 ≤ m ∧ m ≤ 12 ∧ Tell H (.int (daysIn y m)) Q
theorem ok_many {fL f : Addr} {fdL fd : FuncData} (F : Fun K "_law_many_days" "_law_many_days" s__law_many_days f fd) (T : Tx K mg tk dn md) (D__law_is_long : Def P w K mg base "_law_is_long" 1 fL fdL P__law_is_long sp_leap) : FnOk P w K mg base CX0 2 f fd P__law_many_days sp_many := by
  refine F.ok sc__law_many_days (fun vs H Q E h => ?_) (fun cdv A outer s H vs Q E hr h => ?_)
  · obtain ⟨y, m, rfl, _⟩ := h
    rfl
  · have nd := sc__law_many_days.nd
    obtain ⟨y, m, rfl, h1, h2, q⟩ := h
    refine ⟨_, (pss_cons (ps_if (pt_cmpR op_eq (pv 1) pe_int (nomark _))
        (pss_one (ps_ret (pe_op op_add pe_int (pe_callTy call_int1 (by rfl) T.n_int (by decide +kernel) (pa_cons (pe_def D__law_is_long (hr.mono (by decide)) (pa_cons (pv 0) pa_nil)) pa_nil)))))
        pss_nil)
      (pss_one (ps_ret (pe_ix (ixL K) (pe_lst (pa_cons pe_int (pa_cons pe_int pa_nil))) (pe_callTy call_int1 (by rfl) T.n_int (by decide +kernel) (pa_cons (pe_cmpR (oIn K) (pv 1) (pe_tup (pa_cons pe_int (pa_cons pe_int (pa_cons pe_int (pa_cons pe_int pa_nil))))) (by rfl)) pa_nil)) (fun _ _ => rfl))))), ?_⟩
    dsimp only [tSeq]
    refine ifT (decide ((m : Int) = 2)) (fun k q1 => ⟨_, rfl, rfl, _, rfl, by rw [vint_dec]; exact q1 _ (Same.refl _)⟩) (fun h H1 s1 => ?_) (fun h H1 s1 => ?_)
    · have hm := of_decide_eq_true h
      refine ⟨_, rfl, y, rfl, fun H2 s2 => .inr ⟨_, rfl, _, _, rfl, rfl, ?_⟩⟩
      have := q H2 (s1.trans s2)
      rw [daysIn_val, if_pos hm] at this
      exact this
    · have hm := of_decide_eq_false h
      dsimp only [tNext]
      have hv : inV (.int m) [.int 4, .int 6, .int 9, .int 11] = decide (m = 4 ∨ m = 6 ∨ m = 9 ∨ m = 11) := by
        have : ∀ j : Fin 13, inV (.int (j.val : Nat)) [.int 4, .int 6, .int 9, .int 11] = decide (j.val = 4 ∨ j.val = 6 ∨ j.val = 9 ∨ j.val = 11) := by decide +kernel
        exact this ⟨m, by omega⟩
      refine ⟨by show 2 ≤ _; rw [sizeLine_eq]; decide, fun p hp => ⟨.int m, rfl, by show 4 ≤ _; rw [sizeLine_eq]; decide, fun p2 hp2 => ⟨p2, _, rfl, .inr (.inl (.inl upd_same)), rfl, rfl, .inr ⟨_, rfl, p, _, _, .int (daysIn y m), rfl, rfl, .inl (.inl ((same_upd hp2) _ _ upd_same)), ?_, q _ ((s1.trans (same_upd hp)).trans (same_upd hp2))⟩⟩⟩⟩
      show atI [V.int 31, V.int 30] (if inV (.int m) [.int 4, .int 6, .int 9, .int 11] = true then 1 else 0) = _
      rw [hv, daysIn_val, if_neg hm]
      by_cases h4 : m = 4 ∨ m = 6 ∨ m = 9 ∨ m = 11
      · rw [decide_eq_true h4, if_pos (show (m : Int) = 4 ∨ (m : Int) = 6 ∨ (m : Int) = 9 ∨ (m : Int) = 11 by omega)]
        rfl
      · rw [decide_eq_false h4, if_neg (show ¬ ((m : Int) = 4 ∨ (m : Int) = 6 ∨ (m : Int) = 9 ∨ (m : Int) = 11) by omega)]
        rfl
end
end K12

namespace K12
open PySem PySem.Spec PyProof.Rows L2 LH
section
variable {P : Program} {w : World} {K : PySem.W.Frag} {mg : Str → Option Value} {base : Heap} {tk : Nat → Tok} {ca : Nat → Addr} {dn md C : Addr}
/-! ### _law_mixed -/
abbrev s__law_mixed : Stmt := topS 43
abbrev N__law_mixed : List Str := ["_law_cell_here", "_law_k"]
abbrev P__law_mixed : List Str := ["_law_cell_here", "_law_k"]
theorem sc__law_mixed : FnScope N__law_mixed ["_law_cell_here", "_law_k"] (defScope s__law_mixed) := ⟨rfl, rfl, rfl, by decide +kernel, rfl, by decide +kernel, by decide +kernel⟩
def mixed (c k : Int) : Int := (c * 48271 + 7919 * k * k * k + 104729) % 2147483647 * 16807 % 2147483629
theorem mixed_lt (c k : Int) : 0 ≤ mixed c k ∧ mixed c k < 2147483629 := ⟨Int.emod_nonneg _ (by decide), Int.emod_lt_of_pos _ (by decide)⟩
def sp_mixed : Sp := fun vs H Q _ => ∃ (c k : Int), vs = [.int c, .int k] ∧ 0 ≤ k ∧ k < 1000 ∧ Tell H (.int (mixed c k)) Q
theorem ok_mixed {f : Addr} {fd : FuncData} {k : Nat} (F : Fun K "_law_mixed" "_law_mixed" s__law_mixed f fd) : FnOk P w K mg base CX0 (k + 1) f fd P__law_mixed sp_mixed := by
  refine F.ok sc__law_mixed (fun vs H Q E h => ?_) (fun cdv A outer s H vs Q E hr h => ?_)
  · obtain ⟨c, j, rfl, _⟩ := h
    rfl
  · have nd := sc__law_mixed.nd
    obtain ⟨c, j, rfl, h0, h1, q⟩ := h
    refine ⟨_, (pss_one (ps_ret (pe_op op_mod (pe_op op_mul (pe_op op_mod (pe_op op_add (pe_op op_add (pe_op op_mul (pv 0) pe_int) (pe_op op_mul (pe_op op_mul (pe_op op_mul pe_int (pv 1)) (pv 1)) (pv 1))) pe_int) pe_int) pe_int) pe_int))), ?_⟩
    refine ⟨.int c, rfl, c, 48271, rfl, rfl, .inr (by decide), .int j, rfl, 7919, j, rfl, rfl, .inl (by decide), .int j, rfl, _, j, rfl, rfl, .inr ⟨by omega, by omega⟩, .int j, rfl, _, j, rfl, rfl, .inr ⟨by omega, by omega⟩, _, _, rfl, rfl, _, _, rfl, rfl, _, _, rfl, rfl, (show (0 : Int) < 2147483647 by decide), _, _, rfl, rfl, .inr (by decide), _, _, rfl, rfl, (show (0 : Int) < 2147483629 by decide), q _ (Same.refl _)⟩
/-! ### _law_next -/
abbrev s__law_next : Stmt := topS 44
abbrev N__law_next : List Str := ["_law_number", "_law_k"]
abbrev P__law_next : List Str := ["_law_number", "_law_k"]
theorem sc__law_next : FnScope N__law_next ["_law_number", "_law_k"] (defScope s__law_next) := ⟨rfl, rfl, rfl, by decide +kernel, rfl, by decide +kernel, by decide +kernel⟩
def nextN (n k : Int) : Int := (n * (k * k + 1) + 1009 * k + 11) * 69621 % 2147483629
theorem nextN_lt (c k : Int) : 0 ≤ nextN c k ∧ nextN c k < 2147483629 := ⟨Int.emod_nonneg _ (by decide), Int.emod_lt_of_pos _ (by decide)⟩
def sp_next : Sp := fun vs H Q _ => ∃ (c k : Int), vs = [.int c, .int k] ∧ 0 ≤ c ∧ c < 2147483648 ∧ 0 ≤ k ∧ k < 1000 ∧ Tell H (.int (nextN c k)) Q
theorem ok_next {f : Addr} {fd : FuncData} {k : Nat} (F : Fun K "_law_next" "_law_next" s__law_next f fd) : FnOk P w K mg base CX0 (k + 1) f fd P__law_next sp_next := by
  refine F.ok sc__law_next (fun vs H Q E h => ?_) (fun cdv A outer s H vs Q E hr h => ?_)
  · obtain ⟨c, j, rfl, _⟩ := h
    rfl
  · have nd := sc__law_next.nd
    obtain ⟨c, j, rfl, hc, hc1, h0, h1, q⟩ := h
    refine ⟨_, (pss_one (ps_ret (pe_op op_mod (pe_op op_mul (pe_op op_add (pe_op op_add (pe_op op_mul (pv 0) (pe_op op_add (pe_op op_mul (pv 1) (pv 1)) pe_int)) (pe_op op_mul pe_int (pv 1))) pe_int) pe_int) pe_int))), ?_⟩
    refine ⟨.int c, rfl, .int j, rfl, .int j, rfl, j, j, rfl, rfl, .inr ⟨by omega, by omega⟩, _, 1, rfl, rfl, c, _, rfl, rfl, .inl ⟨by omega, by omega⟩, .int j, rfl, 1009, j, rfl, rfl, .inl (by decide), _, _, rfl, rfl, _, _, rfl, rfl, _, _, rfl, rfl, .inr (by decide), _, _, rfl, rfl, (show (0 : Int) < 2147483629 by decide), q _ (Same.refl _)⟩
/-! ### _law_day -/
abbrev s__law_day : Stmt := topS 48
abbrev N__law_day : List Str := ["_law_year", "_law_month", "_law_day_here", "_law_past", "_law_turned"]
abbrev P__law_day : List Str := ["_law_year", "_law_month", "_law_day_here"]
theorem sc__law_day : FnScope N__law_day ["_law_year", "_law_month", "_law_day_here"] (defScope s__law_day) := ⟨rfl, rfl, rfl, by decide +kernel, rfl, by decide +kernel, by decide +kernel⟩
theorem day_val (y : Int) {m d : Nat} (h1 : 1 ≤ m) (h2 : m ≤ 12) : (y - (if (m : Int) < 3 then 1 else 0)) * 365 + (y - (if (m : Int) < 3 then 1 else 0)) / 4 - (y - (if (m : Int) < 3 then 1 else 0)) / 100 + (y - (if (m : Int) < 3 then 1 else 0)) / 400 + (153 * (((m : Int) + 9) % 12) + 2) / 5 + d - 307 = daysA y m + d - 1 := by
  rw [daysA_val, daysTo_val y m h1 (by omega)]
  have hl := leapI_val y
  by_cases e1 : m = 1
  · subst e1
    simp
    omega
  · by_cases e2 : m = 2
    · subst e2
      simp
      omega
    · rw [if_neg (by omega), if_neg e1, if_neg e2, if_neg (by omega)]
      rw [show ((m : Int) + 9) % 12 = (m : Int) - 3 by omega]
      omega
def sp_day : Sp := fun vs H Q _ => ∃ (y m d : Nat), vs = [.int (y : Nat), .int (m : Nat), .int (d : Nat)] ∧ 1 ≤ m ∧ m ≤ 12 ∧ Tell H (.int (dayNo y m d)) Q
theorem ok_day {f : Addr} {fd : FuncData} {k : Nat} (F : Fun K "_law_day" "_law_day" s__law_day f fd) (T : Tx K mg tk dn md) : FnOk P w K mg base CX0 (k + 1) f fd P__law_day sp_day := by
  refine F.ok sc__law_day (fun vs H Q E h => ?_) (fun cdv A outer s H vs Q E hr h => ?_)
  · obtain ⟨y, m, d, rfl, _⟩ := h
    rfl
  · have nd := sc__law_day.nd
    obtain ⟨y, m, d, rfl, h1, h2, q⟩ := h
    refine ⟨_, (pss_cons (ps_set (i := 3) nd rfl (.inl rfl) (pe_op op_sub (pv 0) (pe_callTy call_int1 (by rfl) T.n_int (by decide +kernel) (pa_cons (pe_cmpR op_lt (pv 1) pe_int (nomark _)) pa_nil))))
      (pss_cons (ps_set (i := 4) nd rfl (.inl rfl) (pe_op op_mod (pe_op op_add (pv 1) pe_int) pe_int))
      (pss_one (ps_ret (pe_op op_sub (pe_op op_add (pe_op op_add (pe_op op_add (pe_op op_sub (pe_op op_add (pe_op op_mul (pv 3) pe_int) (pe_op op_fdiv (pv 3) pe_int)) (pe_op op_fdiv (pv 3) pe_int)) (pe_op op_fdiv (pv 3) pe_int)) (pe_op op_fdiv (pe_op op_add (pe_op op_mul pe_int (pv 4)) pe_int) pe_int)) (pv 2)) pe_int))))), ?_⟩
    dsimp only [gName, tSeq, tAsg]
    have e : (if decide ((m : Int) < 3) = true then (1 : Int) else 0) = if (m : Int) < 3 then 1 else 0 := by simp
    refine ⟨.int y, rfl, .int m, rfl, _, 3, rfl, rfl, .inr ⟨_, rfl, _, _, rfl, rfl, .int m, rfl, _, 9, rfl, rfl, _, 12, rfl, rfl, (show (0 : Int) < 12 by decide), ?_⟩⟩
    refine ⟨_, rfl, _, 365, rfl, rfl, .inr ⟨by decide, by decide⟩, _, rfl, _, 4, rfl, rfl, ⟨by decide, by decide⟩, _, _, rfl, rfl, _, rfl, _, 100, rfl, rfl, ⟨by decide, by decide⟩, _, _, rfl, rfl, _, rfl, _, 400, rfl, rfl, ⟨by decide, by decide⟩, _, _, rfl, rfl, _, rfl, 153, _, rfl, rfl, .inl ⟨by decide, by decide⟩, _, 2, rfl, rfl, _, 5, rfl, rfl, ⟨by decide, by decide⟩, _, _, rfl, rfl, _, rfl, _, _, rfl, rfl, _, 307, rfl, rfl, ?_⟩
    have := q _ (Same.refl _)
    unfold dayNo at this
    rw [← day_val y h1 h2] at this
    dsimp only
    rw [e]
    exact this
/-! ### _law_two -/
abbrev s__law_two : Stmt := topS 49
abbrev N__law_two : List Str := ["_law_number"]
abbrev P__law_two : List Str := ["_law_number"]
theorem sc__law_two : FnScope N__law_two ["_law_number"] (defScope s__law_two) := ⟨rfl, rfl, rfl, by decide +kernel, rfl, by decide +kernel, by decide +kernel⟩
def sp_two : Sp := fun vs H Q _ => ∃ n : Nat, vs = [.int (n : Nat)] ∧ n < 100 ∧ Tell H (.str (SX.S (two n))) Q
theorem ok_two {f : Addr} {fd : FuncData} {k : Nat} (F : Fun K "_law_two" "_law_two" s__law_two f fd) : FnOk P w K mg base CX0 (k + 1) f fd P__law_two sp_two := by
  refine F.ok sc__law_two (fun vs H Q E h => ?_) (fun cdv A outer s H vs Q E hr h => ?_)
  · obtain ⟨n, rfl, _⟩ := h
    rfl
  · have nd := sc__law_two.nd
    obtain ⟨n, rfl, hn, q⟩ := h
    refine ⟨_, (pss_one (ps_ret (pe_op op_add_str (pe_ix ix_str pe_str (pe_op op_fdiv (pv 0) pe_int) (fun _ _ => rfl)) (pe_ix ix_str pe_str (pe_op op_mod (pv 0) pe_int) (fun _ _ => rfl))))), ?_⟩
    have hF : ∀ i, i < 10 → (TL.tl (Str.ofString "0123456789"))[i]? = some (48 + i) := by decide +kernel
    have hl : (Str.ofString "0123456789").length ≤ sizeLine := by rw [sizeLine_eq]; decide +kernel
    have h1 : atI (TL.tl (Str.ofString "0123456789")) (((n : Nat) : Int) / 10) = some (48 + n / 10) := by
      rw [show ((n : Nat) : Int) / 10 = ((n / 10 : Nat) : Int) by omega]
      exact atI_nat (hF _ (by omega))
    have h2 : atI (TL.tl (Str.ofString "0123456789")) (((n : Nat) : Int) % 10) = some (48 + n % 10) := by
      rw [show ((n : Nat) : Int) % 10 = ((n % 10 : Nat) : Int) by omega]
      exact atI_nat (hF _ (by omega))
    refine ⟨_, rfl, _, 10, rfl, rfl, ⟨by decide, by decide⟩, Str.ofString "0123456789", _, 48 + n / 10, rfl, rfl, hl, h1, _, rfl, _, 10, rfl, rfl, (show (0 : Int) < 10 by decide), Str.ofString "0123456789", _, 48 + n % 10, rfl, rfl, hl, h2, ⟨#[48 + n / 10]⟩, ⟨#[48 + n % 10]⟩, rfl, rfl, by show 1 + 1 ≤ _; rw [sizeLine_eq]; decide, ?_⟩
    have := q _ (Same.refl _)
    rw [show SX.S (two n) = (⟨#[48 + n / 10]⟩ : Str) ++ ⟨#[48 + n % 10]⟩ from TL.ext_tl (by rw [TL.tl_append]; rfl)] at this
    exact this
theorem four_two {y : Nat} : four y = two (y / 100) ++ two (y % 100) := by
  simp [four, two]
  omega
/-! ### _law_text -/
abbrev s__law_text : Stmt := topS 50
abbrev N__law_text : List Str := ["_law_year", "_law_month", "_law_day_here", "_law_left", "_law_ahead_here", "_law_names", "_law_found", "_law_far"]
abbrev P__law_text : List Str := ["_law_year", "_law_month", "_law_day_here", "_law_left", "_law_ahead_here"]
theorem sc__law_text : FnScope N__law_text ["_law_year", "_law_month", "_law_day_here", "_law_left", "_law_ahead_here"] (defScope s__law_text) := ⟨rfl, rfl, rfl, by decide +kernel, rfl, by decide +kernel, by decide +kernel⟩
def sp_text : Sp := fun vs H Q _ => ∃ (y m d l : Nat) (a : Int), vs = [.int (y : Nat), .int (m : Nat), .int (d : Nat), .int (l : Nat), .int a] ∧ Date y m d ∧ l < 1440 ∧ a.natAbs ≤ 840 ∧ Tell H (.str (SX.S (timeL y m d l a))) Q
theorem ok_text {fT fD f : Addr} {fdT fdD fd : FuncData} (F : Fun K "_law_text" "_law_text" s__law_text f fd) (T : Tx K mg tk dn md) (D__law_two : Def P w K mg base "_law_two" 1 fT fdT P__law_two sp_two) (D__law_day : Def P w K mg base "_law_day" 1 fD fdD P__law_day sp_day) : FnOk P w K mg base CX0 2 f fd P__law_text sp_text := by
  refine F.ok sc__law_text (fun vs H Q E h => ?_) (fun cdv A outer s H vs Q E hr h => ?_)
  · obtain ⟨y, m, d, l, a, rfl, _⟩ := h
    rfl
  · have nd := sc__law_text.nd
    obtain ⟨y, m, d, l, a, rfl, hD, hl, ha, q⟩ := h
    refine ⟨_, (pss_cons (ps_set (i := 5) nd rfl (.inl rfl) (pe_lst (pa_cons pe_str (pa_cons pe_str (pa_cons pe_str (pa_cons pe_str (pa_cons pe_str (pa_cons pe_str (pa_cons pe_str pa_nil)))))))))
      (pss_cons (ps_set (i := 6) nd rfl (.inl rfl) (pe_op op_add_str (pe_op op_add_str (pe_op op_add_str (pe_def D__law_two (hr.mono (by decide)) (pa_cons (pe_op op_fdiv (pv 0) pe_int) pa_nil)) (pe_def D__law_two (hr.mono (by decide)) (pa_cons (pe_op op_mod (pv 0) pe_int) pa_nil))) pe_str) (pe_def D__law_two (hr.mono (by decide)) (pa_cons (pv 1) pa_nil))))
      (pss_cons (ps_set (i := 6) nd rfl (.inl rfl) (pe_op op_add_str (pe_op op_add_str (pe_op op_add_str (pv 6) pe_str) (pe_def D__law_two (hr.mono (by decide)) (pa_cons (pv 2) pa_nil))) pe_str))
      (pss_cons (ps_set (i := 6) nd rfl (.inl rfl) (pe_op op_add_str (pv 6) (pe_ix (ixL K) (pv 5) (pe_op op_mod (pe_def D__law_day (hr.mono (by decide)) (pa_cons (pv 0) (pa_cons (pv 1) (pa_cons (pv 2) pa_nil)))) pe_int) (fun _ _ => rfl))))
      (pss_cons (ps_set (i := 6) nd rfl (.inl rfl) (pe_op op_add_str (pe_op op_add_str (pe_op op_add_str (pe_op op_add_str (pv 6) pe_str) (pe_def D__law_two (hr.mono (by decide)) (pa_cons (pe_op op_fdiv (pv 3) pe_int) pa_nil))) pe_str) (pe_def D__law_two (hr.mono (by decide)) (pa_cons (pe_op op_mod (pv 3) pe_int) pa_nil))))
      (pss_cons (ps_set (i := 7) nd rfl (.inl rfl) (pe_callB call_abs (by rfl) T.n_abs (by decide +kernel) (pa_cons (pv 4) pa_nil)))
      (pss_one (ps_ret (pe_op op_add_str (pe_op op_add_str (pe_op op_add_str (pe_op op_add_str (pv 6) pe_str) (pe_ix ix_str pe_str (pe_callTy call_int1 (by rfl) T.n_int (by decide +kernel) (pa_cons (pe_cmpR op_lt (pv 4) pe_int (nomark _)) pa_nil)) (fun _ _ => rfl))) (pe_def D__law_two (hr.mono (by decide)) (pa_cons (pe_op op_fdiv (pv 7) pe_int) pa_nil))) (pe_def D__law_two (hr.mono (by decide)) (pa_cons (pe_op op_mod (pv 7) pe_int) pa_nil))))))))))), ?_⟩
    dsimp only [gName, tSeq, tAsg]
    obtain ⟨y1, y2, m1, m2, d1, d2⟩ := hD
    have h31 := (daysIn_ge y m).2
    have l2 : ∀ n, (SX.S (two n)).length = 2 := fun _ => rfl
    have la : (Str.ofString "-").length = 1 := by decide +kernel
    have lb : (Str.ofString " ").length = 1 := by decide +kernel
    have lc : (Str.ofString ":").length = 1 := by decide +kernel
    have ln : (dayNames.getD (dayNo y m d % 7).toNat Str.empty).length ≤ 3 := by
      have : ∀ i, i < 7 → (dayNames.getD i Str.empty).length ≤ 3 := by decide +kernel
      exact this _ (by omega)
    have hat : atI (dayNames.map V.str) (dayNo y m d % 7) = some (.str (dayNames.getD (dayNo y m d % 7).toNat Str.empty)) := by
      conv => lhs; rw [show dayNo y m d % 7 = ((dayNo y m d % 7).toNat : Int) by omega]
      have hl : (dayNo y m d % 7).toNat < dayNames.length := by show _ < 7; omega
      refine atI_nat ?_
      rw [List.getElem?_map, List.getElem?_eq_getElem hl, List.getD_eq_getElem?_getD, List.getElem?_eq_getElem hl]
      rfl
    have hab : (if a < 0 then -a else a) = ((a.natAbs : Nat) : Int) := by split <;> omega
    have hpm : TL.tl (Str.ofString "+-") = [43, 45] := by decide +kernel
    have lpm : (Str.ofString "+-").length = 2 := by decide +kernel
    have hsg : atI (TL.tl (Str.ofString "+-")) (if decide (a < 0) = true then 1 else 0) = some (if a < 0 then 45 else 43) := by
      rw [hpm]
      by_cases h : a < 0
      · rw [decide_eq_true h, if_pos h]; rfl
      · rw [decide_eq_false h, if_neg h]; rfl
    refine ⟨by show 7 ≤ _; rw [sizeLine_eq]; decide, fun p hp => ?_⟩
    have eL : (upd H p (.lst (dayNames.map V.str))) p = some (.lst (dayNames.map V.str)) := upd_same
    have s0 := same_upd (o := .lst (dayNames.map V.str)) hp
    refine ⟨_, rfl, _, 100, rfl, rfl, ⟨by decide, by decide⟩, y / 100, by rw [Int.natCast_ediv]; rfl, by omega, fun H1 s1 => ⟨_, rfl, _, 100, rfl, rfl, (show (0 : Int) < 100 by decide), y % 100, by rw [Int.natCast_emod]; rfl, by omega, fun H2 s2 => ⟨_, _, rfl, rfl, by simp only [l2, sizeLine_eq]; omega, _, _, rfl, rfl, by simp only [len_app, l2, la, sizeLine_eq]; omega, _, rfl, m, rfl, by omega, fun H3 s3 => ⟨_, _, rfl, rfl, by simp only [len_app, l2, la, sizeLine_eq]; omega, ?_⟩⟩⟩⟩
    refine ⟨_, rfl, _, _, rfl, rfl, by simp only [len_app, l2, la, sizeLine_eq]; omega, _, rfl, d, rfl, by omega, fun H4 s4 => ⟨_, _, rfl, rfl, by simp only [len_app, l2, la, sizeLine_eq]; omega, _, _, rfl, rfl, by simp only [len_app, l2, la, lb, sizeLine_eq]; omega, ?_⟩⟩
    refine ⟨_, rfl, _, rfl, _, rfl, _, rfl, _, rfl, y, m, d, rfl, m1, m2, fun H5 s5 => ⟨_, 7, rfl, rfl, (show (0 : Int) < 7 by decide), p, _, _, _, rfl, rfl, .inl (.inl (s5 _ _ (s4 _ _ (s3 _ _ (s2 _ _ (s1 _ _ eL)))))), hat, _, _, rfl, rfl, by simp only [len_app, l2, la, lb, sizeLine_eq]; omega, ?_⟩⟩
    refine ⟨_, rfl, _, _, rfl, rfl, by simp only [len_app, l2, la, lb, sizeLine_eq]; omega, _, rfl, _, 60, rfl, rfl, ⟨by decide, by decide⟩, l / 60, by rw [Int.natCast_ediv]; rfl, by omega, fun H6 s6 => ⟨_, _, rfl, rfl, by simp only [len_app, l2, la, lb, sizeLine_eq]; omega, _, _, rfl, rfl, by simp only [len_app, l2, la, lb, lc, sizeLine_eq]; omega, _, rfl, _, 60, rfl, rfl, (show (0 : Int) < 60 by decide), l % 60, by rw [Int.natCast_emod]; rfl, by omega, fun H7 s7 => ⟨_, _, rfl, rfl, by simp only [len_app, l2, la, lb, lc, sizeLine_eq]; omega, ?_⟩⟩⟩
    refine ⟨_, rfl, a, rfl, ?_⟩
    rw [hab]
    refine ⟨_, rfl, _, _, rfl, rfl, by simp only [len_app, l2, la, lb, lc, sizeLine_eq]; omega, _, rfl, _, 0, rfl, rfl, .inr ⟨_, rfl, _, _, _, rfl, rfl, by rw [lpm, sizeLine_eq]; decide, hsg, _, ⟨#[if a < 0 then 45 else 43]⟩, rfl, rfl, by simp only [len_app, l2, la, lb, lc, sizeLine_eq]; show _ + 1 ≤ _; omega, ?_⟩⟩
    have ls : ∀ c : Nat, (⟨#[c]⟩ : Str).length = 1 := fun _ => rfl
    refine ⟨_, rfl, _, 60, rfl, rfl, ⟨by decide, by decide⟩, a.natAbs / 60, by rw [Int.natCast_ediv]; rfl, by omega, fun H8 s8 => ⟨_, _, rfl, rfl, by simp only [len_app, l2, la, lb, lc, ls, sizeLine_eq]; omega, _, rfl, _, 60, rfl, rfl, (show (0 : Int) < 60 by decide), a.natAbs % 60, by rw [Int.natCast_emod]; rfl, by omega, fun H9 s9 => ⟨_, _, rfl, rfl, by simp only [len_app, l2, la, lb, lc, ls, sizeLine_eq]; omega, ?_⟩⟩⟩
    have := q H9 (((((((((s0.trans s1).trans s2).trans s3).trans s4).trans s5).trans s6).trans s7).trans s8).trans s9)
    rw [show SX.S (timeL y m d l a) = SX.S (two (y / 100)) ++ SX.S (two (y % 100)) ++ Str.ofString "-" ++ SX.S (two m) ++ Str.ofString "-" ++ SX.S (two d) ++ Str.ofString " " ++ dayNames.getD (dayNo y m d % 7).toNat Str.empty ++ Str.ofString " " ++ SX.S (two (l / 60)) ++ Str.ofString ":" ++ SX.S (two (l % 60)) ++ Str.ofString " " ++ (⟨#[if a < 0 then 45 else 43]⟩ : Str) ++ SX.S (two (a.natAbs / 60)) ++ SX.S (two (a.natAbs % 60)) from TL.ext_tl (by
      simp only [TL.tl_append, tl_dash, tl_blank, tl_colon]
      show dateL y m d ++ [32] ++ TL.tl (dayNames.getD (dayNo y m d % 7).toNat Str.empty) ++ [32] ++ (two (l / 60) ++ [58] ++ two (l % 60)) ++ [32] ++ aheadL a = two (y / 100) ++ two (y % 100) ++ [45] ++ two m ++ [45] ++ two d ++ [32] ++ TL.tl (dayNames.getD (dayNo y m d % 7).toNat Str.empty) ++ [32] ++ two (l / 60) ++ [58] ++ two (l % 60) ++ [32] ++ [if a < 0 then 45 else 43] ++ two (a.natAbs / 60) ++ two (a.natAbs % 60)
      unfold dateL aheadL
      rw [four_two]
      simp only [List.append_assoc])] at this
    exact this
end
end K12

namespace K12
open PySem PySem.Spec PyProof.Rows L2 LH
section
variable {P : Program} {w : World} {K : PySem.W.Frag} {mg : Str → Option Value} {base : Heap} {tk : Nat → Tok} {ca : Nat → Addr} {dn md C : Addr}
/-- a date that is told as a new tuple -/
def TellD (H : Hp) (y m d : Nat) (Q : VK) : Prop := ∀ H' p, Same H H' → H p = none → H' p = some (.tup [.int (y : Nat), .int (m : Nat), .int (d : Nat)]) → Q (.ref p) H'
theorem pickI (ns : List Int) (m : Int) (h0 : 0 ≤ m) (h1 : m < ns.length) : ∃ v, v ∈ ns ∧ atI (ns.map V.int) m = some (.int v) := by
  obtain ⟨x, hx, e⟩ := pickL (ns.map V.int) m h0 (by rw [List.length_map]; exact h1)
  obtain ⟨v, hv, rfl⟩ := List.mem_map.mp hx
  exact ⟨v, hv, e⟩
theorem fresh_same {H H' : Hp} {p : Addr} (s : Same H H') (h : H' p = none) : H p = none := by
  cases e : H p with
  | none => rfl
  | some u => rw [s _ _ e] at h; exact nomatch h
theorem pos4 : (0 : Int) < 4 := by decide
/-! ### _law_ahead -/
abbrev s__law_ahead : Stmt := topS 52
abbrev N__law_ahead : List Str := ["_law_number"]
abbrev P__law_ahead : List Str := ["_law_number"]
theorem sc__law_ahead : FnScope N__law_ahead ["_law_number"] (defScope s__law_ahead) := ⟨rfl, rfl, rfl, by decide +kernel, rfl, by decide +kernel, by decide +kernel⟩
def sp_lahead : Sp := fun vs H Q _ => ∃ n : Int, vs = [.int n] ∧ 0 ≤ n ∧ ∀ i : Int, i.natAbs ≤ 840 → Tell H (.int i) Q
theorem ok_lahead {f : Addr} {fd : FuncData} {k : Nat} (F : Fun K "_law_ahead" "_law_ahead" s__law_ahead f fd) : FnOk P w K mg base CX0 (k + 1) f fd P__law_ahead sp_lahead := by
  refine F.ok sc__law_ahead (fun vs H Q E h => ?_) (fun cdv A outer s H vs Q E hr h => ?_)
  · obtain ⟨n, rfl, _⟩ := h
    rfl
  · have nd := sc__law_ahead.nd
    obtain ⟨n, rfl, h0, q⟩ := h
    refine ⟨_, (pss_one (ps_ret (pe_ix (ixL K) (pe_lst (pa_cons (pe_op op_sub (pe_op op_mod (pe_op op_fdiv (pv 0) pe_int) pe_int) pe_int) (pa_cons pe_int (pa_cons (pe_ix (ixL K) (pe_lst (pa_cons pe_int (pa_cons (pe_un un_neg pe_int) (pa_cons pe_int (pa_cons (pe_un un_neg pe_int) pa_nil))))) (pe_op op_mod (pe_op op_fdiv (pv 0) pe_int) pe_int) (fun _ _ => rfl)) (pa_cons (pe_op op_sub (pe_op op_mod (pe_op op_fdiv (pv 0) pe_int) pe_int) pe_int) pa_nil))))) (pe_op op_mod (pv 0) pe_int) (fun _ _ => rfl)))), ?_⟩
    obtain ⟨v2, hv2, e2⟩ := pickI [840, -840, 839, -839] (n / 4 % 4) (by omega) (by show _ < 4; omega)
    obtain ⟨v, hv, e⟩ := pickI [n / 4 % 1681 - 840, 0, v2, n / 4 % 119 - 59] (n % 4) (by omega) (by show _ < 4; omega)
    have h2 : v2.natAbs ≤ 840 := by
      simp only [List.mem_cons, List.not_mem_nil, or_false] at hv2
      omega
    have h3 : v.natAbs ≤ 840 := by
      simp only [List.mem_cons, List.not_mem_nil, or_false] at hv
      omega
    refine ⟨_, rfl, _, 4, rfl, rfl, ⟨by decide, by decide⟩, _, 1681, rfl, rfl, (show (0 : Int) < 1681 by decide), _, 840, rfl, rfl, 840, rfl, 839, rfl, by show 4 ≤ _; rw [sizeLine_eq]; decide, fun p1 hp1 => ⟨_, rfl, _, 4, rfl, rfl, ⟨by decide, by decide⟩, _, 4, rfl, rfl, pos4, p1, _, _, .int v2, rfl, rfl, .inl (.inl upd_same), e2, _, rfl, _, 4, rfl, rfl, ⟨by decide, by decide⟩, _, 119, rfl, rfl, (show (0 : Int) < 119 by decide), _, 59, rfl, rfl, by show 4 ≤ _; rw [sizeLine_eq]; decide, fun p hp => ⟨_, rfl, _, 4, rfl, rfl, pos4, p, _, _, .int v, rfl, rfl, .inl (.inl upd_same), e, q v h3 _ ((same_upd hp1).trans (same_upd hp))⟩⟩⟩
/-! ### _law_date -/
abbrev s__law_date : Stmt := topS 51
abbrev N__law_date : List Str := ["_law_number", "_law_rest", "_law_some", "_law_year", "_law_more", "_law_month", "_law_many", "_law_day_here"]
abbrev P__law_date : List Str := ["_law_number"]
theorem sc__law_date : FnScope N__law_date ["_law_number"] (defScope s__law_date) := ⟨rfl, rfl, rfl, by decide +kernel, rfl, by decide +kernel, by decide +kernel⟩
def sp_date : Sp := fun vs H Q _ => ∃ n : Int, vs = [.int n] ∧ 0 ≤ n ∧ n < 2147483648 ∧ ∀ y m d : Nat, Date y m d → TellD H y m d Q
theorem ok_date {fN fM f : Addr} {fdN fdM fd : FuncData} (F : Fun K "_law_date" "_law_date" s__law_date f fd) (T : Tx K mg tk dn md) (D__law_next : Def P w K mg base "_law_next" 1 fN fdN P__law_next sp_next) (D__law_many_days : Def P w K mg base "_law_many_days" 2 fM fdM P__law_many_days sp_many) : FnOk P w K mg base CX0 3 f fd P__law_date sp_date := by
  refine F.ok sc__law_date (fun vs H Q E h => ?_) (fun cdv A outer s H vs Q E hr h => ?_)
  · obtain ⟨n, rfl, _⟩ := h
    rfl
  · have nd := sc__law_date.nd
    obtain ⟨n, rfl, h0, h1, q⟩ := h
    refine ⟨_, (pss_cons (ps_set (i := 1) nd rfl (.inl rfl) (pe_op op_fdiv (pv 0) pe_int))
      (pss_cons (ps_set (i := 2) nd rfl (.inl rfl) (pe_lst (pa_cons (pe_op op_add pe_int (pe_op op_mod (pv 1) pe_int)) (pa_cons (pe_op op_mul pe_int (pe_op op_add pe_int (pe_op op_mod (pv 1) pe_int))) (pa_cons (pe_op op_mul pe_int (pe_op op_add pe_int (pe_op op_mod (pv 1) pe_int))) (pa_cons (pe_op op_mul pe_int (pe_op op_add pe_int (pe_op op_mod (pv 1) pe_int))) pa_nil))))))
      (pss_cons (ps_set (i := 3) nd rfl (.inl rfl) (pe_ix (ixL K) (pe_op op_cat (pv 2) (pe_lst (pa_cons pe_int (pa_cons pe_int (pa_cons (pe_op op_add pe_int (pe_op op_mod (pv 1) pe_int)) (pa_cons (pe_op op_add (pe_op op_mul pe_int (pe_op op_mod (pv 1) pe_int)) pe_int) pa_nil)))))) (pe_op op_mod (pv 0) pe_int) (fun _ _ => rfl)))
      (pss_cons (ps_set (i := 4) nd rfl (.inl rfl) (pe_def D__law_next (hr.mono (by decide)) (pa_cons (pv 0) (pa_cons pe_int pa_nil))))
      (pss_cons (ps_set (i := 5) nd rfl (.inl rfl) (pe_ix (ixL K) (pe_lst (pa_cons (pe_op op_add pe_int (pe_op op_mod (pe_op op_fdiv (pv 4) pe_int) pe_int)) (pa_cons pe_int (pa_cons pe_int (pa_cons (pe_op op_add pe_int (pe_op op_mod (pe_op op_fdiv (pv 4) pe_int) pe_int)) pa_nil))))) (pe_op op_mod (pv 4) pe_int) (fun _ _ => rfl)))
      (pss_cons (ps_set (i := 6) nd rfl (.inl rfl) (pe_def D__law_many_days (hr.mono (by decide)) (pa_cons (pv 3) (pa_cons (pv 5) pa_nil))))
      (pss_cons (ps_set (i := 1) nd rfl (.inl rfl) (pe_op op_fdiv (pv 4) pe_int))
      (pss_cons (ps_set (i := 7) nd rfl (.inl rfl) (pe_ix (ixL K) (pe_lst (pa_cons (pe_op op_add pe_int (pe_op op_mod (pe_op op_fdiv (pv 1) pe_int) (pv 6))) (pa_cons (pv 6) (pa_cons pe_int (pa_cons (pe_callB (call_max2 rfl) (by rfl) T.n_max (by decide +kernel) (pa_cons pe_int (pa_cons (pe_op op_sub (pv 6) (pe_op op_mod (pe_op op_fdiv (pv 1) pe_int) pe_int)) pa_nil))) pa_nil))))) (pe_op op_mod (pv 1) pe_int) (fun _ _ => rfl)))
      (pss_one (ps_ret (pe_tup (pa_cons (pv 3) (pa_cons (pv 5) (pa_cons (pv 7) pa_nil)))))))))))))), ?_⟩
    dsimp only [gName, tSeq, tAsg]
    have hmore := nextN_lt n 1
    obtain ⟨yi, hym, hya⟩ := pickI [1 + n / 8 % 9999, 100 * (1 + n / 8 % 99), 400 * (1 + n / 8 % 24), 4 * (1 + n / 8 % 2499), 1, 9999, 2 + n / 8 % 9998, 100 * (n / 8 % 99) + 1] (n % 8) (by omega) (by show _ < 8; omega)
    have hyb : 1 ≤ yi ∧ yi ≤ 9999 := by
      simp only [List.mem_cons, List.not_mem_nil, or_false] at hym
      omega
    obtain ⟨y, rfl⟩ : ∃ y : Nat, yi = (y : Int) := ⟨yi.toNat, by omega⟩
    obtain ⟨mi, hmm, hma⟩ := pickI [1 + nextN n 1 / 4 % 12, 2, 12, 1 + nextN n 1 / 4 % 12] (nextN n 1 % 4) (by omega) (by show _ < 4; omega)
    have hmb : 1 ≤ mi ∧ mi ≤ 12 := by
      simp only [List.mem_cons, List.not_mem_nil, or_false] at hmm
      omega
    obtain ⟨m, rfl⟩ : ∃ m : Nat, mi = (m : Int) := ⟨mi.toNat, by omega⟩
    have hmany := daysIn_ge y m
    have hr0 := Int.emod_nonneg (nextN n 1 / 48 / 4) (show daysIn y m ≠ 0 by omega)
    have hr1 := Int.emod_lt_of_pos (nextN n 1 / 48 / 4) (show 0 < daysIn y m by omega)
    obtain ⟨di, hdm, hda⟩ := pickI [1 + nextN n 1 / 48 / 4 % daysIn y m, daysIn y m, 1, if daysIn y m - nextN n 1 / 48 / 4 % 3 > 1 then daysIn y m - nextN n 1 / 48 / 4 % 3 else 1] (nextN n 1 / 48 % 4) (by omega) (by show _ < 4; omega)
    have hdb : 1 ≤ di ∧ di ≤ daysIn y m := by
      simp only [List.mem_cons, List.not_mem_nil, or_false] at hdm
      rcases hdm with rfl | rfl | rfl | rfl
      · omega
      · omega
      · omega
      · split <;> omega
    obtain ⟨d, rfl⟩ : ∃ d : Nat, di = (d : Int) := ⟨di.toNat, by omega⟩
    have hD : Date y m d := ⟨by omega, by omega, by omega, by omega, by omega, hdb.2⟩
    refine ⟨_, rfl, _, 8, rfl, rfl, ⟨by decide, by decide⟩, ?_⟩
    refine ⟨_, rfl, _, 9999, rfl, rfl, (show (0 : Int) < 9999 by decide), 1, _, rfl, rfl, _, rfl, _, 99, rfl, rfl, (show (0 : Int) < 99 by decide), 1, _, rfl, rfl, 100, _, rfl, rfl, .inl ⟨by decide, by decide⟩, _, rfl, _, 24, rfl, rfl, (show (0 : Int) < 24 by decide), 1, _, rfl, rfl, 400, _, rfl, rfl, .inl ⟨by decide, by decide⟩, _, rfl, _, 2499, rfl, rfl, (show (0 : Int) < 2499 by decide), 1, _, rfl, rfl, 4, _, rfl, rfl, .inl ⟨by decide, by decide⟩, by show 4 ≤ _; rw [sizeLine_eq]; decide, fun p1 hp1 => ?_⟩
    refine ⟨_, rfl, _, rfl, _, 9998, rfl, rfl, (show (0 : Int) < 9998 by decide), 2, _, rfl, rfl, _, rfl, _, 99, rfl, rfl, (show (0 : Int) < 99 by decide), 100, _, rfl, rfl, .inl ⟨by decide, by decide⟩, _, 1, rfl, rfl, by show 4 ≤ _; rw [sizeLine_eq]; decide, fun p2 hp2 => ⟨p1, p2, _, _, rfl, rfl, same_upd hp2 _ _ upd_same, upd_same, by show 8 ≤ _; rw [sizeLine_eq]; decide, fun p3 hp3 => ⟨_, rfl, _, 8, rfl, rfl, (show (0 : Int) < 8 by decide), p3, _, _, .int y, rfl, rfl, .inl (.inl upd_same), hya, ?_⟩⟩⟩
    refine ⟨_, rfl, n, 1, rfl, h0, h1, by decide, by decide, fun H4 s4 => ?_⟩
    refine ⟨_, rfl, _, 4, rfl, rfl, ⟨by decide, by decide⟩, _, 12, rfl, rfl, (show (0 : Int) < 12 by decide), 1, _, rfl, rfl, _, rfl, _, 4, rfl, rfl, ⟨by decide, by decide⟩, _, 12, rfl, rfl, (show (0 : Int) < 12 by decide), 1, _, rfl, rfl, by show 4 ≤ _; rw [sizeLine_eq]; decide, fun p4 hp4 => ⟨_, rfl, _, 4, rfl, rfl, pos4, p4, _, _, .int m, rfl, rfl, .inl (.inl upd_same), hma, ?_⟩⟩
    refine ⟨_, rfl, _, rfl, (y : Int), m, rfl, by omega, by omega, fun H5 s5 => ?_⟩
    refine ⟨_, rfl, _, 48, rfl, rfl, ⟨by decide, by decide⟩, ?_⟩
    refine ⟨_, rfl, _, 4, rfl, rfl, ⟨by decide, by decide⟩, _, rfl, _, _, rfl, rfl, (show (0 : Int) < daysIn y m by omega), 1, _, rfl, rfl, _, rfl, _, rfl, _, rfl, _, 4, rfl, rfl, ⟨by decide, by decide⟩, _, 3, rfl, rfl, (show (0 : Int) < 3 by decide), _, _, rfl, rfl, 1, _, rfl, by show 4 ≤ _; rw [sizeLine_eq]; decide, fun p5 hp5 => ⟨_, rfl, _, 4, rfl, rfl, pos4, p5, _, _, .int d, rfl, rfl, .inl (.inl upd_same), hda, ?_⟩⟩
    have s := ((((same_upd hp1).trans (same_upd hp2)).trans (same_upd hp3)).trans s4).trans (same_upd hp4) |>.trans s5
    refine ⟨_, rfl, _, rfl, _, rfl, by show 3 ≤ _; rw [sizeLine_eq]; decide, fun p hp => q y m d hD _ p ((s.trans (same_upd hp5)).trans (same_upd hp)) (fresh_same (s.trans (same_upd hp5)) hp) upd_same⟩
end
end K12

namespace K12
open PySem PySem.Spec PyProof.Rows L2 LH
/-! ### the classes of refusals -/
/-- a class whose errors hold their row and place -/
structure RaiseW (K : PySem.W.Frag) (hs C : Addr) : Prop where
  xc : ExcC K C
  fits : PySem.W.exmOne K (.ref C) (.ref hs) = some true
  base : PySem.W.kitOne K (.ref C) (.type "ValueError") = some true
  noL : PySem.W.findIn K (.ref C) "line" = some none
  noP : PySem.W.findIn K (.ref C) "place" = some none
/-- what isinstance says of its objects, class by class -/
def KitRow (K : PySem.W.Frag) (ca : Nat → Addr) (C : Addr) (row : List Bool) : Prop := row.length = 19 ∧ ∀ j, j < 19 → PySem.W.kitOne K (.ref C) (.ref (ca (j + 1))) = some (row.getD j false)
structure Ex (K : PySem.W.Frag) (mg : Str → Option Value) (ca : Nat → Addr) : Prop where
  m_HouseError : mg "HouseError" = some (.ref (ca 0))
  m_BadBytes : mg "BadBytes" = some (.ref (ca 1))
  m_BadName : mg "BadName" = some (.ref (ca 2))
  m_BadValue : mg "BadValue" = some (.ref (ca 3))
  m_TooLong : mg "TooLong" = some (.ref (ca 4))
  m_NoTime : mg "NoTime" = some (.ref (ca 5))
  m_BadPiece : mg "BadPiece" = some (.ref (ca 6))
  m_Twice : mg "Twice" = some (.ref (ca 7))
  m_NoLetter : mg "NoLetter" = some (.ref (ca 8))
  m_NoFolder : mg "NoFolder" = some (.ref (ca 9))
  m_BadLine : mg "BadLine" = some (.ref (ca 10))
  m_Wrong : mg "Wrong" = some (.ref (ca 11))
  m_BadRow : mg "BadRow" = some (.ref (ca 12))
  m_BadSixty : mg "BadSixty" = some (.ref (ca 13))
  m_BadSixteens : mg "BadSixteens" = some (.ref (ca 14))
  m_BadTime : mg "BadTime" = some (.ref (ca 15))
  m_BadPeople : mg "BadPeople" = some (.ref (ca 16))
  m_BadHeader : mg "BadHeader" = some (.ref (ca 17))
  m_BadBody : mg "BadBody" = some (.ref (ca 18))
  m_BadRule : mg "BadRule" = some (.ref (ca 19))
def nms : List Str := [Str.ofString "bytes", Str.ofString "name", Str.ofString "value", Str.ofString "long", Str.ofString "time", Str.ofString "piece", Str.ofString "twice", Str.ofString "letter", Str.ofString "folder", Str.ofString "line", Str.ofString "wrong", Str.ofString "row", Str.ofString "sixty", Str.ofString "sixteens", Str.ofString "badtime", Str.ofString "people", Str.ofString "header", Str.ofString "body", Str.ofString "rule", Str.ofString "base"]
/-- the words of a refusal -/
def kindWords (row : List Bool) : List Str := ((List.range 20).filter fun i => (row ++ [true]).getD i false).map fun i => nms.getD i Str.empty
section
variable {P : Program} {w : World} {K : PySem.W.Frag} {mg : Str → Option Value} {base : Heap} {tk : Nat → Tok} {ca : Nat → Addr} {dn md C : Addr}
/-- the list of pairs so far: at p refs to ts, the i-th a pair of a name and its truth -/
def Fnd (H : Hp) (p : Addr) (ts : List Addr) (bs : List Bool) : Prop := H p = some (.lst (ts.map V.ref)) ∧ ∀ i, i < ts.length → H (ts.getD i 0) = some (.tup [.str (nms.getD i Str.empty), .bl (bs.getD i false)])
theorem Fnd.grow {H H' : Hp} {p q : Addr} {ts us : List Addr} {bs : List Bool} (h : Fnd H p ts bs) (s : Same H H') (hq : H' q = some (.lst (ts.map V.ref ++ us.map V.ref))) (hu : ∀ j, j < us.length → H' (us.getD j 0) = some (.tup [.str (nms.getD (ts.length + j) Str.empty), .bl (bs.getD (ts.length + j) false)])) : Fnd H' q (ts ++ us) bs := by
  refine ⟨by rw [hq, List.map_append], fun i hi => ?_⟩
  by_cases hl : i < ts.length
  · rw [getD_app_l _ _ _ hl]
    exact s _ _ (h.2 i hl)
  · rw [getD_app_r _ _ _ (by omega)]
    rw [List.length_append] at hi
    have := hu (i - ts.length) (by omega)
    rw [show ts.length + (i - ts.length) = i by omega] at this
    exact this
/-! ### _law_kind -/
abbrev s__law_kind : Stmt := topS 59
abbrev N__law_kind : List Str := ["_law_e", "_law_found", "_law_words", "_law_word", "_law_one_fits"]
abbrev P__law_kind : List Str := ["_law_e"]
theorem sc__law_kind : FnScope N__law_kind ["_law_e"] (defScope s__law_kind) := ⟨rfl, rfl, rfl, by decide +kernel, rfl, by decide +kernel, by decide +kernel⟩
def sp_kind (K : PySem.W.Frag) (ca : Nat → Addr) : Sp := fun vs H Q _ => ∃ (a C dd : Addr) (l p : Int) (row : List Bool), vs = [.ref a] ∧ HeldD H C dd a (wrFields "badtime" l p) ∧ RaiseW K (ca 0) C ∧ KitRow K ca C row ∧ row.getD 10 false = true ∧ New H ((kindWords row).map V.str ++ [.int l, .int p]) Q
set_option maxHeartbeats 8000000 in
theorem ok_kind {f : Addr} {fd : FuncData} {k : Nat} (F : Fun K "_law_kind" "_law_kind" s__law_kind f fd) (T : Tx K mg tk dn md) (E : Ex K mg ca) : FnOk P w K mg base CX0 (k + 1) f fd P__law_kind (sp_kind K ca) := by
  refine F.ok sc__law_kind (fun vs H Q _ h => ?_) (fun cdv A outer s H vs Q _ hr h => ?_)
  · obtain ⟨a, C, dd, l, p, row, rfl, _⟩ := h
    rfl
  · have nd := sc__law_kind.nd
    obtain ⟨a, C, dd, l, p, row, rfl, hE, hR, ⟨hl, hK⟩, hW, q⟩ := h
    refine ⟨_, (pss_cons (ps_set (i := 1) nd rfl (.inl rfl) (pe_lst (pa_cons (pe_tup (pa_cons pe_str (pa_cons (pe_callB (cIsD K) (by rfl) T.n_isinstance (by decide +kernel) (pa_cons (pv 0) (pa_cons (pe_glob (v := .ref (ca 1)) (by rfl) E.m_BadBytes rfl) pa_nil))) pa_nil))) (pa_cons (pe_tup (pa_cons pe_str (pa_cons (pe_callB (cIsD K) (by rfl) T.n_isinstance (by decide +kernel) (pa_cons (pv 0) (pa_cons (pe_glob (v := .ref (ca 2)) (by rfl) E.m_BadName rfl) pa_nil))) pa_nil))) (pa_cons (pe_tup (pa_cons pe_str (pa_cons (pe_callB (cIsD K) (by rfl) T.n_isinstance (by decide +kernel) (pa_cons (pv 0) (pa_cons (pe_glob (v := .ref (ca 3)) (by rfl) E.m_BadValue rfl) pa_nil))) pa_nil))) pa_nil)))))
      (pss_cons (ps_set (i := 1) nd rfl (.inl rfl) (pe_op op_cat (pv 1) (pe_lst (pa_cons (pe_tup (pa_cons pe_str (pa_cons (pe_callB (cIsD K) (by rfl) T.n_isinstance (by decide +kernel) (pa_cons (pv 0) (pa_cons (pe_glob (v := .ref (ca 4)) (by rfl) E.m_TooLong rfl) pa_nil))) pa_nil))) (pa_cons (pe_tup (pa_cons pe_str (pa_cons (pe_callB (cIsD K) (by rfl) T.n_isinstance (by decide +kernel) (pa_cons (pv 0) (pa_cons (pe_glob (v := .ref (ca 5)) (by rfl) E.m_NoTime rfl) pa_nil))) pa_nil))) pa_nil)))))
      (pss_cons (ps_set (i := 1) nd rfl (.inl rfl) (pe_op op_cat (pv 1) (pe_lst (pa_cons (pe_tup (pa_cons pe_str (pa_cons (pe_callB (cIsD K) (by rfl) T.n_isinstance (by decide +kernel) (pa_cons (pv 0) (pa_cons (pe_glob (v := .ref (ca 6)) (by rfl) E.m_BadPiece rfl) pa_nil))) pa_nil))) (pa_cons (pe_tup (pa_cons pe_str (pa_cons (pe_callB (cIsD K) (by rfl) T.n_isinstance (by decide +kernel) (pa_cons (pv 0) (pa_cons (pe_glob (v := .ref (ca 7)) (by rfl) E.m_Twice rfl) pa_nil))) pa_nil))) pa_nil)))))
      (pss_cons (ps_set (i := 1) nd rfl (.inl rfl) (pe_op op_cat (pv 1) (pe_lst (pa_cons (pe_tup (pa_cons pe_str (pa_cons (pe_callB (cIsD K) (by rfl) T.n_isinstance (by decide +kernel) (pa_cons (pv 0) (pa_cons (pe_glob (v := .ref (ca 8)) (by rfl) E.m_NoLetter rfl) pa_nil))) pa_nil))) (pa_cons (pe_tup (pa_cons pe_str (pa_cons (pe_callB (cIsD K) (by rfl) T.n_isinstance (by decide +kernel) (pa_cons (pv 0) (pa_cons (pe_glob (v := .ref (ca 9)) (by rfl) E.m_NoFolder rfl) pa_nil))) pa_nil))) pa_nil)))))
      (pss_cons (ps_set (i := 1) nd rfl (.inl rfl) (pe_op op_cat (pv 1) (pe_lst (pa_cons (pe_tup (pa_cons pe_str (pa_cons (pe_callB (cIsD K) (by rfl) T.n_isinstance (by decide +kernel) (pa_cons (pv 0) (pa_cons (pe_glob (v := .ref (ca 10)) (by rfl) E.m_BadLine rfl) pa_nil))) pa_nil))) (pa_cons (pe_tup (pa_cons pe_str (pa_cons (pe_callB (cIsD K) (by rfl) T.n_isinstance (by decide +kernel) (pa_cons (pv 0) (pa_cons (pe_glob (v := .ref (ca 11)) (by rfl) E.m_Wrong rfl) pa_nil))) pa_nil))) (pa_cons (pe_tup (pa_cons pe_str (pa_cons (pe_callB (cIsD K) (by rfl) T.n_isinstance (by decide +kernel) (pa_cons (pv 0) (pa_cons (pe_glob (v := .ref (ca 12)) (by rfl) E.m_BadRow rfl) pa_nil))) pa_nil))) pa_nil))))))
      (pss_cons (ps_set (i := 1) nd rfl (.inl rfl) (pe_op op_cat (pv 1) (pe_lst (pa_cons (pe_tup (pa_cons pe_str (pa_cons (pe_callB (cIsD K) (by rfl) T.n_isinstance (by decide +kernel) (pa_cons (pv 0) (pa_cons (pe_glob (v := .ref (ca 13)) (by rfl) E.m_BadSixty rfl) pa_nil))) pa_nil))) (pa_cons (pe_tup (pa_cons pe_str (pa_cons (pe_callB (cIsD K) (by rfl) T.n_isinstance (by decide +kernel) (pa_cons (pv 0) (pa_cons (pe_glob (v := .ref (ca 14)) (by rfl) E.m_BadSixteens rfl) pa_nil))) pa_nil))) pa_nil)))))
      (pss_cons (ps_set (i := 1) nd rfl (.inl rfl) (pe_op op_cat (pv 1) (pe_lst (pa_cons (pe_tup (pa_cons pe_str (pa_cons (pe_callB (cIsD K) (by rfl) T.n_isinstance (by decide +kernel) (pa_cons (pv 0) (pa_cons (pe_glob (v := .ref (ca 15)) (by rfl) E.m_BadTime rfl) pa_nil))) pa_nil))) (pa_cons (pe_tup (pa_cons pe_str (pa_cons (pe_callB (cIsD K) (by rfl) T.n_isinstance (by decide +kernel) (pa_cons (pv 0) (pa_cons (pe_glob (v := .ref (ca 16)) (by rfl) E.m_BadPeople rfl) pa_nil))) pa_nil))) pa_nil)))))
      (pss_cons (ps_set (i := 1) nd rfl (.inl rfl) (pe_op op_cat (pv 1) (pe_lst (pa_cons (pe_tup (pa_cons pe_str (pa_cons (pe_callB (cIsD K) (by rfl) T.n_isinstance (by decide +kernel) (pa_cons (pv 0) (pa_cons (pe_glob (v := .ref (ca 17)) (by rfl) E.m_BadHeader rfl) pa_nil))) pa_nil))) (pa_cons (pe_tup (pa_cons pe_str (pa_cons (pe_callB (cIsD K) (by rfl) T.n_isinstance (by decide +kernel) (pa_cons (pv 0) (pa_cons (pe_glob (v := .ref (ca 18)) (by rfl) E.m_BadBody rfl) pa_nil))) pa_nil))) pa_nil)))))
      (pss_cons (ps_set (i := 1) nd rfl (.inl rfl) (pe_op op_cat (pv 1) (pe_lst (pa_cons (pe_tup (pa_cons pe_str (pa_cons (pe_callB (cIsD K) (by rfl) T.n_isinstance (by decide +kernel) (pa_cons (pv 0) (pa_cons (pe_glob (v := .ref (ca 19)) (by rfl) E.m_BadRule rfl) pa_nil))) pa_nil))) (pa_cons (pe_tup (pa_cons pe_str (pa_cons (pe_callB (cIsD K) (by rfl) T.n_isinstance (by decide +kernel) (pa_cons (pv 0) (pa_cons (pe_bltn (v := .ty "ValueError") (by rfl) T.n_ValueError (by decide +kernel) rfl) pa_nil))) pa_nil))) pa_nil)))))
      (pss_cons (ps_setLc (i := 2) (own := [("_law_word", 3), ("_law_one_fits", 4)]) (g := gTup K 2 (gCons (gName 3) (gCons (gName 4) gNil))) (by rfl) nd rfl rfl (sw_true rfl rfl rfl (by decide +kernel)) (pi_list (pv 1)) (blkOk_by (N := N__law_kind) (sc := defScope s__law_kind) (by decide +kernel)) (fun _ _ _ _ _ => by exact (pg_tup rfl (pgs_cons (pg_name (i := 3) nd rfl (Or.inl rfl)) (pgs_cons (pg_name (i := 4) nd rfl (Or.inl rfl)) pgs_nil)))) (fun _ _ _ _ _ => (pts_one (pt_val (pv 4)))) (fun _ _ _ _ _ => (pv 3)))
      (pss_cons (ps_if (pt_val (pe_callB (cIsD K) (by rfl) T.n_isinstance (by decide +kernel) (pa_cons (pv 0) (pa_cons (pe_glob (v := .ref (ca 11)) (by rfl) E.m_Wrong rfl) pa_nil))))
        (pss_one (ps_set (i := 2) nd rfl (.inl rfl) (pe_op op_cat (pv 2) (pe_lst (pa_cons (pe_fldD (K := K) (pv 0)) (pa_cons (pe_fldD (K := K) (pv 0)) pa_nil))))))
        pss_nil)
      (pss_one (ps_ret (pv 2)))))))))))))), ?_⟩
    have X := hR.xc
    have rr : ∀ (c : Addr) (u : Value), RelV (.ref c) u → u = .ref c := fun _ _ h => h
    have rt : ∀ (u : Value), RelV (.ty "ValueError") u → u = .type "ValueError" := fun _ h => h
    have bsD : ∀ i, i < 19 → (row ++ [true]).getD i false = row.getD i false := fun i hi => getD_app_l _ _ _ (by omega)
    have bs19 : (row ++ [true]).getD 19 false = true := by rw [getD_app_r _ _ _ (by omega), hl]; rfl
    have n2 : 2 ≤ sizeLine := Nat.le_of_lt (small1000 (by decide))
    have n3 : 3 ≤ sizeLine := Nat.le_of_lt (small1000 (by decide))
    have x0_0 : HeldD H C dd a (wrFields "badtime" l p) := hE
    refine ⟨.ref a, rfl, a, C, dd, _, .ref (ca 1), .ref (ca 1), _, rfl, x0_0, X, rr _, hK 0 (by decide), n2, fun t0 nt0 => ?_⟩
    have v0 := same_upd (o := .tup [.str (Str.ofString "bytes"), .bl (row.getD 0 false)]) nt0
    have x0_1 := x0_0.same v0
    refine ⟨.ref a, rfl, a, C, dd, _, .ref (ca 2), .ref (ca 2), _, rfl, x0_1, X, rr _, hK 1 (by decide), n2, fun t1 nt1 => ?_⟩
    have v1 := same_upd (o := .tup [.str (Str.ofString "name"), .bl (row.getD 1 false)]) nt1
    have x0_2 := x0_1.same v1
    refine ⟨.ref a, rfl, a, C, dd, _, .ref (ca 3), .ref (ca 3), _, rfl, x0_2, X, rr _, hK 2 (by decide), n2, fun t2 nt2 => ?_⟩
    have v2 := same_upd (o := .tup [.str (Str.ofString "value"), .bl (row.getD 2 false)]) nt2
    refine ⟨n3, fun l0 nl0 => ?_⟩
    have w0 := same_upd (o := .lst [V.ref t0, V.ref t1, V.ref t2]) nl0
    have y0 := w0 t0 _ (v2 _ _ (v1 _ _ upd_same))
    have y1 := w0 t1 _ (v2 _ _ upd_same)
    have y2 := w0 t2 _ upd_same
    generalize hH0 : upd _ l0 (.lst [V.ref t0, V.ref t1, V.ref t2]) = H0 at *
    have S0 : Same H H0 := (v0.trans (v1.trans (v2.trans w0)))
    have F0 : Fnd H0 l0 [t0, t1, t2] (row ++ [true]) := by
      refine ⟨by rw [← hH0, upd_same]; rfl, fun i hi => ?_⟩
      have : i = 0 ∨ i = 1 ∨ i = 2 := by have : i < 3 := hi; omega
      rcases this with rfl | rfl | rfl
      · rw [bsD 0 (by decide)]; exact y0
      · rw [bsD 1 (by decide)]; exact y1
      · rw [bsD 2 (by decide)]; exact y2
    have x1_0 : HeldD H0 C dd a (wrFields "badtime" l p) := hE.same S0
    refine ⟨.ref l0, rfl, .ref a, rfl, a, C, dd, _, .ref (ca 4), .ref (ca 4), _, rfl, x1_0, X, rr _, hK 3 (by decide), n2, fun t3 nt3 => ?_⟩
    have v3 := same_upd (o := .tup [.str (Str.ofString "long"), .bl (row.getD 3 false)]) nt3
    have x1_1 := x1_0.same v3
    refine ⟨.ref a, rfl, a, C, dd, _, .ref (ca 5), .ref (ca 5), _, rfl, x1_1, X, rr _, hK 4 (by decide), n2, fun t4 nt4 => ?_⟩
    have v4 := same_upd (o := .tup [.str (Str.ofString "time"), .bl (row.getD 4 false)]) nt4
    refine ⟨n2, fun l1 nl1 => ?_⟩
    have w1 := same_upd (o := .lst [V.ref t3, V.ref t4]) nl1
    have y3 := w1 t3 _ (v4 _ _ upd_same)
    have y4 := w1 t4 _ upd_same
    refine ⟨l0, l1, _, _, rfl, rfl, (v3.trans (v4.trans w1)) _ _ F0.1, upd_same, by rw [List.length_map, sizeLine_eq]; show 5 ≤ 16777216; decide, fun p1 np1 => ?_⟩
    have z1 := same_upd (o := .lst (([t0, t1, t2] : List Addr).map V.ref ++ [V.ref t3, V.ref t4])) np1
    have F1 : Fnd _ p1 [t0, t1, t2, t3, t4] (row ++ [true]) := F0.grow ((v3.trans (v4.trans w1)).trans z1) upd_same (us := [t3, t4]) fun j hj => by
      have : j = 0 ∨ j = 1 := by have : j < 2 := hj; omega
      rcases this with rfl | rfl
      · rw [show [t0, t1, t2].length + 0 = 3 from rfl, bsD 3 (by decide)]; exact z1 _ _ y3
      · rw [show [t0, t1, t2].length + 1 = 4 from rfl, bsD 4 (by decide)]; exact z1 _ _ y4
    have S1 : Same H _ := S0.trans ((v3.trans (v4.trans w1)).trans z1)
    generalize hH1 : upd _ p1 _ = H1 at F1 S1 ⊢
    clear z1 y3 y4 hH1
    have x2_0 : HeldD H1 C dd a (wrFields "badtime" l p) := hE.same S1
    refine ⟨.ref p1, rfl, .ref a, rfl, a, C, dd, _, .ref (ca 6), .ref (ca 6), _, rfl, x2_0, X, rr _, hK 5 (by decide), n2, fun t5 nt5 => ?_⟩
    have v5 := same_upd (o := .tup [.str (Str.ofString "piece"), .bl (row.getD 5 false)]) nt5
    have x2_1 := x2_0.same v5
    refine ⟨.ref a, rfl, a, C, dd, _, .ref (ca 7), .ref (ca 7), _, rfl, x2_1, X, rr _, hK 6 (by decide), n2, fun t6 nt6 => ?_⟩
    have v6 := same_upd (o := .tup [.str (Str.ofString "twice"), .bl (row.getD 6 false)]) nt6
    refine ⟨n2, fun l2 nl2 => ?_⟩
    have w2 := same_upd (o := .lst [V.ref t5, V.ref t6]) nl2
    have y5 := w2 t5 _ (v6 _ _ upd_same)
    have y6 := w2 t6 _ upd_same
    refine ⟨p1, l2, _, _, rfl, rfl, (v5.trans (v6.trans w2)) _ _ F1.1, upd_same, by rw [List.length_map, sizeLine_eq]; show 7 ≤ 16777216; decide, fun p2 np2 => ?_⟩
    have z2 := same_upd (o := .lst (([t0, t1, t2, t3, t4] : List Addr).map V.ref ++ [V.ref t5, V.ref t6])) np2
    have F2 : Fnd _ p2 [t0, t1, t2, t3, t4, t5, t6] (row ++ [true]) := F1.grow ((v5.trans (v6.trans w2)).trans z2) upd_same (us := [t5, t6]) fun j hj => by
      have : j = 0 ∨ j = 1 := by have : j < 2 := hj; omega
      rcases this with rfl | rfl
      · rw [show [t0, t1, t2, t3, t4].length + 0 = 5 from rfl, bsD 5 (by decide)]; exact z2 _ _ y5
      · rw [show [t0, t1, t2, t3, t4].length + 1 = 6 from rfl, bsD 6 (by decide)]; exact z2 _ _ y6
    have S2 : Same H _ := S1.trans ((v5.trans (v6.trans w2)).trans z2)
    generalize hH2 : upd _ p2 _ = H2 at F2 S2 ⊢
    clear z2 y5 y6 hH2
    have x3_0 : HeldD H2 C dd a (wrFields "badtime" l p) := hE.same S2
    refine ⟨.ref p2, rfl, .ref a, rfl, a, C, dd, _, .ref (ca 8), .ref (ca 8), _, rfl, x3_0, X, rr _, hK 7 (by decide), n2, fun t7 nt7 => ?_⟩
    have v7 := same_upd (o := .tup [.str (Str.ofString "letter"), .bl (row.getD 7 false)]) nt7
    have x3_1 := x3_0.same v7
    refine ⟨.ref a, rfl, a, C, dd, _, .ref (ca 9), .ref (ca 9), _, rfl, x3_1, X, rr _, hK 8 (by decide), n2, fun t8 nt8 => ?_⟩
    have v8 := same_upd (o := .tup [.str (Str.ofString "folder"), .bl (row.getD 8 false)]) nt8
    refine ⟨n2, fun l3 nl3 => ?_⟩
    have w3 := same_upd (o := .lst [V.ref t7, V.ref t8]) nl3
    have y7 := w3 t7 _ (v8 _ _ upd_same)
    have y8 := w3 t8 _ upd_same
    refine ⟨p2, l3, _, _, rfl, rfl, (v7.trans (v8.trans w3)) _ _ F2.1, upd_same, by rw [List.length_map, sizeLine_eq]; show 9 ≤ 16777216; decide, fun p3 np3 => ?_⟩
    have z3 := same_upd (o := .lst (([t0, t1, t2, t3, t4, t5, t6] : List Addr).map V.ref ++ [V.ref t7, V.ref t8])) np3
    have F3 : Fnd _ p3 [t0, t1, t2, t3, t4, t5, t6, t7, t8] (row ++ [true]) := F2.grow ((v7.trans (v8.trans w3)).trans z3) upd_same (us := [t7, t8]) fun j hj => by
      have : j = 0 ∨ j = 1 := by have : j < 2 := hj; omega
      rcases this with rfl | rfl
      · rw [show [t0, t1, t2, t3, t4, t5, t6].length + 0 = 7 from rfl, bsD 7 (by decide)]; exact z3 _ _ y7
      · rw [show [t0, t1, t2, t3, t4, t5, t6].length + 1 = 8 from rfl, bsD 8 (by decide)]; exact z3 _ _ y8
    have S3 : Same H _ := S2.trans ((v7.trans (v8.trans w3)).trans z3)
    generalize hH3 : upd _ p3 _ = H3 at F3 S3 ⊢
    clear z3 y7 y8 hH3
    have x4_0 : HeldD H3 C dd a (wrFields "badtime" l p) := hE.same S3
    refine ⟨.ref p3, rfl, .ref a, rfl, a, C, dd, _, .ref (ca 10), .ref (ca 10), _, rfl, x4_0, X, rr _, hK 9 (by decide), n2, fun t9 nt9 => ?_⟩
    have v9 := same_upd (o := .tup [.str (Str.ofString "line"), .bl (row.getD 9 false)]) nt9
    have x4_1 := x4_0.same v9
    refine ⟨.ref a, rfl, a, C, dd, _, .ref (ca 11), .ref (ca 11), _, rfl, x4_1, X, rr _, hK 10 (by decide), n2, fun t10 nt10 => ?_⟩
    have v10 := same_upd (o := .tup [.str (Str.ofString "wrong"), .bl (row.getD 10 false)]) nt10
    have x4_2 := x4_1.same v10
    refine ⟨.ref a, rfl, a, C, dd, _, .ref (ca 12), .ref (ca 12), _, rfl, x4_2, X, rr _, hK 11 (by decide), n2, fun t11 nt11 => ?_⟩
    have v11 := same_upd (o := .tup [.str (Str.ofString "row"), .bl (row.getD 11 false)]) nt11
    refine ⟨n3, fun l4 nl4 => ?_⟩
    have w4 := same_upd (o := .lst [V.ref t9, V.ref t10, V.ref t11]) nl4
    have y9 := w4 t9 _ (v11 _ _ (v10 _ _ upd_same))
    have y10 := w4 t10 _ (v11 _ _ upd_same)
    have y11 := w4 t11 _ upd_same
    refine ⟨p3, l4, _, _, rfl, rfl, (v9.trans (v10.trans (v11.trans w4))) _ _ F3.1, upd_same, by rw [List.length_map, sizeLine_eq]; show 12 ≤ 16777216; decide, fun p4 np4 => ?_⟩
    have z4 := same_upd (o := .lst (([t0, t1, t2, t3, t4, t5, t6, t7, t8] : List Addr).map V.ref ++ [V.ref t9, V.ref t10, V.ref t11])) np4
    have F4 : Fnd _ p4 [t0, t1, t2, t3, t4, t5, t6, t7, t8, t9, t10, t11] (row ++ [true]) := F3.grow ((v9.trans (v10.trans (v11.trans w4))).trans z4) upd_same (us := [t9, t10, t11]) fun j hj => by
      have : j = 0 ∨ j = 1 ∨ j = 2 := by have : j < 3 := hj; omega
      rcases this with rfl | rfl | rfl
      · rw [show [t0, t1, t2, t3, t4, t5, t6, t7, t8].length + 0 = 9 from rfl, bsD 9 (by decide)]; exact z4 _ _ y9
      · rw [show [t0, t1, t2, t3, t4, t5, t6, t7, t8].length + 1 = 10 from rfl, bsD 10 (by decide)]; exact z4 _ _ y10
      · rw [show [t0, t1, t2, t3, t4, t5, t6, t7, t8].length + 2 = 11 from rfl, bsD 11 (by decide)]; exact z4 _ _ y11
    have S4 : Same H _ := S3.trans ((v9.trans (v10.trans (v11.trans w4))).trans z4)
    generalize hH4 : upd _ p4 _ = H4 at F4 S4 ⊢
    clear z4 y9 y10 y11 hH4
    have x5_0 : HeldD H4 C dd a (wrFields "badtime" l p) := hE.same S4
    refine ⟨.ref p4, rfl, .ref a, rfl, a, C, dd, _, .ref (ca 13), .ref (ca 13), _, rfl, x5_0, X, rr _, hK 12 (by decide), n2, fun t12 nt12 => ?_⟩
    have v12 := same_upd (o := .tup [.str (Str.ofString "sixty"), .bl (row.getD 12 false)]) nt12
    have x5_1 := x5_0.same v12
    refine ⟨.ref a, rfl, a, C, dd, _, .ref (ca 14), .ref (ca 14), _, rfl, x5_1, X, rr _, hK 13 (by decide), n2, fun t13 nt13 => ?_⟩
    have v13 := same_upd (o := .tup [.str (Str.ofString "sixteens"), .bl (row.getD 13 false)]) nt13
    refine ⟨n2, fun l5 nl5 => ?_⟩
    have w5 := same_upd (o := .lst [V.ref t12, V.ref t13]) nl5
    have y12 := w5 t12 _ (v13 _ _ upd_same)
    have y13 := w5 t13 _ upd_same
    refine ⟨p4, l5, _, _, rfl, rfl, (v12.trans (v13.trans w5)) _ _ F4.1, upd_same, by rw [List.length_map, sizeLine_eq]; show 14 ≤ 16777216; decide, fun p5 np5 => ?_⟩
    have z5 := same_upd (o := .lst (([t0, t1, t2, t3, t4, t5, t6, t7, t8, t9, t10, t11] : List Addr).map V.ref ++ [V.ref t12, V.ref t13])) np5
    have F5 : Fnd _ p5 [t0, t1, t2, t3, t4, t5, t6, t7, t8, t9, t10, t11, t12, t13] (row ++ [true]) := F4.grow ((v12.trans (v13.trans w5)).trans z5) upd_same (us := [t12, t13]) fun j hj => by
      have : j = 0 ∨ j = 1 := by have : j < 2 := hj; omega
      rcases this with rfl | rfl
      · rw [show [t0, t1, t2, t3, t4, t5, t6, t7, t8, t9, t10, t11].length + 0 = 12 from rfl, bsD 12 (by decide)]; exact z5 _ _ y12
      · rw [show [t0, t1, t2, t3, t4, t5, t6, t7, t8, t9, t10, t11].length + 1 = 13 from rfl, bsD 13 (by decide)]; exact z5 _ _ y13
    have S5 : Same H _ := S4.trans ((v12.trans (v13.trans w5)).trans z5)
    generalize hH5 : upd _ p5 _ = H5 at F5 S5 ⊢
    clear z5 y12 y13 hH5
    have x6_0 : HeldD H5 C dd a (wrFields "badtime" l p) := hE.same S5
    refine ⟨.ref p5, rfl, .ref a, rfl, a, C, dd, _, .ref (ca 15), .ref (ca 15), _, rfl, x6_0, X, rr _, hK 14 (by decide), n2, fun t14 nt14 => ?_⟩
    have v14 := same_upd (o := .tup [.str (Str.ofString "badtime"), .bl (row.getD 14 false)]) nt14
    have x6_1 := x6_0.same v14
    refine ⟨.ref a, rfl, a, C, dd, _, .ref (ca 16), .ref (ca 16), _, rfl, x6_1, X, rr _, hK 15 (by decide), n2, fun t15 nt15 => ?_⟩
    have v15 := same_upd (o := .tup [.str (Str.ofString "people"), .bl (row.getD 15 false)]) nt15
    refine ⟨n2, fun l6 nl6 => ?_⟩
    have w6 := same_upd (o := .lst [V.ref t14, V.ref t15]) nl6
    have y14 := w6 t14 _ (v15 _ _ upd_same)
    have y15 := w6 t15 _ upd_same
    refine ⟨p5, l6, _, _, rfl, rfl, (v14.trans (v15.trans w6)) _ _ F5.1, upd_same, by rw [List.length_map, sizeLine_eq]; show 16 ≤ 16777216; decide, fun p6 np6 => ?_⟩
    have z6 := same_upd (o := .lst (([t0, t1, t2, t3, t4, t5, t6, t7, t8, t9, t10, t11, t12, t13] : List Addr).map V.ref ++ [V.ref t14, V.ref t15])) np6
    have F6 : Fnd _ p6 [t0, t1, t2, t3, t4, t5, t6, t7, t8, t9, t10, t11, t12, t13, t14, t15] (row ++ [true]) := F5.grow ((v14.trans (v15.trans w6)).trans z6) upd_same (us := [t14, t15]) fun j hj => by
      have : j = 0 ∨ j = 1 := by have : j < 2 := hj; omega
      rcases this with rfl | rfl
      · rw [show [t0, t1, t2, t3, t4, t5, t6, t7, t8, t9, t10, t11, t12, t13].length + 0 = 14 from rfl, bsD 14 (by decide)]; exact z6 _ _ y14
      · rw [show [t0, t1, t2, t3, t4, t5, t6, t7, t8, t9, t10, t11, t12, t13].length + 1 = 15 from rfl, bsD 15 (by decide)]; exact z6 _ _ y15
    have S6 : Same H _ := S5.trans ((v14.trans (v15.trans w6)).trans z6)
    generalize hH6 : upd _ p6 _ = H6 at F6 S6 ⊢
    clear z6 y14 y15 hH6
    have x7_0 : HeldD H6 C dd a (wrFields "badtime" l p) := hE.same S6
    refine ⟨.ref p6, rfl, .ref a, rfl, a, C, dd, _, .ref (ca 17), .ref (ca 17), _, rfl, x7_0, X, rr _, hK 16 (by decide), n2, fun t16 nt16 => ?_⟩
    have v16 := same_upd (o := .tup [.str (Str.ofString "header"), .bl (row.getD 16 false)]) nt16
    have x7_1 := x7_0.same v16
    refine ⟨.ref a, rfl, a, C, dd, _, .ref (ca 18), .ref (ca 18), _, rfl, x7_1, X, rr _, hK 17 (by decide), n2, fun t17 nt17 => ?_⟩
    have v17 := same_upd (o := .tup [.str (Str.ofString "body"), .bl (row.getD 17 false)]) nt17
    refine ⟨n2, fun l7 nl7 => ?_⟩
    have w7 := same_upd (o := .lst [V.ref t16, V.ref t17]) nl7
    have y16 := w7 t16 _ (v17 _ _ upd_same)
    have y17 := w7 t17 _ upd_same
    refine ⟨p6, l7, _, _, rfl, rfl, (v16.trans (v17.trans w7)) _ _ F6.1, upd_same, by rw [List.length_map, sizeLine_eq]; show 18 ≤ 16777216; decide, fun p7 np7 => ?_⟩
    have z7 := same_upd (o := .lst (([t0, t1, t2, t3, t4, t5, t6, t7, t8, t9, t10, t11, t12, t13, t14, t15] : List Addr).map V.ref ++ [V.ref t16, V.ref t17])) np7
    have F7 : Fnd _ p7 [t0, t1, t2, t3, t4, t5, t6, t7, t8, t9, t10, t11, t12, t13, t14, t15, t16, t17] (row ++ [true]) := F6.grow ((v16.trans (v17.trans w7)).trans z7) upd_same (us := [t16, t17]) fun j hj => by
      have : j = 0 ∨ j = 1 := by have : j < 2 := hj; omega
      rcases this with rfl | rfl
      · rw [show [t0, t1, t2, t3, t4, t5, t6, t7, t8, t9, t10, t11, t12, t13, t14, t15].length + 0 = 16 from rfl, bsD 16 (by decide)]; exact z7 _ _ y16
      · rw [show [t0, t1, t2, t3, t4, t5, t6, t7, t8, t9, t10, t11, t12, t13, t14, t15].length + 1 = 17 from rfl, bsD 17 (by decide)]; exact z7 _ _ y17
    have S7 : Same H _ := S6.trans ((v16.trans (v17.trans w7)).trans z7)
    generalize hH7 : upd _ p7 _ = H7 at F7 S7 ⊢
    clear z7 y16 y17 hH7
    have x8_0 : HeldD H7 C dd a (wrFields "badtime" l p) := hE.same S7
    refine ⟨.ref p7, rfl, .ref a, rfl, a, C, dd, _, .ref (ca 19), .ref (ca 19), _, rfl, x8_0, X, rr _, hK 18 (by decide), n2, fun t18 nt18 => ?_⟩
    have v18 := same_upd (o := .tup [.str (Str.ofString "rule"), .bl (row.getD 18 false)]) nt18
    have x8_1 := x8_0.same v18
    refine ⟨.ref a, rfl, a, C, dd, _, .ty "ValueError", .type "ValueError", _, rfl, x8_1, X, rt, hR.base, n2, fun t19 nt19 => ?_⟩
    have v19 := same_upd (o := .tup [.str (Str.ofString "base"), .bl (true)]) nt19
    refine ⟨n2, fun l8 nl8 => ?_⟩
    have w8 := same_upd (o := .lst [V.ref t18, V.ref t19]) nl8
    have y18 := w8 t18 _ (v19 _ _ upd_same)
    have y19 := w8 t19 _ upd_same
    refine ⟨p7, l8, _, _, rfl, rfl, (v18.trans (v19.trans w8)) _ _ F7.1, upd_same, by rw [List.length_map, sizeLine_eq]; show 20 ≤ 16777216; decide, fun p8 np8 => ?_⟩
    have z8 := same_upd (o := .lst (([t0, t1, t2, t3, t4, t5, t6, t7, t8, t9, t10, t11, t12, t13, t14, t15, t16, t17] : List Addr).map V.ref ++ [V.ref t18, V.ref t19])) np8
    have F8 : Fnd _ p8 [t0, t1, t2, t3, t4, t5, t6, t7, t8, t9, t10, t11, t12, t13, t14, t15, t16, t17, t18, t19] (row ++ [true]) := F7.grow ((v18.trans (v19.trans w8)).trans z8) upd_same (us := [t18, t19]) fun j hj => by
      have : j = 0 ∨ j = 1 := by have : j < 2 := hj; omega
      rcases this with rfl | rfl
      · rw [show [t0, t1, t2, t3, t4, t5, t6, t7, t8, t9, t10, t11, t12, t13, t14, t15, t16, t17].length + 0 = 18 from rfl, bsD 18 (by decide)]; exact z8 _ _ y18
      · rw [show [t0, t1, t2, t3, t4, t5, t6, t7, t8, t9, t10, t11, t12, t13, t14, t15, t16, t17].length + 1 = 19 from rfl, bs19]; exact z8 _ _ y19
    have S8 : Same H _ := S7.trans ((v18.trans (v19.trans w8)).trans z8)
    generalize hH8 : upd _ p8 _ = H8 at F8 S8 ⊢
    clear z8 y18 y19 hH8
    generalize hts : [t0, t1, t2, t3, t4, t5, t6, t7, t8, t9, t10, t11, t12, t13, t14, t15, t16, t17, t18, t19] = ts at F8
    have htl : ts.length = 20 := by rw [← hts]; rfl
    refine ⟨.ref p8, rfl, p8, rfl, ⟨_, .inl (.inl F8.1)⟩, fun D hD => lc_pairs (ts := ts) (ps := fun i => (.str (nms.getD i Str.empty), .bl ((row ++ [true]).getD i false))) (fun i => .str (nms.getD i Str.empty)) (fun i => (row ++ [true]).getD i false) (by decide) (.inl (.inl F8.1)) (fun i hi => .inl (.inl (F8.2 i hi))) hD (by rw [htl]; exact Nat.le_of_lt (small1000 (by decide))) (fun i H9 Q9 hi sm q9 => ?_) (fun i H9 Q9 hi sm hb q9 => ?_) (fun H9 s9 e9 => ?_)⟩
    · exact ⟨.bl ((row ++ [true]).getD i false), rfl, _, rfl, q9 _ (Same.refl _)⟩
    · exact ⟨.str (nms.getD i Str.empty), rfl, q9 _ (Same.refl _)⟩
    · refine ⟨.ref a, rfl, a, C, dd, _, .ref (ca 11), .ref (ca 11), _, rfl, (hE.same S8).same s9, X, rr _, hK 10 (by decide), _, rfl, ?_⟩
      rw [hW]
      have hh := (hE.same S8).same s9
      rw [htl] at e9
      refine iteT ⟨.ref D, rfl, .ref a, rfl, a, C, dd, _, .int l, rfl, hh, X, hR.noL, rfl, .ref a, rfl, a, C, dd, _, .int p, rfl, hh, X, hR.noP, rfl, n2, fun l9 n9 => ?_⟩
      have sa := same_upd (o := .lst [V.int l, V.int p]) n9
      refine ⟨D, l9, _, _, rfl, rfl, sa _ _ e9, upd_same, ?_, fun r nr => ?_⟩
      · rw [List.length_map]
        have := List.length_filter_le (fun i => (row ++ [true]).getD i false) (List.range 20)
        rw [List.length_range] at this
        rw [sizeLine_eq]
        show _ + 2 ≤ 16777216
        omega
      have sb := same_upd (o := .lst (((List.range 20).filter fun i => (row ++ [true]).getD i false).map (fun i => V.str (nms.getD i Str.empty)) ++ [V.int l, V.int p])) nr
      refine ⟨.ref r, rfl, q _ r (S8.trans (s9.trans (sa.trans sb))) ((S8.trans (s9.trans sa)).free nr) ?_⟩
      rw [upd_same]
      unfold kindWords
      rw [List.map_map]
      rfl
end
end K12

namespace K12
open PySem PySem.Spec PyProof.Rows L2 LH
section
variable {P : Program} {w : World} {K : PySem.W.Frag} {mg : Str → Option Value} {base : Heap} {tk : Nat → Tok} {ca : Nat → Addr} {dn md C : Addr}
/-- what is known of the class of what flies in a reading -/
structure AsC (K : PySem.W.Frag) (A : Addr) : Prop where
  xf : XfC K A
  np : PySem.W.findIn K (.ref A) "place" = some none
  xm : PySem.W.exmOne K (.ref A) (.ref A) = some true
def NoStr (K : PySem.W.Frag) (H : Hp) (x : V) : Prop := ∃ t, TyX K H x t ∧ PySem.W.kitOne K t (.type "str") = some false
/-- a refusal with row and place -/
def RefuseW (H : Hp) (C : Addr) (l p : Nat) (E : XK) : Prop := ∀ H1 d, Same H H1 → H1 d = none → E (.ref C) (some d) (upd H1 d (.xd (wrFields "badtime" l p)))
def Pair (H : Hp) (i j : Int) (Q : VK) : Prop := ∀ H' p, Same H H' → H p = none → H' p = some (.tup [.int i, .int j]) → Q (.ref p) H'
/-! ### time_of -/
abbrev s_time_of : Stmt := topS 32
abbrev N_time_of : List Str := ["text", "stop"]
abbrev P_time_of : List Str := ["text"]
theorem sc_time_of : FnScope N_time_of ["text"] (defScope s_time_of) := ⟨rfl, rfl, rfl, by decide +kernel, rfl, by decide +kernel, by decide +kernel⟩
def sp_timeofX (K : PySem.W.Frag) (B : Addr) : Sp := fun vs H Q E => ∃ x : V, vs = [x] ∧ ((∃ z : Str, x = .str z ∧ z.length ≤ 100000 ∧ (match timeR (TL.tl z) with
  | .error j => j ≤ 100000 ∧ RefuseW H B 1 (j + 1) E
  | .ok (i, j) => Pair H i j Q)) ∨ (NoStr K H x ∧ RefuseW H B 1 1 E))
theorem ok_timeofX {fT fI f CA CB fI2 cc2 cda2 D2 fi cc cda B0 fH ccH cdaH : Addr} {fdT fdI fd : FuncData} (F : Fun K "time_of" "time_of" s_time_of f fd) (T : Tx K mg tk dn md) (A_Astray : AtC P K mg "Astray" CA fI2 cc2 cda2) (AS_Astray : AsC K CA) (W_BadTime : WrC P K mg "BadTime" CB D2 fi cc cda B0 fH ccH cdaH "badtime")
    (D_read_time : DefX P w K mg base "read_time" 6 fT fdT P_read_time (sp_readtimeX C CA)) (C_Reader : DefC P w K mg base "Reader" C 1 fI fdI P_Reader___init__ (sp_init C)) : FnOk P w K mg base (L2.CX P w) 7 f fd P_time_of (sp_timeofX K CB) := by
  refine F.okX sc_time_of (fun vs H Q E h => ?_) (fun cdv A outer s H vs Q E hr h => ?_)
  · obtain ⟨x, rfl, _⟩ := h
    rfl
  · have nd := sc_time_of.nd
    obtain ⟨x, rfl, h⟩ := h
    refine ⟨_, (pss_cons (ps_if (pt_not (pt_val (pe_callB (cIsi K) (by rfl) T.n_isinstance (by decide +kernel) (pa_cons (pv 0) (pa_cons (pe_bltn (v := .ty "str") (by rfl) T.n_str (by decide +kernel) rfl) pa_nil)))))
        (pss_one (ps_raiseW rfl W_BadTime hr (takes_of rfl rfl rfl rfl) (by exact (pa_cons pe_int (pa_cons pe_int pa_nil)))))
        pss_nil)
      (pss_one (ps_try_asX (i := 1) rfl rfl nd rfl rfl ⟨rfl, by decide, .inl A_Astray.mg⟩ (fun hd => L2H.passesAt_of rfl hd) (takes_of rfl rfl rfl rfl) (fun W pn xe tk _ _ => (pss_one (ps_ret (pe_callS D_read_time.ok (hr.mono (by decide)) (by rfl) D_read_time.mg D_read_time.kp D_read_time.bd (fun σ => L2N.passAt tk σ) (pa_cons (pe_make C_Reader.make C_Reader.ok (hr.mono (by decide)) (by rfl) C_Reader.mg C_Reader.bd .nil pass0 (pa_cons (pv 0) pa_nil)) pa_nil))))) (fun a oe cls d pn xe hz hf tkS hot => pss_one (ps_raiseWN hot W_BadTime (roomY hr) tkS (by exact (pa_cons pe_int (pa_cons (PE.nox (pe_xf AS_Astray.xf AS_Astray.np hz.zc hf (pv 1))) pa_nil)))))))), ?_⟩
    dsimp only [tSeq]
    have one : (1 : Int).natAbs.log2 < 1920 := by decide
    rcases h with ⟨z, rfl, hz, g⟩ | ⟨⟨t, ty, hk⟩, g⟩
    · refine ifT false (fun k q1 => notT true (fun k q2 => ⟨_, rfl, .str _, .ty "str", _, _, true, rfl, .ty _, .base (.str _), kit_ty (by decide +kernel), true, rfl, q2 _ (Same.refl _)⟩) q1) (fun h => nomatch h) (fun _ H1 s1 => ?_)
      refine ⟨_, rfl, fun x dx hx hdx hne => ⟨x, dx, _, rfl, upd_same, fun H2 s2 e2 => ⟨rfl, x, dx, z, rfl, e2, hz, ?_⟩⟩⟩
      have sm : ∀ H', SameBut x (upd (upd H1 dx (.own x)) x (.ins C dx [])) H' → Same H H' := fun H' s b o hb => by
        have hb1 := s1 _ _ hb
        have hbx : b ≠ x := ne_of_none hb1 hx
        refine s b o hbx ?_
        rw [upd_ne hbx, upd_ne (ne_of_none hb1 hdx)]
        exact hb1
      cases ht : timeR (TL.tl z) with
      | error j =>
        rw [ht] at g
        obtain ⟨hj, g⟩ := g
        intro H3 d s3 hd
        refine ⟨true, AS_Astray.xm, fun _ a na => ?_, fun h => nomatch h⟩
        refine ⟨.ref a, rfl, rfl, rfl, d, _, _, rfl, upd_same, rfl, 1, _, rfl, one, small_place (by omega), fun d2 hd2 => ?_⟩
        exact g _ d2 ((sm _ (s2.trans s3)).trans (same_upd hd)) hd2
      | ok p =>
        obtain ⟨i, j⟩ := p
        rw [ht] at g
        intro H3 p s3 hp ep
        refine g H3 p (sm _ (s2.trans s3)) ?_ ep
        cases h : H p with
        | none => rfl
        | some u => rw [sm _ s2 _ _ h] at hp; exact nomatch hp
    · refine ifT true (fun k q1 => notT false (fun k q2 => ⟨x, rfl, x, .ty "str", t, _, false, rfl, .ty _, ty, hk, false, rfl, q2 _ (Same.refl _)⟩) q1) (fun _ H1 s1 => ?_) (fun h => nomatch h)
      exact ⟨1, 1, rfl, one, one, fun d hd => g H1 d s1 hd⟩
end
end K12

namespace K12
open PySem PySem.Spec PyProof.Rows L2 LH
/-! ### the law's own look at a time's beginnings, and that the reading says the same -/
abbrev dv := NumText.digitsVal
def amongB (p : List Nat) (lo hi : Nat) : Bool := (List.range (hi - lo)).any fun k => decide ((two (lo + k)).take p.length = p)
theorem among_iff (p : List Nat) (lo hi : Nat) : amongB p lo hi = true ↔ ∃ v, lo ≤ v ∧ v < hi ∧ (two v).take p.length = p := by
  unfold amongB
  rw [List.any_eq_true]
  constructor
  · rintro ⟨k, hk, h⟩
    exact ⟨lo + k, by omega, by have := List.mem_range.mp hk; omega, of_decide_eq_true h⟩
  · rintro ⟨v, h1, h2, h⟩
    exact ⟨v - lo, List.mem_range.mpr (by omega), by rw [show lo + (v - lo) = v by omega]; exact decide_eq_true h⟩
theorem among_one (c lo hi : Nat) : amongB [c] lo hi = true ↔ ∃ v, lo ≤ v ∧ v < hi ∧ c = 48 + v / 10 := by
  rw [among_iff]
  constructor
  · rintro ⟨v, h1, h2, h⟩
    have h : [48 + v / 10] = [c] := h
    exact ⟨v, h1, h2, by injection h with h; exact h.symm⟩
  · rintro ⟨v, h1, h2, h⟩
    exact ⟨v, h1, h2, by rw [h]; rfl⟩
theorem among_two (c d lo hi : Nat) : amongB [c, d] lo hi = true ↔ ∃ v, lo ≤ v ∧ v < hi ∧ c = 48 + v / 10 ∧ d = 48 + v % 10 := by
  rw [among_iff]
  constructor
  · rintro ⟨v, h1, h2, h⟩
    have h : [48 + v / 10, 48 + v % 10] = [c, d] := h
    injection h with h h'
    injection h' with h'
    exact ⟨v, h1, h2, h.symm, h'.symm⟩
  · rintro ⟨v, h1, h2, h, h'⟩
    exact ⟨v, h1, h2, by rw [h, h']; rfl⟩
def lastIs (l : List Nat) (c : Nat) : Bool := decide (l.getLast? = some c)
def nameOf (l : List Nat) : List Nat := [32] ++ nameL (dayNo (dv (l.take 4)) (dv ((l.drop 5).take 2)) (dv ((l.drop 8).take 2))) ++ [32]
def lawB (l : List Nat) : Bool :=
  if l.length < 5 then (l.getLast?.any fun c => decide (48 ≤ c ∧ c ≤ 57)) && !decide (l = [48, 48, 48, 48])
  else if l.length = 5 ∨ l.length = 8 then lastIs l 45
  else if l.length < 8 then amongB (l.drop 5) 1 13
  else if l.length < 11 then amongB (l.drop 8) 1 ((daysIn (dv (l.take 4)) (dv ((l.drop 5).take 2))).toNat + 1)
  else if l.length < 16 then decide ((nameOf l).take (l.length - 10) = l.drop 10)
  else if l.length < 18 then amongB (l.drop 15) 0 24
  else if l.length = 18 then lastIs l 58
  else if l.length < 21 then amongB (l.drop 18) 0 60
  else if l.length = 21 then lastIs l 32
  else if l.length = 22 then lastIs l 43 || lastIs l 45
  else if l.length < 25 then amongB (l.drop 22) 0 15
  else if 26 < l.length then false
  else if l.drop 21 = [45, 48, 48, 48, 48] then false
  else amongB (l.drop 24) 0 (if (l.drop 22).take 2 = [49, 52] then 1 else 60)
/-- the sign at j goes on with a time -/
def step (l : List Nat) (j : Nat) : Bool := decide (j < l.length) && lawB (l.take (j + 1))
theorem step_lt {l : List Nat} {j : Nat} (h : step l j = true) : j < l.length := by
  unfold step at h
  exact of_decide_eq_true (Bool.and_eq_true_iff.mp h).1
theorem last_take {l : List Nat} {j : Nat} (h : j < l.length) : (l.take (j + 1)).getLast? = l[j]? := by
  rw [List.getLast?_eq_getElem?, List.length_take, List.getElem?_take, show min (j + 1) l.length - 1 = j by omega, if_pos (by omega)]
theorem len_take {l : List Nat} {j : Nat} (h : j < l.length) : (l.take (j + 1)).length = j + 1 := by rw [List.length_take]; omega
/-- the two figures of a number -/
theorem okAt_two {lo hi : Nat} (h1 : lo ≤ hi) (h2 : hi < 100) (r : List Nat) :
    (okAt (two lo) (two hi) r 0 = (decide (0 < r.length) && amongB (r.take 1) lo (hi + 1))) ∧ (okAt (two lo) (two hi) r 0 = true → okAt (two lo) (two hi) r 1 = (decide (1 < r.length) && amongB (r.take 2) lo (hi + 1))) := by
  have l1 : ∀ a b : Nat, ([a] : List Nat) < [b] ↔ a < b := fun a b => by rw [List.cons_lt_cons_iff]; simp
  have e0 : ∀ c (t : List Nat), okAt (two lo) (two hi) (c :: t) 0 = amongB [c] lo (hi + 1) := fun c t => by
    rw [Bool.eq_iff_iff, among_one]
    unfold okAt two
    simp only [List.getElem?_cons_zero, List.take_succ_cons, List.take_zero, Bool.and_eq_true, decide_eq_true_eq, Bool.not_eq_true', decide_eq_false_iff_not, l1]
    constructor
    · rintro ⟨h3, h4, h5⟩
      by_cases h : lo ≤ 10 * (c - 48)
      · exact ⟨10 * (c - 48), by omega, by omega, by omega⟩
      · exact ⟨lo, by omega, by omega, by omega⟩
    · rintro ⟨v, h3, h4, rfl⟩
      omega
  constructor
  · cases r with
    | nil => rfl
    | cons c t => rw [e0]; simp
  · intro h
    match r with
    | [] => exact nomatch h
    | [c] => simp [okAt]
    | c :: d :: t =>
      rw [e0] at h
      obtain ⟨v0, g1, g2, g3⟩ := (among_one _ _ _).mp h
      rw [Bool.eq_iff_iff]
      simp only [List.length_cons, List.take_succ_cons, List.take_zero, Bool.and_eq_true, decide_eq_true_eq]
      rw [among_two]
      unfold okAt two
      simp only [List.getElem?_cons_zero, List.getElem?_cons_succ, List.take_succ_cons, List.take_zero, Bool.and_eq_true, decide_eq_true_eq, Bool.not_eq_true', decide_eq_false_iff_not, lt2]
      constructor
      · rintro ⟨h3, h4, h5⟩
        exact ⟨by omega, 10 * (c - 48) + (d - 48), by omega, by omega, by omega, by omega⟩
      · rintro ⟨_, v, h3, h4, rfl, rfl⟩
        omega
/-- a number's reading, by its signs -/
theorem numR_first {lo hi l : List Nat} {n : Nat} {st : Nat → Bool} (h : ∀ k, k < lo.length → (∀ i, i < k → okAt lo hi (l.drop n) i = true) → (∀ i, i < k → st (n + i) = true) → okAt lo hi (l.drop n) k = st (n + k)) :
    (∃ j, j < lo.length ∧ numR lo hi l n = .error (n + j) ∧ (∀ k, k < j → st (n + k) = true) ∧ st (n + j) = false) ∨
    (numR lo hi l n = .ok (dv ((l.drop n).take lo.length), n + lo.length) ∧ (∀ k, k < lo.length → st (n + k) = true) ∧ ∀ k, k < lo.length → okAt lo hi (l.drop n) k = true) := by
  have both : ∀ j, j ≤ lo.length → (∀ k, k < j → okAt lo hi (l.drop n) k = true) → ∀ k, k < j → st (n + k) = true := by
    intro j hj ho k
    induction k using Nat.strongRecOn with
    | ind k ih =>
      intro hk
      rw [← h k (by omega) (fun i hi => ho i (by omega)) (fun i hi => ih i hi (by omega))]
      exact ho k hk
  by_cases ha : ∀ k, k < lo.length → okAt lo hi (l.drop n) k = true
  · exact .inr ⟨numR_ok ha, both _ (Nat.le_refl _) ha, ha⟩
  · have : ∃ j, j < lo.length ∧ (∀ k, k < j → okAt lo hi (l.drop n) k = true) ∧ okAt lo hi (l.drop n) j = false := by
      have : ∀ m, m ≤ lo.length → (∀ k, k < m → okAt lo hi (l.drop n) k = true) ∨ ∃ j, j < m ∧ (∀ k, k < j → okAt lo hi (l.drop n) k = true) ∧ okAt lo hi (l.drop n) j = false := by
        intro m
        induction m with
        | zero => exact fun _ => .inl fun k hk => absurd hk (Nat.not_lt_zero _)
        | succ m ih =>
          intro hm
          rcases ih (by omega) with g | ⟨j, g1, g2, g3⟩
          · cases e : okAt lo hi (l.drop n) m with
            | true =>
              refine .inl fun k hk => ?_
              by_cases hkm : k = m
              · rw [hkm, e]
              · exact g k (by omega)
            | false => exact .inr ⟨m, by omega, g, e⟩
          · exact .inr ⟨j, by omega, g2, g3⟩
      rcases this _ (Nat.le_refl _) with g | g
      · exact absurd g ha
      · exact g
    obtain ⟨j, hj, hk, hb⟩ := this
    refine .inl ⟨j, hj, numR_err hj hk hb, both j (by omega) hk, ?_⟩
    rw [← h j hj hk (both j (by omega) hk), hb]
/-- the signs of a word -/
theorem wordR_first {w l : List Nat} {n : Nat} {st : Nat → Bool} (h : ∀ k, k < w.length → (∀ i, i < k → st (n + i) = true) → (st (n + k) = true ↔ (l.drop n)[k]? = w[k]?)) :
    (∃ j, j < w.length ∧ wordR w l n = .error (n + j) ∧ (∀ k, k < j → st (n + k) = true) ∧ st (n + j) = false) ∨ (wordR w l n = .ok (n + w.length) ∧ ∀ k, k < w.length → st (n + k) = true) := by
  have ms : ∀ (w r : List Nat), (mis w r = none ∧ ∀ k, k < w.length → r[k]? = w[k]?) ∨ ∃ j, j < w.length ∧ mis w r = some j ∧ (∀ k, k < j → r[k]? = w[k]?) ∧ r[j]? ≠ w[j]? := by
    intro w
    induction w with
    | nil => exact fun r => .inl ⟨by simp [mis], fun k hk => absurd hk (Nat.not_lt_zero _)⟩
    | cons c w ih =>
      intro r
      cases r with
      | nil => exact .inr ⟨0, by simp, by simp [mis], fun k hk => absurd hk (Nat.not_lt_zero _), by simp⟩
      | cons d r =>
        by_cases hc : c = d
        · subst hc
          rcases ih r with ⟨g1, g2⟩ | ⟨j, g1, g2, g3, g4⟩
          · refine .inl ⟨by simp [mis, g1], fun k hk => ?_⟩
            cases k with
            | zero => rfl
            | succ k => exact g2 k (by simpa using hk)
          · refine .inr ⟨j + 1, by simpa using g1, by simp [mis, g2], fun k hk => ?_, by simpa using g4⟩
            cases k with
            | zero => rfl
            | succ k => exact g3 k (by omega)
        · exact .inr ⟨0, by simp, by simp [mis, hc], fun k hk => absurd hk (Nat.not_lt_zero _), by simp; exact fun e => hc e.symm⟩
  have both : ∀ j, j ≤ w.length → (∀ k, k < j → (l.drop n)[k]? = w[k]?) → ∀ k, k < j → st (n + k) = true := by
    intro j hj ho k
    induction k using Nat.strongRecOn with
    | ind k ih =>
      intro hk
      exact (h k (by omega) (fun i hi => ih i hi (by omega))).mpr (ho k hk)
  rcases ms w (l.drop n) with ⟨g1, g2⟩ | ⟨j, g1, g2, g3, g4⟩
  · exact .inr ⟨by unfold wordR; rw [g1], both _ (Nat.le_refl _) g2⟩
  · refine .inl ⟨j, g1, by unfold wordR; rw [g2], both j (by omega) g3, ?_⟩
    cases e : st (n + j) with
    | false => rfl
    | true => exact absurd ((h j g1 (both j (by omega) g3)).mp e) g4
end K12

namespace K12
open PySem PySem.Spec PyProof.Rows L2 LH
/-! ### the law's look, place by place -/
theorem step_fig {l : List Nat} {j : Nat} (hj : j < 4) : step l j = ((l[j]?.any fun c => decide (48 ≤ c ∧ c ≤ 57)) && !decide (l.take (j + 1) = [48, 48, 48, 48])) := by
  unfold step
  by_cases h : j < l.length
  · rw [decide_eq_true h, Bool.true_and]
    unfold lawB
    rw [len_take h, if_pos (by omega), last_take h]
  · rw [decide_eq_false h, List.getElem?_eq_none (by omega)]
    rfl
/-- a sign that must stand there -/
theorem step_sign {l : List Nat} {j c : Nat} (h : ∀ t : List Nat, t.length = j + 1 → lawB t = lastIs t c) : step l j = true ↔ l[j]? = some c := by
  unfold step
  by_cases hl : j < l.length
  · rw [decide_eq_true hl, Bool.true_and, h _ (len_take hl)]
    unfold lastIs
    rw [last_take hl, decide_eq_true_eq]
  · rw [decide_eq_false hl, List.getElem?_eq_none (by omega)]
    simp
theorem step_word1 {l : List Nat} {j c : Nat} (h : ∀ t : List Nat, t.length = j + 1 → lawB t = lastIs t c) : (∃ i, i < 1 ∧ wordR [c] l j = .error (j + i) ∧ (∀ k, k < i → step l (j + k) = true) ∧ step l (j + i) = false) ∨ (wordR [c] l j = .ok (j + 1) ∧ ∀ k, k < 1 → step l (j + k) = true) := by
  refine wordR_first (w := [c]) (l := l) (n := j) (st := step l) fun k hk _ => ?_
  have hk : k < 1 := hk
  obtain rfl : k = 0 := by omega
  rw [Nat.add_zero, step_sign h, List.getElem?_drop]
  rfl
/-- two figures -/
theorem step_two {l : List Nat} {n lo hi : Nat} (h1 : lo ≤ hi) (h2 : hi < 100) (s0 : n < l.length → step l n = amongB ((l.drop n).take 1) lo (hi + 1)) (s1 : n + 1 < l.length → step l n = true → step l (n + 1) = amongB ((l.drop n).take 2) lo (hi + 1)) :
    (∃ j, j < 2 ∧ numR (two lo) (two hi) l n = .error (n + j) ∧ (∀ k, k < j → step l (n + k) = true) ∧ step l (n + j) = false) ∨
    (numR (two lo) (two hi) l n = .ok (dv ((l.drop n).take 2), n + 2) ∧ (∀ k, k < 2 → step l (n + k) = true) ∧ lo ≤ dv ((l.drop n).take 2) ∧ dv ((l.drop n).take 2) ≤ hi) := by
  have hl : (l.drop n).length = l.length - n := List.length_drop
  have ho := okAt_two h1 h2 (l.drop n)
  have key : ∀ k, k < (two lo).length → (∀ i, i < k → okAt (two lo) (two hi) (l.drop n) i = true) → (∀ i, i < k → step l (n + i) = true) → okAt (two lo) (two hi) (l.drop n) k = step l (n + k) := fun k hk ok st => by
    have hk : k < 2 := hk
    have out : ∀ j, ¬ j < l.length → step l j = false := fun j hj => by unfold step; rw [decide_eq_false hj]; rfl
    match k, hk with
    | 0, _ =>
      rw [ho.1, hl]
      show _ = step l n
      by_cases h : n < l.length
      · rw [s0 h, decide_eq_true (by omega), Bool.true_and]
      · rw [out n h, decide_eq_false (by omega), Bool.false_and]
    | 1, _ =>
      rw [ho.2 (ok 0 (by decide)), hl]
      by_cases h : n + 1 < l.length
      · rw [s1 h (st 0 (by decide)), decide_eq_true (by omega), Bool.true_and]
      · rw [out _ h, decide_eq_false (by omega), Bool.false_and]
  rcases numR_first (lo := two lo) (hi := two hi) (l := l) (n := n) (st := step l) key with h | ⟨e, g, _⟩
  · exact .inl h
  · refine .inr ⟨e, g, ?_⟩
    have := numR_two (a := lo) (b := hi) (by omega) h2 e
    exact ⟨this.1, this.2.1⟩
/-- what the law looks at, a text's beginning of j + 1 signs -/
theorem step_eq {l : List Nat} {j : Nat} (h : j < l.length) : step l j = lawB (l.take (j + 1)) := by
  unfold step
  rw [decide_eq_true h, Bool.true_and]
theorem nameL_len (d : Int) : (nameL d).length = 3 := by
  unfold nameL
  have : ∀ i, i < 7 → (TL.tl (dayNames.getD i Str.empty)).length = 3 := by decide +kernel
  exact this _ (by omega)
theorem take_succ_eq {w r : List Nat} {i : Nat} (hi : i < w.length) (h : w.take i = r.take i) : w.take (i + 1) = r.take (i + 1) ↔ r[i]? = w[i]? := by
  rw [List.take_add_one, List.take_add_one, h, List.getElem?_eq_getElem hi]
  constructor
  · intro e
    have e := List.append_cancel_left e
    cases h : r[i]? with
    | none => rw [h] at e; exact nomatch e
    | some c => rw [h] at e; exact congrArg some (List.cons.inj e).1.symm
  · intro e
    rw [e]
theorem year_at (l : List Nat) : ∀ k, k < 4 → (∀ i, i < k → step l i = true) → okAt [48, 48, 48, 49] [57, 57, 57, 57] l k = step l k := by
  have dig : ∀ i, i < 4 → step l i = true → ∃ c, l[i]? = some c ∧ 48 ≤ c ∧ c ≤ 57 := fun i hi h => by
    rw [step_fig hi] at h
    cases e : l[i]? with
    | none => rw [e] at h; exact nomatch h
    | some c =>
      rw [e] at h
      have := of_decide_eq_true (Bool.and_eq_true_iff.mp h).1
      exact ⟨c, rfl, this.1, this.2⟩
  have nn : ¬ (([] : List Nat) < []) := by simp
  intro k hk hp
  rw [step_fig hk]
  match k, hk with
  | 0, _ =>
    match l with
    | [] => rfl
    | c :: t =>
      rw [Bool.eq_iff_iff]
      simp [okAt, List.cons_lt_cons_iff]
  | 1, _ =>
    obtain ⟨a, ea, a1, a2⟩ := dig 0 (by decide) (hp 0 (by decide))
    match l, ea with
    | [_], _ => simp [okAt]
    | x :: c :: t, ea =>
      obtain rfl : x = a := Option.some.inj ea
      rw [Bool.eq_iff_iff]
      simp [okAt, List.cons_lt_cons_iff]
      omega
  | 2, _ =>
    obtain ⟨a, ea, a1, a2⟩ := dig 0 (by decide) (hp 0 (by decide))
    obtain ⟨b, eb, b1, b2⟩ := dig 1 (by decide) (hp 1 (by decide))
    match l, ea, eb with
    | [_], _, eb => exact nomatch eb
    | [_, _], _, _ => simp [okAt]
    | x :: y :: c :: t, ea, eb =>
      obtain rfl : x = a := Option.some.inj ea
      obtain rfl : y = b := Option.some.inj eb
      rw [Bool.eq_iff_iff]
      simp [okAt, List.cons_lt_cons_iff]
      omega
  | 3, _ =>
    obtain ⟨a, ea, a1, a2⟩ := dig 0 (by decide) (hp 0 (by decide))
    obtain ⟨b, eb, b1, b2⟩ := dig 1 (by decide) (hp 1 (by decide))
    obtain ⟨c, ec, c1, c2⟩ := dig 2 (by decide) (hp 2 (by decide))
    match l, ea, eb, ec with
    | [_], _, eb, _ => exact nomatch eb
    | [_, _], _, _, ec => exact nomatch ec
    | [_, _, _], _, _, _ => simp [okAt]
    | x :: y :: z :: d :: t, ea, eb, ec =>
      obtain rfl : x = a := Option.some.inj ea
      obtain rfl : y = b := Option.some.inj eb
      obtain rfl : z = c := Option.some.inj ec
      rw [Bool.eq_iff_iff]
      simp [okAt, List.cons_lt_cons_iff]
      omega
end K12

namespace K12
open PySem PySem.Spec PyProof.Rows L2 LH
/-! ### the reading says what the law looks up -/
def minuteL (l : List Nat) : Int × Int :=
  let a0 : Int := 60 * (dv ((l.drop 22).take 2) : Nat) + (dv ((l.drop 24).take 2) : Nat)
  let a : Int := if l[21]? = some 45 then -a0 else a0
  (1440 * dayNo (dv (l.take 4)) (dv ((l.drop 5).take 2)) (dv ((l.drop 8).take 2)) + 60 * (dv ((l.drop 15).take 2) : Nat) + (dv ((l.drop 18).take 2) : Nat) - a, a)
theorem up_add {l : List Nat} {n m : Nat} (h : ∀ k, k < n → step l k = true) (g : ∀ k, k < m → step l (n + k) = true) : ∀ k, k < n + m → step l k = true := fun k hk => by
  by_cases hn : k < n
  · exact h k hn
  · have := g (k - n) (by omega)
    rwa [show n + (k - n) = k by omega] at this
def Bad (l : List Nat) (j : Nat) : Prop := (∀ k, k < j → step l k = true) ∧ step l j = false ∧ (j < 26 ∨ j < l.length) ∧ j ≤ 26
theorem bad_of {l : List Nat} {n i m : Nat} (h : ∀ k, k < n → step l k = true) (hi : i < m) (hm : n + m ≤ 26) (g : ∀ k, k < i → step l (n + k) = true) (f : step l (n + i) = false) : Bad l (n + i) :=
  ⟨up_add h g, f, .inl (by omega), by omega⟩
theorem day_steps (l : List Nat) :
    (∃ j, dayR l 0 = .error j ∧ Bad l j) ∨
    (dayR l 0 = .ok (dayNo (dv (l.take 4)) (dv ((l.drop 5).take 2)) (dv ((l.drop 8).take 2)), 10) ∧ (∀ k, k < 10 → step l k = true) ∧ 1 ≤ dv ((l.drop 5).take 2) ∧ dv ((l.drop 5).take 2) ≤ 12) := by
  unfold dayR
  rcases numR_first (lo := [48, 48, 48, 49]) (hi := [57, 57, 57, 57]) (l := l) (n := 0) (st := step l) (fun k hk _ hp => by
      rw [Nat.zero_add]; exact year_at l k hk fun i hi => by have := hp i hi; rwa [Nat.zero_add] at this) with ⟨j, hj, e, g, f⟩ | ⟨e, g, _⟩
  · rw [e]
    exact .inl ⟨_, rfl, bad_of (fun k hk => absurd hk (Nat.not_lt_zero _)) hj (by show 0 + 4 ≤ 26; decide) g f⟩
  have u4 : ∀ k, k < 4 → step l k = true := fun k hk => by have := g k hk; rwa [Nat.zero_add] at this
  have e : numR [48, 48, 48, 49] [57, 57, 57, 57] l 0 = .ok (dv (l.take 4), 4) := e
  rw [e]
  dsimp only
  rcases step_word1 (l := l) (j := 4) (c := 45) (fun t ht => by unfold lawB; rw [ht]; rfl) with ⟨j, hj, e, g, f⟩ | ⟨e, g⟩
  · rw [e]
    exact .inl ⟨_, rfl, bad_of u4 hj (by decide) g f⟩
  have u5 := up_add u4 g
  rw [e]
  dsimp only
  rcases step_two (l := l) (n := 5) (lo := 1) (hi := 12) (by decide) (by decide) (fun h => by rw [step_eq h]; unfold lawB; rw [len_take h]; simp [List.drop_take]) (fun h _ => by rw [step_eq h]; unfold lawB; rw [len_take h]; simp [List.drop_take]) with ⟨j, hj, e, g, f⟩ | ⟨e, g, m1, m2⟩
  · rw [show (4 : Nat) + 1 = 5 from rfl, e]
    exact .inl ⟨_, rfl, bad_of u5 hj (by decide) g f⟩
  have u7 := up_add u5 g
  rw [show (4 : Nat) + 1 = 5 from rfl, e]
  dsimp only
  rcases step_word1 (l := l) (j := 7) (c := 45) (fun t ht => by unfold lawB; rw [ht]; rfl) with ⟨j, hj, e, g, f⟩ | ⟨e, g⟩
  · rw [show (5 : Nat) + 2 = 7 from rfl, e]
    exact .inl ⟨_, rfl, bad_of u7 hj (by decide) g f⟩
  have u8 := up_add u7 g
  rw [show (5 : Nat) + 2 = 7 from rfl, e]
  dsimp only
  have hdv := daysIn_ge (dv (l.take 4)) (dv ((l.drop 5).take 2))
  rcases step_two (l := l) (n := 8) (lo := 1) (hi := (daysIn (dv (l.take 4)) (dv ((l.drop 5).take 2))).toNat) (by omega) (by omega) (fun h => by rw [step_eq h]; unfold lawB; rw [len_take h]; simp [List.drop_take, List.take_take]) (fun h _ => by rw [step_eq h]; unfold lawB; rw [len_take h]; simp [List.drop_take, List.take_take]) with ⟨j, hj, e, g, f⟩ | ⟨e, g, _, _⟩
  · rw [show (7 : Nat) + 1 = 8 from rfl, e]
    exact .inl ⟨_, rfl, bad_of u8 hj (by decide) g f⟩
  have u10 := up_add u8 g
  rw [show (7 : Nat) + 1 = 8 from rfl, e]
  exact .inr ⟨rfl, u10, m1, m2⟩
theorem clock_steps (l : List Nat) (u15 : ∀ k, k < 15 → step l k = true) :
    (∃ j, clockR l 15 = .error j ∧ Bad l j) ∨ (clockR l 15 = .ok ((dv ((l.drop 15).take 2) : Int) * 60 + (dv ((l.drop 18).take 2) : Nat), 20) ∧ ∀ k, k < 20 → step l k = true) := by
  unfold clockR
  rcases step_two (l := l) (n := 15) (lo := 0) (hi := 23) (by decide) (by decide) (fun h => by rw [step_eq h]; unfold lawB; rw [len_take h]; simp [List.drop_take]) (fun h _ => by rw [step_eq h]; unfold lawB; rw [len_take h]; simp [List.drop_take]) with ⟨j, hj, e, g, f⟩ | ⟨e, g, m1, m2⟩
  · rw [e]
    exact .inl ⟨_, rfl, bad_of u15 hj (by decide) g f⟩
  have u17 := up_add u15 g
  rw [e]
  dsimp only
  rcases step_word1 (l := l) (j := 17) (c := 58) (fun t ht => by unfold lawB; rw [ht]; rfl) with ⟨j, hj, e, g, f⟩ | ⟨e, g⟩
  · rw [show (15 : Nat) + 2 = 17 from rfl, e]
    exact .inl ⟨_, rfl, bad_of u17 hj (by decide) g f⟩
  have u18 := up_add u17 g
  rw [show (15 : Nat) + 2 = 17 from rfl, e]
  dsimp only
  rcases step_two (l := l) (n := 18) (lo := 0) (hi := 59) (by decide) (by decide) (fun h => by rw [step_eq h]; unfold lawB; rw [len_take h]; simp [List.drop_take]) (fun h _ => by rw [step_eq h]; unfold lawB; rw [len_take h]; simp [List.drop_take]) with ⟨j, hj, e, g, f⟩ | ⟨e, g, _, _⟩
  · rw [show (17 : Nat) + 1 = 18 from rfl, e]
    exact .inl ⟨_, rfl, bad_of u18 hj (by decide) g f⟩
  have u20 := up_add u18 g
  rw [show (17 : Nat) + 1 = 18 from rfl, e]
  exact .inr ⟨rfl, u20⟩
theorem word_steps (l : List Nat) (u10 : ∀ k, k < 10 → step l k = true) :
    (∃ j, wordR (nameOf l) l 10 = .error j ∧ Bad l j) ∨ (wordR (nameOf l) l 10 = .ok 15 ∧ ∀ k, k < 15 → step l k = true) := by
  have hw : (nameOf l).length = 5 := by
    unfold nameOf
    rw [List.length_append, List.length_append, nameL_len]
    rfl
  have at_ : ∀ k, k < 5 → 10 + k < l.length → step l (10 + k) = decide ((nameOf l).take (k + 1) = (l.drop 10).take (k + 1)) := fun k hk h => by
    have e1 : (l.take (10 + k + 1)).take 4 = l.take 4 := by rw [List.take_take, show min 4 (10 + k + 1) = 4 by omega]
    have e2 : ((l.take (10 + k + 1)).drop 5).take 2 = (l.drop 5).take 2 := by rw [List.drop_take, List.take_take, show min 2 (10 + k + 1 - 5) = 2 by omega]
    have e3 : ((l.take (10 + k + 1)).drop 8).take 2 = (l.drop 8).take 2 := by rw [List.drop_take, List.take_take, show min 2 (10 + k + 1 - 8) = 2 by omega]
    rw [step_eq h]
    unfold lawB
    rw [len_take h, if_neg (by omega), if_neg (by omega), if_neg (by omega), if_neg (by omega), if_pos (by omega)]
    unfold nameOf
    rw [e1, e2, e3, List.drop_take, show 10 + k + 1 - 10 = k + 1 by omega]
  have tk : ∀ k, k ≤ 5 → (∀ i, i < k → step l (10 + i) = true) → (nameOf l).take k = (l.drop 10).take k := fun k hk h => by
    cases k with
    | zero => rfl
    | succ k =>
      have h1 := h k (Nat.lt_succ_self k)
      rw [at_ k (by omega) (step_lt h1)] at h1
      exact of_decide_eq_true h1
  rcases wordR_first (w := nameOf l) (l := l) (n := 10) (st := step l) (fun k hk hp => by
      rw [hw] at hk
      have ht := tk k (by omega) hp
      rw [← take_succ_eq (by omega) ht]
      by_cases h : 10 + k < l.length
      · rw [at_ k hk h, decide_eq_true_eq]
      · constructor
        · exact fun g => absurd (step_lt g) h
        · intro g
          have := congrArg List.length g
          rw [List.length_take, List.length_take, List.length_drop, hw] at this
          omega) with ⟨j, hj, e, g, f⟩ | ⟨e, g⟩
  · exact .inl ⟨_, e, bad_of u10 hj (by rw [hw]; decide) g f⟩
  · rw [hw] at e g
    exact .inr ⟨e, up_add u10 g⟩
theorem ahead_steps (l : List Nat) (u21 : ∀ k, k < 21 → step l k = true) :
    (∃ j, aheadR l 21 = .error j ∧ Bad l j) ∨ (∃ a : Int, aheadR l 21 = .ok (a, 26) ∧ (∀ k, k < 26 → step l k = true) ∧
      a = if l[21]? = some 45 then -(60 * (dv ((l.drop 22).take 2) : Int) + (dv ((l.drop 24).take 2) : Nat)) else 60 * (dv ((l.drop 22).take 2) : Int) + (dv ((l.drop 24).take 2) : Nat)) := by
  have s21 : ∀ c, l[21]? = some c → (step l 21 = true ↔ c = 43 ∨ c = 45) := fun c hc => by
    have h := (List.getElem?_eq_some_iff.mp hc).1
    rw [step_eq h]
    unfold lawB
    rw [len_take h]
    simp only [lastIs, last_take h, hc]
    simp
  unfold aheadR oneR
  cases hc : l[21]? with
  | none =>
    have : step l 21 = false := by
      unfold step
      rw [decide_eq_false (fun h => by rw [List.getElem?_eq_getElem h] at hc; exact nomatch hc), Bool.false_and]
    exact .inl ⟨21, rfl, u21, this, .inl (by decide), by decide⟩
  | some c =>
    dsimp only
    by_cases hcs : c ∈ [43, 45]
    case neg =>
      rw [if_neg hcs]
      have : step l 21 = false := by
        cases e : step l 21 with
        | false => rfl
        | true => exact absurd (by simpa using (s21 c hc).mp e) hcs
      exact .inl ⟨21, rfl, u21, this, .inl (by decide), by decide⟩
    rw [if_pos hcs]
    have u22 : ∀ k, k < 22 → step l k = true := up_add (m := 1) u21 fun k hk => by
      obtain rfl : k = 0 := by omega
      exact (s21 c hc).mpr (by simpa using hcs)
    dsimp only
    have b22 : ∀ h : 22 < l.length, step l 22 = amongB ((l.drop 22).take 1) 0 (14 + 1) := fun h => by rw [step_eq h]; unfold lawB; rw [len_take h]; simp [List.drop_take]
    have b23 : ∀ h : 22 + 1 < l.length, step l (22 + 1) = amongB ((l.drop 22).take 2) 0 (14 + 1) := fun h => by rw [step_eq h]; unfold lawB; rw [len_take h]; simp [List.drop_take]
    rcases step_two (l := l) (n := 22) (lo := 0) (hi := 14) (by decide) (by decide) b22 (fun h _ => b23 h) with ⟨j, hj, e, g, f⟩ | ⟨e, g, m1, m2⟩
    · rw [show (21 : Nat) + 1 = 22 from rfl, e]
      exact .inl ⟨_, rfl, bad_of u22 hj (by decide) g f⟩
    have u24 := up_add u22 g
    rw [show (21 : Nat) + 1 = 22 from rfl, e]
    dsimp only
    obtain ⟨v, hv2, hp⟩ : ∃ v, v < 15 ∧ (l.drop 22).take 2 = two v := by
      have h23 := step_lt (g 1 (by decide))
      have := g 1 (by decide)
      rw [b23 h23, among_iff] at this
      obtain ⟨v, _, hv, hp⟩ := this
      have hl : ((l.drop 22).take 2).length = 2 := by rw [List.length_take, List.length_drop]; omega
      rw [hl] at hp
      exact ⟨v, hv, hp.symm⟩
    have dvv : dv (two v) = v := by simp [two, NumText.digitsVal]; omega
    have h14 : two v = [49, 52] ↔ v = 14 := by
      unfold two
      constructor
      · intro h
        injection h with h h'
        injection h' with h'
        omega
      · rintro rfl; rfl
    have hsplit : (l.drop 21).take 5 = c :: (two v ++ (l.drop 24).take 2) := by
      have h21 := (List.getElem?_eq_some_iff.mp hc)
      obtain ⟨hlt, hcv⟩ := h21
      rw [List.drop_eq_getElem_cons hlt, hcv, List.take_succ_cons, ← hp]
      rw [show (21 : Nat) + 1 = 22 from rfl, show l.drop 24 = (l.drop 22).drop 2 by rw [List.drop_drop]]
      rw [show (4 : Nat) = 2 + 2 from rfl, List.take_add]
    rw [hp, dvv]
    have low : (if c = 45 ∧ v = 0 then 1 else 0) ≤ (if v = 14 then 0 else 59) := by split <;> split <;> omega
    have low2 : (if v = 14 then 0 else 59) < 100 := by split <;> omega
    have b24 : ∀ h : 24 < l.length, step l 24 = amongB ((l.drop 24).take 1) (if c = 45 ∧ v = 0 then 1 else 0) ((if v = 14 then 0 else 59) + 1) := fun h => by
      obtain ⟨d, hd⟩ : ∃ d, (l.drop 24).take 1 = [d] := ⟨l[24], by rw [List.drop_eq_getElem_cons h]; rfl⟩
      have e21 : (l.take 25).drop 21 ≠ [45, 48, 48, 48, 48] := fun e => by
        have := congrArg List.length e
        rw [List.length_drop, List.length_take] at this
        simp at this
        omega
      have e22 : ((l.take 25).drop 22).take 2 = two v := by rw [List.drop_take, List.take_take, show min 2 (25 - 22) = 2 by decide, hp]
      rw [step_eq h]
      unfold lawB
      rw [len_take h]
      simp only [show (24 : Nat) + 1 = 25 from rfl, show ¬ (25 : Nat) < 5 by decide, if_false, show ¬ ((25 : Nat) = 5 ∨ (25 : Nat) = 8) by decide, show ¬ (25 : Nat) < 8 by decide, show ¬ (25 : Nat) < 11 by decide, show ¬ (25 : Nat) < 16 by decide, show ¬ (25 : Nat) < 18 by decide, show ¬ (25 : Nat) = 18 by decide, show ¬ (25 : Nat) < 21 by decide, show ¬ (25 : Nat) = 21 by decide, show ¬ (25 : Nat) = 22 by decide, show ¬ (25 : Nat) < 25 by decide, show ¬ 26 < (25 : Nat) by decide, e21, e22]
      rw [List.drop_take, hd, Bool.eq_iff_iff, among_one, among_one]
      simp only [h14]
      constructor
      · rintro ⟨u, u1, u2, rfl⟩
        by_cases hv : v = 14
        · rw [if_pos hv] at u2 ⊢
          exact ⟨0, by rw [if_neg (by omega)]; omega, by omega, by omega⟩
        · rw [if_neg hv] at u2 ⊢
          by_cases hz : u = 0
          · exact ⟨1, by split <;> omega, by omega, by omega⟩
          · exact ⟨u, by split <;> omega, by omega, rfl⟩
      · rintro ⟨u, u1, u2, rfl⟩
        refine ⟨u, by omega, ?_, rfl⟩
        by_cases hv : v = 14
        · rw [if_pos hv] at u2 ⊢; exact u2
        · rw [if_neg hv] at u2 ⊢; exact u2
    have b25 : ∀ h : 24 + 1 < l.length, step l (24 + 1) = amongB ((l.drop 24).take 2) (if c = 45 ∧ v = 0 then 1 else 0) ((if v = 14 then 0 else 59) + 1) := fun h => by
      obtain ⟨d, e, hd⟩ : ∃ d e, (l.drop 24).take 2 = [d, e] := ⟨l[24], l[25], by rw [List.drop_eq_getElem_cons (by omega : 24 < l.length), List.drop_eq_getElem_cons h]; rfl⟩
      have e21 : (l.take 26).drop 21 = c :: (two v ++ [d, e]) := by rw [List.drop_take, show 26 - 21 = 5 by decide, hsplit, hd]
      have e22 : ((l.take 26).drop 22).take 2 = two v := by rw [List.drop_take, List.take_take, show min 2 (26 - 22) = 2 by decide, hp]
      rw [step_eq h]
      unfold lawB
      rw [len_take h]
      simp only [show (24 : Nat) + 1 + 1 = 26 from rfl, show ¬ (26 : Nat) < 5 by decide, if_false, show ¬ ((26 : Nat) = 5 ∨ (26 : Nat) = 8) by decide, show ¬ (26 : Nat) < 8 by decide, show ¬ (26 : Nat) < 11 by decide, show ¬ (26 : Nat) < 16 by decide, show ¬ (26 : Nat) < 18 by decide, show ¬ (26 : Nat) = 18 by decide, show ¬ (26 : Nat) < 21 by decide, show ¬ (26 : Nat) = 21 by decide, show ¬ (26 : Nat) = 22 by decide, show ¬ (26 : Nat) < 25 by decide, show ¬ 26 < (26 : Nat) by decide, e21, e22]
      rw [List.drop_take, show 26 - 24 = 2 by decide, hd]
      have hz : c :: (two v ++ [d, e]) = [45, 48, 48, 48, 48] ↔ c = 45 ∧ v = 0 ∧ d = 48 ∧ e = 48 := by
        unfold two
        simp
        omega
      by_cases hzz : c = 45 ∧ v = 0 ∧ d = 48 ∧ e = 48
      · rw [if_pos (hz.mpr hzz)]
        obtain ⟨z1, z2, z3, z4⟩ := hzz
        rw [if_pos ⟨z1, z2⟩]
        symm
        rw [Bool.eq_false_iff]
        intro h
        obtain ⟨u, u1, u2, u3, u4⟩ := (among_two _ _ _ _).mp h
        omega
      · rw [if_neg (fun h => hzz (hz.mp h)), Bool.eq_iff_iff, among_two, among_two]
        simp only [h14]
        constructor
        · rintro ⟨u, u1, u2, u3, u4⟩
          refine ⟨u, ?_, ?_, u3, u4⟩
          · split
            · rename_i hcv
              by_cases hu : u = 0
              · exact absurd ⟨hcv.1, hcv.2, by omega, by omega⟩ hzz
              · omega
            · omega
          · by_cases hv : v = 14
            · rw [if_pos hv] at u2 ⊢; exact u2
            · rw [if_neg hv] at u2 ⊢; exact u2
        · rintro ⟨u, u1, u2, u3, u4⟩
          refine ⟨u, by omega, ?_, u3, u4⟩
          by_cases hv : v = 14
          · rw [if_pos hv] at u2 ⊢; exact u2
          · rw [if_neg hv] at u2 ⊢; exact u2
    rcases step_two (l := l) (n := 24) low low2 b24 (fun h _ => b25 h) with ⟨j, hj, e, g, f⟩ | ⟨e, g, m1, m2⟩
    · rw [show (22 : Nat) + 2 = 24 from rfl, e]
      exact .inl ⟨_, rfl, bad_of u24 hj (by decide) g f⟩
    rw [show (22 : Nat) + 2 = 24 from rfl, e]
    refine .inr ⟨_, rfl, up_add u24 g, ?_⟩
    by_cases h45 : c = 45
    · rw [if_pos h45, if_pos (by rw [h45])]
      omega
    · rw [if_neg h45, if_neg (fun h => h45 (Option.some.inj h))]
      omega
theorem timeR_steps (l : List Nat) : (∃ j, timeR l = .error j ∧ Bad l j) ∨ (timeR l = .ok (minuteL l) ∧ l.length = 26 ∧ ∀ k, k < 26 → step l k = true) := by
  unfold timeR
  rcases day_steps l with ⟨j, e, b⟩ | ⟨e, u10, m1, m2⟩
  · rw [e]; exact .inl ⟨j, rfl, b⟩
  rw [e]
  dsimp only
  rcases word_steps l u10 with ⟨j, e, b⟩ | ⟨e, u15⟩
  · unfold nameOf at e
    rw [e]; exact .inl ⟨j, rfl, b⟩
  unfold nameOf at e
  rw [e]
  dsimp only
  rcases clock_steps l u15 with ⟨j, e, b⟩ | ⟨e, u20⟩
  · rw [e]; exact .inl ⟨j, rfl, b⟩
  rw [e]
  dsimp only
  rcases step_word1 (l := l) (j := 20) (c := 32) (fun t ht => by unfold lawB; rw [ht]; rfl) with ⟨j, hj, e, g, f⟩ | ⟨e, g⟩
  · rw [e]
    exact .inl ⟨_, rfl, bad_of u20 hj (by decide) g f⟩
  have u21 := up_add u20 g
  rw [e]
  dsimp only
  rcases ahead_steps l u21 with ⟨j, e, b⟩ | ⟨a, e, u26, ha⟩
  · rw [show (20 : Nat) + 1 = 21 from rfl, e]; exact .inl ⟨j, rfl, b⟩
  rw [show (20 : Nat) + 1 = 21 from rfl, e]
  dsimp only
  have h26 := step_lt (u26 25 (by decide))
  by_cases hl : 26 < l.length
  · rw [if_pos hl]
    refine .inl ⟨26, rfl, u26, ?_, .inr hl, by decide⟩
    rw [step_eq hl]
    unfold lawB
    rw [len_take hl]
    simp
  · rw [if_neg hl]
    refine .inr ⟨?_, by omega, u26⟩
    unfold minuteL
    rw [ha]
    congr 2
    omega
end K12

namespace K12
open PySem PySem.Spec PyProof.Rows L2 LH
theorem starts_eq (x y : Str) : Txt.startswith x y = decide ((TL.tl x).take (TL.tl y).length = TL.tl y) := by
  unfold Txt.startswith
  have hyl : y.length = (TL.tl y).length := TL.len_tl y
  rw [PySem.StrLaws.subAt_eq, hyl, Bool.eq_iff_iff, Bool.and_eq_true, decide_eq_true_eq, decide_eq_true_eq, List.drop_zero, beq_iff_eq, TL.len_tl]
  constructor
  · exact fun h => h.2
  · intro h
    refine ⟨?_, h⟩
    have := congrArg List.length h
    rw [List.length_take] at this
    omega
section
variable {P : Program} {w : World} {K : PySem.W.Frag} {mg : Str → Option Value} {base : Heap} {tk : Nat → Tok} {ca : Nat → Addr} {dn md C : Addr}
/-! ### _law_among -/
abbrev s__law_among : Stmt := topS 53
abbrev N__law_among : List Str := ["_law_part", "_law_least", "_law_behind", "_law_number"]
abbrev P__law_among : List Str := ["_law_part", "_law_least", "_law_behind"]
theorem sc__law_among : FnScope N__law_among ["_law_part", "_law_least", "_law_behind"] (defScope s__law_among) := ⟨rfl, rfl, rfl, by decide +kernel, rfl, by decide +kernel, by decide +kernel⟩
def sp_among : Sp := fun vs H Q _ => ∃ (p : Str) (lo hi : Nat), vs = [.str p, .int (lo : Nat), .int (hi : Nat)] ∧ lo ≤ hi ∧ hi ≤ 100 ∧ Tell H (.bl (amongB (TL.tl p) lo hi)) Q
theorem ok_among {fT f : Addr} {fdT fd : FuncData} (F : Fun K "_law_among" "_law_among" s__law_among f fd) (T : Tx K mg tk dn md) (D__law_two : Def P w K mg base "_law_two" 1 fT fdT P__law_two sp_two) : FnOk P w K mg base CX0 2 f fd P__law_among sp_among := by
  refine F.ok sc__law_among (fun vs H Q E h => ?_) (fun cdv A outer s H vs Q E hr h => ?_)
  · obtain ⟨p, lo, hi, rfl, _⟩ := h
    rfl
  · have nd := sc__law_among.nd
    obtain ⟨p, lo, hi, rfl, hlo, hhi, q⟩ := h
    refine ⟨_, (pss_one (ps_ret (pe_cmpR (oNeD K hr.units) (pe_lc (own := [("_law_number", 3)]) (g := gName 3) (by rfl) nd (pi_range2 (by rfl) T.n_range (pa_cons (pv 1) (pa_cons (pv 2) pa_nil))) (blkOk_by (N := N__law_among) (sc := defScope s__law_among) (by decide +kernel)) (fun _ _ _ _ _ => (pg_name (i := 3) nd rfl (Or.inl rfl))) (fun _ _ _ _ _ => (pts_one (pt_val (pe_m1 PySem.F.slot_str_startswith PySem.F.type_str_startswith mt_startswith (pe_def D__law_two (hr.mono (by decide)) (pa_cons (pv 3) pa_nil)) (pv 0))))) (fun _ _ _ _ _ => (pv 3))) (pe_lst pa_nil) (nomark _)))), ?_⟩
    have hr2 : ((hi : Int) - lo).toNat = hi - lo := by omega
    refine ⟨.int lo, rfl, .int hi, rfl, lo, hi, rfl, ⟨by omega, by omega, by omega, by omega⟩, fun D hD => lc_filt (fun i => .int ((lo : Int) + (i : Int))) (fun i => .int ((lo : Int) + (i : Int))) (fun i => decide ((two (lo + i)).take (TL.tl p).length = TL.tl p)) walk_range (fun _ _ => trivial) hD (by rw [hr2, sizeLine_eq]; omega) (fun j H1 Q1 hj s1 q1 => ?_) (fun j H1 Q1 hj s1 hb q1 => ⟨_, rfl, q1 _ (Same.refl _)⟩) (fun H1 s1 e1 => ?_)⟩
    · rw [hr2] at hj
      refine ⟨.int ((lo : Int) + (j : Int)), rfl, lo + j, by rw [show (lo : Int) + (j : Int) = ((lo + j : Nat) : Int) by omega]; rfl, by omega, fun H2 s2 => ⟨⟨_, rfl⟩, .str p, rfl, _, p, rfl, rfl, _, rfl, ?_⟩⟩
      rw [starts_eq]
      exact q1 _ s2
    · rw [hr2] at e1
      have he : (((List.range (hi - lo)).filter fun i => decide ((two (lo + i)).take (TL.tl p).length = TL.tl p)).map fun i : Nat => V.int ((lo : Int) + (i : Int))) = (((List.range (hi - lo)).filter fun i => decide ((two (lo + i)).take (TL.tl p).length = TL.tl p)).map fun i : Nat => ((lo : Int) + (i : Int))).map V.int := by rw [List.map_map]; rfl
      rw [he] at e1
      have hn : (!decide ((((List.range (hi - lo)).filter fun i => decide ((two (lo + i)).take (TL.tl p).length = TL.tl p)).map fun i : Nat => ((lo : Int) + (i : Int))) = [])) = amongB (TL.tl p) lo hi := by
        unfold amongB
        rw [Bool.eq_iff_iff, Bool.not_eq_true', decide_eq_false_iff_not, List.map_eq_nil_iff, List.filter_eq_nil_iff, List.any_eq_true]
        constructor
        · intro h
          exact Classical.byContradiction fun hc => h fun a ha hb => hc ⟨a, ha, hb⟩
        · rintro ⟨a, ha, hb⟩ h
          exact h a ha hb
      generalize (((List.range (hi - lo)).filter fun i => decide ((two (lo + i)).take (TL.tl p).length = TL.tl p)).map fun i : Nat => ((lo : Int) + (i : Int))) = fs at *
      refine ⟨Nat.zero_le _, fun g1 ng1 => ?_⟩
      have s12 := same_upd (o := .lst []) ng1
      refine ⟨.list (fs.map PyData.int), .list (([] : List Int).map PyData.int), dp_ints (.inl (.inl (s12 _ _ e1))), dp_ints (.inl (.inl upd_same)), shaped_intsL _, shaped_intsL [], ?_⟩
      rw [eqv_intsL, hn]
      exact q _ (s1.trans s12)
end
end K12

namespace K12
open PySem PySem.Spec PyProof.Rows L2 LH
theorem year_digits {l : List Nat} (h : ∀ k, k < 4 → step l k = true) : 4 ≤ l.length ∧ ∀ c ∈ l.take 4, 48 ≤ c ∧ c ≤ 57 := by
  have h3 := step_lt (h 3 (by decide))
  refine ⟨by omega, fun c hc => ?_⟩
  obtain ⟨i, hi, rfl⟩ := List.getElem_of_mem hc
  rw [List.length_take] at hi
  have := h i (by omega)
  rw [step_fig (by omega), List.getElem?_eq_getElem (by omega)] at this
  rw [List.getElem_take]
  exact of_decide_eq_true (Bool.and_eq_true_iff.mp this).1
theorem dv_two {v : Nat} (h : v < 100) : dv (two v) = v := by simp [two, NumText.digitsVal]; omega
theorem two_of {l : List Nat} {n lo hi : Nat} (hh : hi ≤ 100) (hl : n + 2 ≤ l.length) (h : amongB ((l.drop n).take 2) lo hi = true) : ∃ v, lo ≤ v ∧ v < hi ∧ (l.drop n).take 2 = two v ∧ dv ((l.drop n).take 2) = v := by
  rw [among_iff] at h
  obtain ⟨v, h1, h2, hp⟩ := h
  have hl : ((l.drop n).take 2).length = 2 := by rw [List.length_take, List.length_drop]; omega
  rw [hl] at hp
  have hp : two v = _ := hp
  exact ⟨v, h1, h2, hp.symm, by rw [← hp]; exact dv_two (by omega)⟩
theorem two_dig {v c : Nat} (h : v < 100) (hc : c ∈ two v) : 48 ≤ c ∧ c ≤ 57 := by
  unfold two at hc
  simp at hc
  omega
/-- a part of figures as a number -/
theorem int_cut {z : Str} {a b : Nat} (h1 : a + 1 ≤ b) (h2 : b ≤ (TL.tl z).length) (h3 : b - a ≤ 100) (hd : ∀ c ∈ ((TL.tl z).drop a).take (b - a), 48 ≤ c ∧ c ≤ 57) :
    intText? (cutS z (some (a : Int)) (some (b : Int))) = some (dv (((TL.tl z).drop a).take (b - a)) : Int) ∧ (cutS z (some (a : Int)) (some (b : Int))).length ≤ 640 := by
  have hl : (((TL.tl z).drop a).take (b - a)).length = b - a := by rw [List.length_take, List.length_drop]; omega
  rw [cutS_at]
  refine ⟨?_, by rw [TL.len_tl]; show (((TL.tl z).drop a).take (b - a)).length ≤ 640; omega⟩
  refine SX.int_S ?_ (fun h => by rw [h] at hl; simp at hl; omega) (by omega)
  rw [List.all_eq_true]
  intro c hc
  have := hd c hc
  rw [decide_eq_true this.1, decide_eq_true this.2]
  rfl
theorem b_month {l : List Nat} (h : 6 < l.length) : step l 6 = amongB ((l.drop 5).take 2) 1 13 := by rw [step_eq h]; unfold lawB; rw [len_take h]; simp [List.drop_take]
theorem b_day {l : List Nat} (h : 9 < l.length) : step l 9 = amongB ((l.drop 8).take 2) 1 ((daysIn (dv (l.take 4)) (dv ((l.drop 5).take 2))).toNat + 1) := by rw [step_eq h]; unfold lawB; rw [len_take h]; simp [List.drop_take, List.take_take]
theorem b_hour {l : List Nat} (h : 16 < l.length) : step l 16 = amongB ((l.drop 15).take 2) 0 24 := by rw [step_eq h]; unfold lawB; rw [len_take h]; simp [List.drop_take]
theorem b_min {l : List Nat} (h : 19 < l.length) : step l 19 = amongB ((l.drop 18).take 2) 0 60 := by rw [step_eq h]; unfold lawB; rw [len_take h]; simp [List.drop_take]
theorem b_ahead {l : List Nat} (h : 23 < l.length) : step l 23 = amongB ((l.drop 22).take 2) 0 15 := by rw [step_eq h]; unfold lawB; rw [len_take h]; simp [List.drop_take]
theorem b_late {l : List Nat} (h : 25 < l.length) (hs : step l 25 = true) : amongB ((l.drop 24).take 2) 0 60 = true := by
  rw [step_eq h] at hs
  unfold lawB at hs
  rw [len_take h] at hs
  simp [List.drop_take] at hs
  obtain ⟨_, hs⟩ := hs
  rw [among_iff] at hs ⊢
  obtain ⟨v, h1, h2, h3⟩ := hs
  exact ⟨v, h1, by split at h2 <;> omega, h3⟩
theorem at_month {l : List Nat} (h : step l 6 = true) : ∃ v, 1 ≤ v ∧ v < 13 ∧ (l.drop 5).take 2 = two v ∧ dv ((l.drop 5).take 2) = v := by
  have := step_lt h
  exact two_of (by decide) (by omega) ((b_month this).symm.trans h)
theorem at_day {l : List Nat} (h : step l 9 = true) : ∃ v, 1 ≤ v ∧ v < 32 ∧ (l.drop 8).take 2 = two v ∧ dv ((l.drop 8).take 2) = v := by
  have := step_lt h
  have hd := daysIn_ge (dv (l.take 4)) (dv ((l.drop 5).take 2))
  obtain ⟨v, h1, h2, h3, h4⟩ := two_of (by omega) (by omega) ((b_day this).symm.trans h)
  exact ⟨v, h1, by omega, h3, h4⟩
theorem last_of {l : List Nat} (h : 1 ≤ l.length) : ∃ c, l.getLast? = some c := by
  cases h' : l.getLast? with
  | none => rw [List.getLast?_eq_none_iff] at h'; subst h'; simp at h
  | some c => exact ⟨c, rfl⟩
theorem atI_lastl {l : List Nat} {c : Nat} (h : l.getLast? = some c) : atI l (-1) = some c := by
  rcases List.eq_nil_or_concat l with rfl | ⟨b, d, rfl⟩
  · exact nomatch h
  · rw [List.concat_eq_append, List.getLast?_concat] at h
    obtain rfl := Option.some.inj h
    rw [List.concat_eq_append]
    exact atI_last b d
theorem figs_in (c : Nat) : decide (c ∈ (Str.ofString "0123456789").cps.toList) = decide (48 ≤ c ∧ c ≤ 57) := by
  have hF : (Str.ofString "0123456789").cps.toList = (List.range 10).map (· + 48) := by decide +kernel
  rw [decide_eq_decide, hF, List.mem_map]
  constructor
  · rintro ⟨i, hi, rfl⟩
    have := List.mem_range.mp hi
    omega
  · intro h
    exact ⟨c - 48, List.mem_range.mpr (by omega), by omega⟩
theorem one_eq {c d : Nat} {t : Str} (h : TL.tl t = [d]) : decide (V.str ⟨#[c]⟩ = V.str t) = decide (c = d) := by
  rw [decide_eq_decide]
  constructor
  · intro e
    have := congrArg TL.tl (V.str.inj e)
    rw [h] at this
    exact (List.cons.inj this).1
  · rintro rfl
    exact congrArg V.str (TL.ext_tl h.symm)
section
variable {P : Program} {w : World} {K : PySem.W.Frag} {mg : Str → Option Value} {base : Heap} {tk : Nat → Tok} {ca : Nat → Addr} {dn md C : Addr}
/-! ### _law_begins_day -/
abbrev s__law_begins_day : Stmt := topS 54
abbrev N__law_begins_day : List Str := ["_law_text_here", "_law_at", "_law_names", "_law_name", "_law_year", "_law_month"]
abbrev P__law_begins_day : List Str := ["_law_text_here"]
theorem sc__law_begins_day : FnScope N__law_begins_day ["_law_text_here"] (defScope s__law_begins_day) := ⟨rfl, rfl, rfl, by decide +kernel, rfl, by decide +kernel, by decide +kernel⟩
def sp_begins : Sp := fun vs H Q _ => ∃ p : Str, vs = [.str p] ∧ 1 ≤ (TL.tl p).length ∧ p.length ≤ 100 ∧ (∀ k, k + 1 < (TL.tl p).length → step (TL.tl p) k = true) ∧ Tell H (.bl (lawB (TL.tl p))) Q
def sp_beginsD : Sp := fun vs H Q _ => ∃ p : Str, vs = [.str p] ∧ 1 ≤ (TL.tl p).length ∧ (TL.tl p).length < 16 ∧ (∀ k, k + 1 < (TL.tl p).length → step (TL.tl p) k = true) ∧ Tell H (.bl (lawB (TL.tl p))) Q
theorem ok_beginsD {fA fM fD f : Addr} {fdA fdM fdD fd : FuncData} (F : Fun K "_law_begins_day" "_law_begins_day" s__law_begins_day f fd) (T : Tx K mg tk dn md) (D__law_among : Def P w K mg base "_law_among" 2 fA fdA P__law_among sp_among)
    (D__law_many_days : Def P w K mg base "_law_many_days" 2 fM fdM P__law_many_days sp_many) (D__law_day : Def P w K mg base "_law_day" 1 fD fdD P__law_day sp_day) : FnOk P w K mg base CX0 3 f fd P__law_begins_day sp_beginsD := by
  refine F.ok sc__law_begins_day (fun vs H Q E h => ?_) (fun cdv A outer s H vs Q E hr h => ?_)
  · obtain ⟨p, rfl, _⟩ := h
    rfl
  · have nd := sc__law_begins_day.nd
    obtain ⟨p, rfl, h1, h16, hp, q⟩ := h
    refine ⟨_, (pss_cons (ps_set (i := 1) nd rfl (.inl rfl) (pe_callB call_len_str (by rfl) T.n_len (by decide +kernel) (pa_cons (pv 0) pa_nil)))
      (pss_cons (ps_if (pt_cmpR op_lt (pv 1) pe_int (nomark _))
        (pss_one (ps_ret (pe_and (pe_cmpR op_in_sign (pe_ix ix_str (pv 0) (pe_un un_neg pe_int) (fun _ _ => rfl)) pe_str rfl) (pe_one (pe_cmpR op_ne (pv 0) pe_str (nomark _))))))
        pss_nil)
      (pss_cons (ps_if (pt_cmpR (oIn K) (pv 1) (pe_tup (pa_cons pe_int (pa_cons pe_int pa_nil))) (by rfl))
        (pss_one (ps_ret (pe_cmpR op_eq (pe_ix ix_str (pv 0) (pe_un un_neg pe_int) (fun _ _ => rfl)) pe_str (nomark _))))
        pss_nil)
      (pss_cons (ps_if (pt_cmpR op_lt (pv 1) pe_int (nomark _))
        (pss_one (ps_ret (pe_def D__law_among (hr.mono (by decide)) (pa_cons (pe_slice sl_str (pv 0) (po_some pe_int) po_none) (pa_cons pe_int (pa_cons pe_int pa_nil))))))
        pss_nil)
      (pss_cons (ps_par (i := 4) (j := 5) (by rfl) nd rfl rfl (by decide) rfl rfl (pa_cons (pe_callTy call_int_str (by rfl) T.n_int (by decide +kernel) (pa_cons (pe_slice sl_str (pv 0) po_none (po_some pe_int)) pa_nil)) (pa_cons (pe_callTy call_int_str (by rfl) T.n_int (by decide +kernel) (pa_cons (pe_slice sl_str (pv 0) (po_some pe_int) (po_some pe_int)) pa_nil)) pa_nil)) (by rfl))
      (pss_cons (ps_if (pt_cmpR op_lt (pv 1) pe_int (nomark _))
        (pss_one (ps_ret (pe_def D__law_among (hr.mono (by decide)) (pa_cons (pe_slice sl_str (pv 0) (po_some pe_int) po_none) (pa_cons pe_int (pa_cons (pe_op op_add (pe_def D__law_many_days (hr.mono (by decide)) (pa_cons (pv 4) (pa_cons (pv 5) pa_nil))) pe_int) pa_nil))))))
        pss_nil)
      (pss_cons (ps_set (i := 2) nd rfl (.inl rfl) (pe_lst (pa_cons pe_str (pa_cons pe_str (pa_cons pe_str (pa_cons pe_str (pa_cons pe_str (pa_cons pe_str (pa_cons pe_str pa_nil)))))))))
      (pss_cons (ps_set (i := 3) nd rfl (.inl rfl) (pe_ix (ixL K) (pv 2) (pe_op op_mod (pe_def D__law_day (hr.mono (by decide)) (pa_cons (pv 4) (pa_cons (pv 5) (pa_cons (pe_callTy call_int_str (by rfl) T.n_int (by decide +kernel) (pa_cons (pe_slice sl_str (pv 0) (po_some pe_int) (po_some pe_int)) pa_nil)) pa_nil)))) pe_int) (fun _ _ => rfl)))
      (pss_one (ps_ret (pe_m1 PySem.F.slot_str_startswith PySem.F.type_str_startswith mt_startswith (pe_op op_add_str (pe_op op_add_str pe_str (pv 3)) pe_str) (pe_slice sl_str (pv 0) (po_some pe_int) po_none)))))))))))), ?_⟩
    have hl : p.length = (TL.tl p).length := TL.len_tl p
    have hs : p.length ≤ sizeLine := by rw [sizeLine_eq]; omega
    dsimp only [gName, tSeq, tAsg]
    refine ⟨.str p, rfl, p, rfl, hs, ?_⟩
    show tIfS _ _ _ _ [some (.str p), some (.int (p.length : Nat)), none, none, none, none] H
    refine ifT (decide ((TL.tl p).length < 5)) (fun k q1 => ⟨_, rfl, _, 5, rfl, rfl, _, rfl, TellB.eq (decide_eq_decide.mpr (by omega)) q1 _ (Same.refl _)⟩) (fun hb H1 s1 => ?_) (fun hb H1 s1 => ?_)
    · have hb := of_decide_eq_true hb
      obtain ⟨c, hc⟩ := last_of h1
      have ea := atI_lastl hc
      have e1 : lawB (TL.tl p) = (decide (48 ≤ c ∧ c ≤ 57) && !decide (TL.tl p = [48, 48, 48, 48])) := by
        unfold lawB
        rw [if_pos hb, hc]
        rfl
      refine andV (decide (48 ≤ c ∧ c ≤ 57)) (!decide (TL.tl p = [48, 48, 48, 48])) (fun Q' q' => ?_) (fun _ H2 Q' s2 q' => ?_) (fun H2 s2 => by rw [← e1]; exact q H2 (s1.trans s2))
      · refine ⟨.str p, rfl, 1, rfl, p, -1, c, rfl, rfl, hs, ea, c, Str.ofString "0123456789", rfl, rfl, ?_⟩
        rw [figs_in]
        exact q' _ (Same.refl _)
      · refine ⟨.str p, rfl, rfl, ?_⟩
        rw [show decide (V.str p = V.str (Str.ofString "0000")) = decide (TL.tl p = [48, 48, 48, 48]) from decide_eq_decide.mpr ⟨fun h => by rw [V.str.inj h]; decide +kernel, fun h => congrArg V.str (TL.ext_tl (by rw [h]; decide +kernel))⟩]
        exact q' _ (Same.refl _)
    have hb := of_decide_eq_false hb
    dsimp only [tNext, tSeq]
    refine ifT (decide ((TL.tl p).length = 5 ∨ (TL.tl p).length = 8)) (fun k q1 => ⟨_, rfl, by show 2 ≤ _; rw [sizeLine_eq]; decide, fun p2 hp2 => ⟨p2, _, rfl, .inr (.inl (.inl upd_same)), rfl, rfl, _, rfl, TellB.eq ?_ q1 _ (same_upd hp2)⟩⟩) (fun hb2 H2 s2 => ?_) (fun hb2 H2 s2 => ?_)
    · have : ∀ j : Fin 16, inV (.int (j.val : Nat)) [.int 5, .int 8] = decide (j.val = 5 ∨ j.val = 8) := by decide +kernel
      have := this ⟨(TL.tl p).length, h16⟩
      rw [hl]
      exact this
    · have hb2 := of_decide_eq_true hb2
      obtain ⟨c, hc⟩ := last_of h1
      have ea := atI_lastl hc
      have e1 : lawB (TL.tl p) = decide (c = 45) := by
        unfold lawB lastIs
        rw [if_neg hb, if_pos hb2, hc]
        exact decide_eq_decide.mpr ⟨fun h => Option.some.inj h, fun h => congrArg some h⟩
      refine ⟨.str p, rfl, 1, rfl, p, -1, c, rfl, rfl, hs, ea, rfl, ?_⟩
      rw [show decide (V.str ⟨#[c]⟩ = V.str (Str.ofString "-")) = decide (c = 45) from one_eq (by decide +kernel), ← e1]
      exact q _ (s1.trans s2)
    have hb2 := of_decide_eq_false hb2
    dsimp only [tNext, tSeq]
    refine ifT (decide ((TL.tl p).length < 8)) (fun k q1 => ⟨_, rfl, _, 8, rfl, rfl, _, rfl, TellB.eq (decide_eq_decide.mpr (by omega)) q1 _ (Same.refl _)⟩) (fun hb3 H3 s3 => ?_) (fun hb3 H3 s3 => ?_)
    · have hb3 := of_decide_eq_true hb3
      refine ⟨.str p, rfl, 5, rfl, p, rfl, hs, cutS p (some 5) none, 1, 13, rfl, by decide, by decide, fun H4 s4 => ?_⟩
      have := q H4 ((s1.trans s2).trans (s3.trans s4))
      unfold lawB at this
      rw [if_neg hb, if_neg hb2, if_pos hb3] at this
      rw [show (5 : Int) = ((5 : Nat) : Int) from rfl, cutS_from]
      exact this
    have hb3 := of_decide_eq_false hb3
    dsimp only [tNext, tSeq]
    have hy := year_digits (l := TL.tl p) (fun k hk => hp k (by omega))
    obtain ⟨m, m1, m2, hm, hdm⟩ := at_month (hp 6 (by omega))
    have iy := int_cut (z := p) (a := 0) (b := 4) (by decide) (by omega) (by decide) (by rw [List.drop_zero]; exact hy.2)
    have im := int_cut (z := p) (a := 5) (b := 7) (by decide) (by omega) (by decide) (fun c hc => by rw [show (7 : Nat) - 5 = 2 from rfl, hm] at hc; exact two_dig (by omega) hc)
    have ecut : cutS p none (some (4 : Int)) = cutS p (some ((0 : Nat) : Int)) (some ((4 : Nat) : Int)) := by
      rw [cutS_at]
      exact cutS_to p 4
    have hwhole : (7 : Nat) - 5 = 2 := rfl
    refine ⟨.str p, rfl, 4, rfl, p, rfl, hs, cutS p none (some 4), _, rfl, by rw [ecut]; exact iy.1, by rw [ecut]; exact iy.2, .str p, rfl, 5, rfl, 7, rfl, p, rfl, hs, cutS p (some 5) (some 7), _, rfl, im.1, im.2, ?_⟩
    refine ⟨_, _, rfl, ?_⟩
    dsimp only [tSeq]
    show tIfS _ _ _ _ [some (.str p), some (.int (p.length : Nat)), none, none, some (.int (dv ((TL.tl p).take 4) : Nat)), some (.int (dv (((TL.tl p).drop 5).take 2) : Nat))] H3
    have hdm := daysIn_ge (dv ((TL.tl p).take 4)) (dv (((TL.tl p).drop 5).take 2))
    refine ifT (decide ((TL.tl p).length < 11)) (fun k q1 => ⟨_, rfl, _, 11, rfl, rfl, _, rfl, TellB.eq (decide_eq_decide.mpr (by omega)) q1 _ (Same.refl _)⟩) (fun hb4 H4 s4 => ?_) (fun hb4 H4 s4 => ?_)
    · have hb4 := of_decide_eq_true hb4
      refine ⟨.str p, rfl, 8, rfl, p, rfl, hs, _, rfl, _, rfl, _, _, rfl, by omega, by omega, fun H5 s5 => ⟨_, 1, rfl, rfl, cutS p (some 8) none, 1, (daysIn (dv ((TL.tl p).take 4)) (dv (((TL.tl p).drop 5).take 2))).toNat + 1, ?_, by omega, by omega, fun H6 s6 => ?_⟩⟩
      · rw [show (((daysIn (dv ((TL.tl p).take 4)) (dv (((TL.tl p).drop 5).take 2))).toNat + 1 : Nat) : Int) = daysIn (dv ((TL.tl p).take 4)) (dv (((TL.tl p).drop 5).take 2)) + 1 by omega]
        rfl
      · have := q H6 ((s1.trans s2).trans (s3.trans (s4.trans (s5.trans s6))))
        unfold lawB at this
        rw [if_neg hb, if_neg hb2, if_neg hb3, if_pos hb4] at this
        rw [show (8 : Int) = ((8 : Nat) : Int) from rfl, cutS_from]
        exact this
    have hb4 := of_decide_eq_false hb4
    dsimp only [tNext, tSeq, tAsg]
    obtain ⟨d, d1, d2, hd, hdd⟩ := at_day (hp 9 (by omega))
    have id := int_cut (z := p) (a := 8) (b := 10) (by decide) (by omega) (by decide) (fun c hc => by rw [show (10 : Nat) - 8 = 2 from rfl, hd] at hc; exact two_dig (by omega) hc)
    have hat : atI (dayNames.map V.str) (dayNo (dv ((TL.tl p).take 4)) (dv (((TL.tl p).drop 5).take 2)) (dv (((TL.tl p).drop 8).take 2)) % 7) = some (.str (dayNames.getD (dayNo (dv ((TL.tl p).take 4)) (dv (((TL.tl p).drop 5).take 2)) (dv (((TL.tl p).drop 8).take 2)) % 7).toNat Str.empty)) := by
      generalize dayNo _ _ _ = D
      conv => lhs; rw [show D % 7 = ((D % 7).toNat : Int) by omega]
      have hl : (D % 7).toNat < dayNames.length := by show _ < 7; omega
      refine atI_nat ?_
      rw [List.getElem?_map, List.getElem?_eq_getElem hl, List.getD_eq_getElem?_getD, List.getElem?_eq_getElem hl]
      rfl
    have ln : (dayNames.getD (dayNo (dv ((TL.tl p).take 4)) (dv (((TL.tl p).drop 5).take 2)) (dv (((TL.tl p).drop 8).take 2)) % 7).toNat Str.empty).length ≤ 3 := by
      have : ∀ i, i < 7 → (dayNames.getD i Str.empty).length ≤ 3 := by decide +kernel
      exact this _ (by omega)
    have lb : (Str.ofString " ").length = 1 := by decide +kernel
    refine ⟨by show 7 ≤ _; rw [sizeLine_eq]; decide, fun g hg => ?_⟩
    have eL : (upd H4 g (.lst (dayNames.map V.str))) g = some (.lst (dayNames.map V.str)) := upd_same
    have s0 := same_upd (o := .lst (dayNames.map V.str)) hg
    refine ⟨_, rfl, _, rfl, _, rfl, .str p, rfl, 8, rfl, 10, rfl, p, rfl, hs, cutS p (some 8) (some 10), _, rfl, id.1, id.2, _, _, _, rfl, by omega, by omega, fun H5 s5 => ⟨_, 7, rfl, rfl, (show (0 : Int) < 7 by decide), g, _, _, _, rfl, rfl, .inl (.inl (s5 _ _ eL)), hat, ?_⟩⟩
    refine ⟨_, rfl, _, _, rfl, rfl, by simp only [lb, sizeLine_eq]; omega, _, _, rfl, rfl, by simp only [len_app, lb, sizeLine_eq]; omega, ⟨_, rfl⟩, .str p, rfl, 10, rfl, p, rfl, hs, _, cutS p (some 10) none, rfl, rfl, ?_⟩
    have := q H5 ((s1.trans s2).trans (s3.trans (s4.trans (s0.trans s5))))
    unfold lawB at this
    rw [if_neg hb, if_neg hb2, if_neg hb3, if_neg hb4, if_pos h16] at this
    rw [starts_eq, show (10 : Int) = ((10 : Nat) : Int) from rfl, cutS_from]
    have e2 : TL.tl (Str.ofString " " ++ dayNames.getD (dayNo (dv ((TL.tl p).take 4)) (dv (((TL.tl p).drop 5).take 2)) (dv (((TL.tl p).drop 8).take 2)) % 7).toNat Str.empty ++ Str.ofString " ") = nameOf (TL.tl p) := by
      simp only [TL.tl_append, tl_blank]
      rfl
    rw [e2]
    show Q (.bl (decide ((nameOf (TL.tl p)).take ((TL.tl p).drop 10).length = (TL.tl p).drop 10))) H5
    rw [List.length_drop]
    exact this
/-! ### _law_begins -/
abbrev s__law_begins : Stmt := topS 55
abbrev N__law_begins : List Str := ["_law_text_here", "_law_at"]
abbrev P__law_begins : List Str := ["_law_text_here"]
theorem sc__law_begins : FnScope N__law_begins ["_law_text_here"] (defScope s__law_begins) := ⟨rfl, rfl, rfl, by decide +kernel, rfl, by decide +kernel, by decide +kernel⟩
theorem ok_begins {fA fD f : Addr} {fdA fdD fd : FuncData} (F : Fun K "_law_begins" "_law_begins" s__law_begins f fd) (T : Tx K mg tk dn md) (D__law_among : Def P w K mg base "_law_among" 2 fA fdA P__law_among sp_among)
    (D__law_begins_day : Def P w K mg base "_law_begins_day" 3 fD fdD P__law_begins_day sp_beginsD) : FnOk P w K mg base CX0 4 f fd P__law_begins sp_begins := by
  refine F.ok sc__law_begins (fun vs H Q E h => ?_) (fun cdv A outer s H vs Q E hr h => ?_)
  · obtain ⟨p, rfl, _⟩ := h
    rfl
  · have nd := sc__law_begins.nd
    obtain ⟨p, rfl, h1, h100, hp, q⟩ := h
    refine ⟨_, (pss_cons (ps_set (i := 1) nd rfl (.inl rfl) (pe_callB call_len_str (by rfl) T.n_len (by decide +kernel) (pa_cons (pv 0) pa_nil)))
      (pss_cons (ps_if (pt_cmpR op_lt (pv 1) pe_int (nomark _))
        (pss_one (ps_ret (pe_def D__law_begins_day (hr.mono (by decide)) (pa_cons (pv 0) pa_nil))))
        pss_nil)
      (pss_cons (ps_if (pt_cmpR op_lt (pv 1) pe_int (nomark _))
        (pss_one (ps_ret (pe_def D__law_among (hr.mono (by decide)) (pa_cons (pe_slice sl_str (pv 0) (po_some pe_int) po_none) (pa_cons pe_int (pa_cons pe_int pa_nil))))))
        pss_nil)
      (pss_cons (ps_if (pt_cmpR op_eq (pv 1) pe_int (nomark _))
        (pss_one (ps_ret (pe_cmpR op_eq (pe_ix ix_str (pv 0) (pe_un un_neg pe_int) (fun _ _ => rfl)) pe_str (nomark _))))
        pss_nil)
      (pss_cons (ps_if (pt_cmpR op_lt (pv 1) pe_int (nomark _))
        (pss_one (ps_ret (pe_def D__law_among (hr.mono (by decide)) (pa_cons (pe_slice sl_str (pv 0) (po_some pe_int) po_none) (pa_cons pe_int (pa_cons pe_int pa_nil))))))
        pss_nil)
      (pss_cons (ps_if (pt_cmpR op_lt (pv 1) pe_int (nomark _))
        (pss_one (ps_ret (pe_cmpR op_in_sign (pe_ix ix_str (pv 0) (pe_un un_neg pe_int) (fun _ _ => rfl)) (pe_ix (ixL K) (pe_lst (pa_cons pe_str (pa_cons pe_str pa_nil))) (pe_op op_sub (pv 1) pe_int) (fun _ _ => rfl)) rfl)))
        pss_nil)
      (pss_cons (ps_if (pt_cmpR op_lt (pv 1) pe_int (nomark _))
        (pss_one (ps_ret (pe_def D__law_among (hr.mono (by decide)) (pa_cons (pe_slice sl_str (pv 0) (po_some pe_int) po_none) (pa_cons pe_int (pa_cons pe_int pa_nil))))))
        pss_nil)
      (pss_cons (ps_if (PW.pt (pw_or (pt_cmpR op_gt (pv 1) pe_int (nomark _)) (pw_or1 (pt_cmpR op_eq (pe_slice sl_str (pv 0) (po_some pe_int) po_none) pe_str (nomark _)))))
        (pss_one (ps_ret pe_bl))
        pss_nil)
      (pss_one (ps_ret (pe_def D__law_among (hr.mono (by decide)) (pa_cons (pe_slice sl_str (pv 0) (po_some pe_int) po_none) (pa_cons pe_int (pa_cons (pe_ix (ixL K) (pe_lst (pa_cons pe_int (pa_cons pe_int pa_nil))) (pe_callTy call_int1 (by rfl) T.n_int (by decide +kernel) (pa_cons (pe_cmpR op_eq (pe_slice sl_str (pv 0) (po_some pe_int) (po_some pe_int)) pe_str (nomark _)) pa_nil)) (fun _ _ => rfl)) pa_nil)))))))))))))), ?_⟩
    have hl : p.length = (TL.tl p).length := TL.len_tl p
    have hs : p.length ≤ sizeLine := by rw [sizeLine_eq]; omega
    dsimp only [gName, tSeq, tAsg]
    refine ⟨.str p, rfl, p, rfl, hs, ?_⟩
    dsimp only [gName, tSeq, tAsg]
    show tIfS _ _ _ _ [some (.str p), some (.int (p.length : Nat))] H
    refine ifT (decide ((TL.tl p).length < 16)) (fun k q1 => ⟨_, rfl, _, 16, rfl, rfl, _, rfl, TellB.eq (decide_eq_decide.mpr (by omega)) q1 _ (Same.refl _)⟩) (fun hb H1 s1 => ?_) (fun hb H1 s1 => ?_)
    · exact ⟨.str p, rfl, p, rfl, h1, of_decide_eq_true hb, hp, fun H2 s2 => q H2 (s1.trans s2)⟩
    have hb := of_decide_eq_false hb
    dsimp only [tNext, tSeq, tAsg]
    have n5 : ¬ (TL.tl p).length < 5 := by omega
    have n58 : ¬ ((TL.tl p).length = 5 ∨ (TL.tl p).length = 8) := by omega
    have n8 : ¬ (TL.tl p).length < 8 := by omega
    have n11 : ¬ (TL.tl p).length < 11 := by omega
    obtain ⟨c, hc⟩ := last_of h1
    have ea := atI_lastl hc
    have las : ∀ d, lastIs (TL.tl p) d = decide (c = d) := fun d => by
      unfold lastIs
      rw [hc]
      exact decide_eq_decide.mpr ⟨fun h => Option.some.inj h, fun h => congrArg some h⟩
    refine ifT (decide ((TL.tl p).length < 18)) (fun k q1 => ⟨_, rfl, _, 18, rfl, rfl, _, rfl, TellB.eq (decide_eq_decide.mpr (by omega)) q1 _ (Same.refl _)⟩) (fun hb2 H2 s2 => ?_) (fun hb2 H2 s2 => ?_)
    · have hb2 := of_decide_eq_true hb2
      refine ⟨.str p, rfl, 15, rfl, p, rfl, hs, cutS p (some 15) none, 0, 24, rfl, by decide, by decide, fun H4 s4 => ?_⟩
      have := q H4 (s1.trans (s2.trans s4))
      unfold lawB at this
      rw [if_neg n5, if_neg n58, if_neg n8, if_neg n11, if_neg hb, if_pos hb2] at this
      rw [show (15 : Int) = ((15 : Nat) : Int) from rfl, cutS_from]
      exact this
    have hb2 := of_decide_eq_false hb2
    dsimp only [tNext, tSeq]
    refine ifT (decide ((TL.tl p).length = 18)) (fun k q1 => ⟨_, rfl, rfl, _, rfl, TellB.eq (by rw [vint_dec]; exact decide_eq_decide.mpr (by omega)) q1 _ (Same.refl _)⟩) (fun hb3 H3 s3 => ?_) (fun hb3 H3 s3 => ?_)
    · have hb3 := of_decide_eq_true hb3
      refine ⟨.str p, rfl, 1, rfl, p, -1, c, rfl, rfl, hs, ea, rfl, ?_⟩
      have := q H3 (s1.trans (s2.trans s3))
      unfold lawB at this
      rw [if_neg n5, if_neg n58, if_neg n8, if_neg n11, if_neg hb, if_neg hb2, if_pos hb3, las] at this
      rw [show decide (V.str ⟨#[c]⟩ = V.str (Str.ofString ":")) = decide (c = 58) from one_eq (by decide +kernel)]
      exact this
    have hb3 := of_decide_eq_false hb3
    dsimp only [tNext, tSeq]
    refine ifT (decide ((TL.tl p).length < 21)) (fun k q1 => ⟨_, rfl, _, 21, rfl, rfl, _, rfl, TellB.eq (decide_eq_decide.mpr (by omega)) q1 _ (Same.refl _)⟩) (fun hb4 H4 s4 => ?_) (fun hb4 H4 s4 => ?_)
    · have hb4 := of_decide_eq_true hb4
      refine ⟨.str p, rfl, 18, rfl, p, rfl, hs, cutS p (some 18) none, 0, 60, rfl, by decide, by decide, fun H5 s5 => ?_⟩
      have := q H5 ((s1.trans (s2.trans s3)).trans (s4.trans s5))
      unfold lawB at this
      rw [if_neg n5, if_neg n58, if_neg n8, if_neg n11, if_neg hb, if_neg hb2, if_neg hb3, if_pos hb4] at this
      rw [show (18 : Int) = ((18 : Nat) : Int) from rfl, cutS_from]
      exact this
    have hb4 := of_decide_eq_false hb4
    dsimp only [tNext, tSeq]
    refine ifT (decide ((TL.tl p).length < 23)) (fun k q1 => ⟨_, rfl, _, 23, rfl, rfl, _, rfl, TellB.eq (decide_eq_decide.mpr (by omega)) q1 _ (Same.refl _)⟩) (fun hb5 H5 s5 => ?_) (fun hb5 H5 s5 => ?_)
    · have hb5 := of_decide_eq_true hb5
      have h2122 : (TL.tl p).length = 21 ∨ (TL.tl p).length = 22 := by omega
      have sl : Same H H5 := (s1.trans (s2.trans s3)).trans (s4.trans s5)
      have hq : lawB (TL.tl p) = if (TL.tl p).length = 21 then decide (c = 32) else (decide (c = 43) || decide (c = 45)) := by
        unfold lawB
        rw [if_neg n5, if_neg n58, if_neg n8, if_neg n11, if_neg hb, if_neg hb2, if_neg hb3, if_neg hb4]
        rcases h2122 with h | h
        · rw [if_pos h, if_pos h, las]
        · rw [if_neg (by omega), if_pos h, if_neg (by omega), las, las]
      rw [hq] at q
      refine ⟨.str p, rfl, 1, rfl, p, -1, c, rfl, rfl, hs, ea, by show 2 ≤ _; rw [sizeLine_eq]; decide, fun g hg => ?_⟩
      rcases h2122 with h | h
      · rw [if_pos h] at q
        refine ⟨_, rfl, _, 21, rfl, rfl, g, _, _, .str (Str.ofString " "), rfl, rfl, .inl (.inl upd_same), by rw [hl, h]; rfl, c, Str.ofString " ", rfl, rfl, ?_⟩
        have e : decide (c ∈ (Str.ofString " ").cps.toList) = decide (c = 32) := by
          rw [show (Str.ofString " ").cps.toList = [32] by decide +kernel]
          simp
        rw [e]
        exact q _ (sl.trans (same_upd hg))
      · rw [if_neg (by omega)] at q
        refine ⟨_, rfl, _, 21, rfl, rfl, g, _, _, .str (Str.ofString "+-"), rfl, rfl, .inl (.inl upd_same), by rw [hl, h]; rfl, c, Str.ofString "+-", rfl, rfl, ?_⟩
        have e : decide (c ∈ (Str.ofString "+-").cps.toList) = (decide (c = 43) || decide (c = 45)) := by
          rw [show (Str.ofString "+-").cps.toList = [43, 45] by decide +kernel]
          simp
        rw [e]
        exact q _ (sl.trans (same_upd hg))
    have hb5 := of_decide_eq_false hb5
    dsimp only [tNext, tSeq]
    refine ifT (decide ((TL.tl p).length < 25)) (fun k q1 => ⟨_, rfl, _, 25, rfl, rfl, _, rfl, TellB.eq (decide_eq_decide.mpr (by omega)) q1 _ (Same.refl _)⟩) (fun hb6 H6 s6 => ?_) (fun hb6 H6 s6 => ?_)
    · have hb6 := of_decide_eq_true hb6
      refine ⟨.str p, rfl, 22, rfl, p, rfl, hs, cutS p (some 22) none, 0, 15, rfl, by decide, by decide, fun H7 s7 => ?_⟩
      have := q H7 ((s1.trans (s2.trans s3)).trans (s4.trans (s5.trans (s6.trans s7))))
      unfold lawB at this
      rw [if_neg n5, if_neg n58, if_neg n8, if_neg n11, if_neg hb, if_neg hb2, if_neg hb3, if_neg hb4, if_neg (by omega), if_neg (by omega), if_pos hb6] at this
      rw [show (22 : Int) = ((22 : Nat) : Int) from rfl, cutS_from]
      exact this
    have hb6 := of_decide_eq_false hb6
    dsimp only [tNext, tSeq]
    have sl : Same H H6 := (s1.trans (s2.trans s3)).trans (s4.trans (s5.trans s6))
    have hq : lawB (TL.tl p) = if 26 < (TL.tl p).length then false else if (TL.tl p).drop 21 = [45, 48, 48, 48, 48] then false else amongB ((TL.tl p).drop 24) 0 (if ((TL.tl p).drop 22).take 2 = [49, 52] then 1 else 60) := by
      unfold lawB
      rw [if_neg n5, if_neg n58, if_neg n8, if_neg n11, if_neg hb, if_neg hb2, if_neg hb3, if_neg hb4, if_neg (by omega), if_neg (by omega), if_neg hb6]
    have c21 : cutS p (some 21) none = ⟨((TL.tl p).drop 21).toArray⟩ := cutS_from p 21
    refine ifT (decide (26 < (TL.tl p).length) || decide ((TL.tl p).drop 21 = [45, 48, 48, 48, 48])) (fun k q1 => orT (decide (26 < (TL.tl p).length)) (decide ((TL.tl p).drop 21 = [45, 48, 48, 48, 48])) (fun k2 q2 => ⟨_, rfl, _, 26, rfl, rfl, _, rfl, TellB.eq (decide_eq_decide.mpr (by omega)) q2 _ (Same.refl _)⟩) (fun _ H7 k2 s7 q2 => ⟨.str p, rfl, 21, rfl, p, rfl, hs, rfl, _, rfl, TellB.eq ?_ q2 _ (Same.refl _)⟩) q1) (fun hb7 H7 s7 => ?_) (fun hb7 H7 s7 => ?_)
    · rw [decide_eq_decide]
      constructor
      · intro h
        have := congrArg TL.tl (V.str.inj h)
        rw [show (21 : Int) = ((21 : Nat) : Int) from rfl, cutS_from] at this
        exact this.trans (by decide +kernel)
      · intro h
        refine congrArg V.str (TL.ext_tl ?_)
        rw [show (21 : Int) = ((21 : Nat) : Int) from rfl, cutS_from]
        exact Eq.trans h (by decide +kernel)
    · have : lawB (TL.tl p) = false := by
        rw [hq]
        split
        · rfl
        · rename_i h26
          rw [decide_eq_false h26, Bool.false_or] at hb7
          rw [if_pos (of_decide_eq_true hb7)]
      rw [this] at q
      exact q _ (sl.trans s7)
    dsimp only [tNext]
    have h26 : ¬ 26 < (TL.tl p).length := fun h => by rw [decide_eq_true h] at hb7; exact nomatch hb7
    have h21 : ¬ (TL.tl p).drop 21 = [45, 48, 48, 48, 48] := fun h => by rw [decide_eq_true h, Bool.or_true] at hb7; exact nomatch hb7
    rw [hq, if_neg h26, if_neg h21] at q
    refine ⟨.str p, rfl, 24, rfl, p, rfl, hs, by show 2 ≤ _; rw [sizeLine_eq]; decide, fun g hg => ?_⟩
    have e14 : decide (V.str (cutS p (some 22) (some 24)) = V.str (Str.ofString "14")) = decide (((TL.tl p).drop 22).take 2 = [49, 52]) := by
      rw [show (22 : Int) = ((22 : Nat) : Int) from rfl, show (24 : Int) = ((24 : Nat) : Int) from rfl, cutS_at, decide_eq_decide]
      constructor
      · intro h
        exact (congrArg TL.tl (V.str.inj h)).trans (by decide +kernel)
      · intro h
        exact congrArg V.str (TL.ext_tl (Eq.trans h (by decide +kernel)))
    refine ⟨.str p, rfl, 22, rfl, 24, rfl, p, rfl, hs, rfl, .inr ⟨_, rfl, g, _, _, .int (if ((TL.tl p).drop 22).take 2 = [49, 52] then 1 else 60), rfl, rfl, .inl (.inl upd_same), ?_, cutS p (some 24) none, 0, (if ((TL.tl p).drop 22).take 2 = [49, 52] then 1 else 60), ?_, by omega, by split <;> omega, fun H8 s8 => ?_⟩⟩
    · show atI [V.int 60, V.int 1] (if decide (V.str (cutS p (some 22) (some 24)) = V.str (Str.ofString "14")) = true then 1 else 0) = _
      rw [e14]
      by_cases h : ((TL.tl p).drop 22).take 2 = [49, 52]
      · rw [decide_eq_true h, if_pos h]; rfl
      · rw [decide_eq_false h, if_neg h]; rfl
    · by_cases h : ((TL.tl p).drop 22).take 2 = [49, 52]
      · rw [if_pos h, if_pos h]; rfl
      · rw [if_neg h, if_neg h]; rfl
    · rw [show (24 : Int) = ((24 : Nat) : Int) from rfl, cutS_from]
      exact q _ (sl.trans (s7.trans ((same_upd hg).trans s8)))
end
end K12

namespace K12
open PySem PySem.Spec PyProof.Rows L2 LH
theorem step_take {l : List Nat} {m k : Nat} (h : k < m) : step (l.take m) k = step l k := by
  unfold step
  rw [List.take_take, show min (k + 1) m = k + 1 by omega, List.length_take]
  congr 1
  exact decide_eq_decide.mpr (by omega)
/-- the place that the law finds: 0 where there is none -/
def PlaceIs (l : List Nat) (p : Nat) : Prop := (∃ j, j < l.length ∧ (∀ k, k < j → step l k = true) ∧ step l j = false ∧ p = j + 1) ∨ ((∀ k, k < l.length → step l k = true) ∧ p = if l.length < 26 then l.length + 1 else 0)
def SG1 : Str := Str.ofString " !\"#$&'()*+,-./0123456789:;<=>?@ABCDEFGHIJKLMNOPQRSTUVWXYZ[\\]^_`"
def SG2 : Str := Str.ofString "abcdefghijklmnopqrstuvwxyz{|}~"
def SIGNS : Str := SG1 ++ SG2
theorem SIGNS_len : SIGNS.length = 94 := by decide +kernel
section
variable {P : Program} {w : World} {K : PySem.W.Frag} {mg : Str → Option Value} {base : Heap} {tk : Nat → Tok} {ca : Nat → Addr} {dn md C : Addr}
/-! ### _law_place -/
abbrev s__law_place : Stmt := topS 56
abbrev N__law_place : List Str := ["_law_text_here", "_law_at"]
abbrev P__law_place : List Str := ["_law_text_here"]
theorem sc__law_place : FnScope N__law_place ["_law_text_here"] (defScope s__law_place) := ⟨rfl, rfl, rfl, by decide +kernel, rfl, by decide +kernel, by decide +kernel⟩
def sp_place : Sp := fun vs H Q _ => ∃ z : Str, vs = [.str z] ∧ z.length ≤ 100 ∧ ∀ p : Nat, PlaceIs (TL.tl z) p → Tell H (.int (p : Nat)) Q
theorem ok_place {fB f : Addr} {fdB fd : FuncData} (F : Fun K "_law_place" "_law_place" s__law_place f fd) (T : Tx K mg tk dn md) (D__law_begins : Def P w K mg base "_law_begins" 4 fB fdB P__law_begins sp_begins) : FnOk P w K mg base CX0 5 f fd P__law_place sp_place := by
  refine F.ok sc__law_place (fun vs H Q E h => ?_) (fun cdv A outer s H vs Q E hr h => ?_)
  · obtain ⟨z, rfl, _⟩ := h
    rfl
  · have nd := sc__law_place.nd
    obtain ⟨z, rfl, hz, q⟩ := h
    refine ⟨_, (pss_cons (ps_for PassesOwn.never rfl (pi_range1 (by rfl) T.n_range (pa_cons (pe_callB call_len_str (by rfl) T.n_len (by decide +kernel) (pa_cons (pv 0) pa_nil)) pa_nil)) (pg_name (i := 1) nd rfl (Or.inl rfl))
        (pss_one (ps_if (pt_not (pt_val (pe_def D__law_begins (hr.mono (by decide)) (pa_cons (pe_slice sl_str (pv 0) po_none (po_some (pe_op op_add (pv 1) pe_int))) pa_nil))))
          (pss_one (ps_ret (pe_op op_add (pv 1) pe_int)))
          pss_nil)))
      (pss_one (ps_ret (pe_op op_mul (pe_op op_add (pe_callB call_len_str (by rfl) T.n_len (by decide +kernel) (pa_cons (pv 0) pa_nil)) pe_int) (pe_callTy call_int1 (by rfl) T.n_int (by decide +kernel) (pa_cons (pe_cmpR op_lt (pe_callB call_len_str (by rfl) T.n_len (by decide +kernel) (pa_cons (pv 0) pa_nil)) pe_int (nomark _)) pa_nil)))))), ?_⟩
    have hl : z.length = (TL.tl z).length := TL.len_tl z
    have hs : z.length ≤ sizeLine := by rw [sizeLine_eq]; omega
    dsimp only [gName, tSeq, tAsg]
    have hlt : ((z.length : Nat) : Int).toNat = (TL.tl z).length := by omega
    refine ⟨.str z, rfl, z, rfl, hs, _, rfl, by omega, by omega, for_it walk_range (fun i σ H' => ∃ y : Option V, σ = [some (.str z), y] ∧ Same H H' ∧ ∀ k, k < i → step (TL.tl z) k = true) ⟨none, rfl, Same.refl _, fun _ h => absurd h (Nat.not_lt_zero _)⟩ (fun _ _ _ _ _ => trivial) (fun i x σ H1 H2 hi hP hy => ?_) (fun σ H1 hP => ?_)⟩
    · obtain ⟨y, rfl, sm, hst⟩ := hP
      obtain ⟨rfl, rfl⟩ := hy
      rw [hlt] at hi
      have hcl : TL.tl (cutS z none (some (((i + 1 : Nat)) : Int))) = (TL.tl z).take (i + 1) := by rw [cutS_to]
      have hll : ((TL.tl z).take (i + 1)).length = i + 1 := by rw [List.length_take]; omega
      have hsi : lawB ((TL.tl z).take (i + 1)) = step (TL.tl z) i := (step_eq hi).symm
      dsimp only [gName, tSeq]
      show tIfS _ _ _ _ [some (.str z), some (.int (0 + (i : Int)))] H2
      rw [Int.zero_add]
      refine ifT (!step (TL.tl z) i) (fun k q1 => notT (step (TL.tl z) i) (fun k2 q2 => ⟨.str z, rfl, _, rfl, _, 1, rfl, rfl, _, rfl, z, rfl, hs, ?_⟩) q1) (fun hb H3 s3 => ?_) (fun hb H3 s3 => ?_)
      · rw [show (i : Int) + 1 = ((i + 1 : Nat) : Int) by omega]
        refine ⟨_, rfl, by rw [hcl, hll]; omega, by rw [TL.len_tl, hcl, hll]; omega, fun k hk => ?_, fun H4 s4 => ⟨_, rfl, ?_⟩⟩
        · rw [hcl, hll] at hk
          rw [hcl, step_take (by omega)]
          exact hst k (by omega)
        · rw [hcl, hsi]
          exact q2 _ s4
      · have hb : step (TL.tl z) i = false := by simpa using hb
        refine ⟨_, rfl, _, 1, rfl, rfl, ?_⟩
        show Q (.int ((i : Int) + 1)) H3
        rw [show (i : Int) + 1 = ((i + 1 : Nat) : Int) by omega]
        exact q (i + 1) (.inl ⟨i, hi, hst, hb, rfl⟩) _ (sm.trans s3)
      · have hb : step (TL.tl z) i = true := by simpa using hb
        refine ⟨_, rfl, sm.trans s3, fun k hk => ?_⟩
        by_cases hki : k = i
        · rw [hki]; exact hb
        · exact hst k (by omega)
    · obtain ⟨y, rfl, sm, hst⟩ := hP
      rw [hlt] at hst
      refine ⟨.str z, rfl, z, rfl, hs, _, 1, rfl, rfl, .str z, rfl, z, rfl, hs, _, 26, rfl, rfl, .inr ⟨_, rfl, _, _, rfl, rfl, ?_, ?_⟩⟩
      · exact .inl ⟨by omega, by omega⟩
      · have := q (if (TL.tl z).length < 26 then (TL.tl z).length + 1 else 0) (.inr ⟨hst, rfl⟩) _ sm
        have ev : ((z.length : Nat) : Int) + 1 = (((TL.tl z).length + 1 : Nat) : Int) := by omega
        show Q (.int ((((z.length : Nat) : Int) + 1) * (if decide (((z.length : Nat) : Int) < 26) = true then 1 else 0))) H1
        by_cases h : (TL.tl z).length < 26
        · rw [if_pos h] at this
          rw [if_pos (decide_eq_true (by omega)), Int.mul_one, ev]
          exact this
        · rw [if_neg h] at this
          rw [if_neg (fun h' => h (by have := of_decide_eq_true h'; omega)), Int.mul_zero]
          exact this
/-! ### _law_minute -/
abbrev s__law_minute : Stmt := topS 57
abbrev N__law_minute : List Str := ["_law_text_here", "_law_ahead_here", "_law_day_here"]
abbrev P__law_minute : List Str := ["_law_text_here"]
theorem sc__law_minute : FnScope N__law_minute ["_law_text_here"] (defScope s__law_minute) := ⟨rfl, rfl, rfl, by decide +kernel, rfl, by decide +kernel, by decide +kernel⟩
def sp_minute : Sp := fun vs H Q _ => ∃ z : Str, vs = [.str z] ∧ (TL.tl z).length = 26 ∧ (∀ k, k < 26 → step (TL.tl z) k = true) ∧ Pair H (minuteL (TL.tl z)).1 (minuteL (TL.tl z)).2 Q
theorem ok_minute {fD f : Addr} {fdD fd : FuncData} (F : Fun K "_law_minute" "_law_minute" s__law_minute f fd) (T : Tx K mg tk dn md) (D__law_day : Def P w K mg base "_law_day" 1 fD fdD P__law_day sp_day) : FnOk P w K mg base CX0 2 f fd P__law_minute sp_minute := by
  refine F.ok sc__law_minute (fun vs H Q E h => ?_) (fun cdv A outer s H vs Q E hr h => ?_)
  · obtain ⟨z, rfl, _⟩ := h
    rfl
  · have nd := sc__law_minute.nd
    obtain ⟨z, rfl, h26, hst, q⟩ := h
    refine ⟨_, (pss_cons (ps_set (i := 1) nd rfl (.inl rfl) (pe_op op_add (pe_op op_mul pe_int (pe_callTy call_int_str (by rfl) T.n_int (by decide +kernel) (pa_cons (pe_slice sl_str (pv 0) (po_some pe_int) (po_some pe_int)) pa_nil))) (pe_callTy call_int_str (by rfl) T.n_int (by decide +kernel) (pa_cons (pe_slice sl_str (pv 0) (po_some pe_int) (po_some pe_int)) pa_nil))))
      (pss_cons (ps_if (pt_cmpR op_eq (pe_ix ix_str (pv 0) pe_int (fun _ _ => rfl)) pe_str (nomark _))
        (pss_one (ps_set (i := 1) nd rfl (.inl rfl) (pe_un un_neg (pv 1))))
        pss_nil)
      (pss_cons (ps_set (i := 2) nd rfl (.inl rfl) (pe_def D__law_day (hr.mono (by decide)) (pa_cons (pe_callTy call_int_str (by rfl) T.n_int (by decide +kernel) (pa_cons (pe_slice sl_str (pv 0) po_none (po_some pe_int)) pa_nil)) (pa_cons (pe_callTy call_int_str (by rfl) T.n_int (by decide +kernel) (pa_cons (pe_slice sl_str (pv 0) (po_some pe_int) (po_some pe_int)) pa_nil)) (pa_cons (pe_callTy call_int_str (by rfl) T.n_int (by decide +kernel) (pa_cons (pe_slice sl_str (pv 0) (po_some pe_int) (po_some pe_int)) pa_nil)) pa_nil)))))
      (pss_one (ps_ret (pe_tup (pa_cons (pe_op op_sub (pe_op op_add (pe_op op_add (pe_op op_mul pe_int (pv 2)) (pe_op op_mul pe_int (pe_callTy call_int_str (by rfl) T.n_int (by decide +kernel) (pa_cons (pe_slice sl_str (pv 0) (po_some pe_int) (po_some pe_int)) pa_nil)))) (pe_callTy call_int_str (by rfl) T.n_int (by decide +kernel) (pa_cons (pe_slice sl_str (pv 0) (po_some pe_int) (po_some pe_int)) pa_nil))) (pv 1)) (pa_cons (pv 1) pa_nil)))))))), ?_⟩
    have hl : z.length = (TL.tl z).length := TL.len_tl z
    have hs : z.length ≤ sizeLine := by rw [sizeLine_eq]; omega
    dsimp only [gName, tSeq, tAsg]
    have hy := year_digits (l := TL.tl z) (fun k hk => hst k (by omega))
    obtain ⟨m, m1, m2, hm, hdm⟩ := at_month (hst 6 (by omega))
    obtain ⟨d, d1, d2, hd, hdd⟩ := at_day (hst 9 (by omega))
    obtain ⟨h, x1, x2, hh, _⟩ := two_of (l := TL.tl z) (n := 15) (lo := 0) (hi := 24) (by decide) (by omega) ((b_hour (by omega)).symm.trans (hst 16 (by omega)))
    obtain ⟨i, x3, x4, hi, _⟩ := two_of (l := TL.tl z) (n := 18) (lo := 0) (hi := 60) (by decide) (by omega) ((b_min (by omega)).symm.trans (hst 19 (by omega)))
    obtain ⟨u, x5, x6, hu, _⟩ := two_of (l := TL.tl z) (n := 22) (lo := 0) (hi := 15) (by decide) (by omega) ((b_ahead (by omega)).symm.trans (hst 23 (by omega)))
    obtain ⟨v, x7, x8, hv, _⟩ := two_of (l := TL.tl z) (n := 24) (lo := 0) (hi := 60) (by decide) (by omega) (b_late (by omega) (hst 25 (by omega)))
    have iy0 := int_cut (z := z) (a := 0) (b := 4) (by decide) (by omega) (by decide) (by rw [List.drop_zero]; exact hy.2)
    have ecut : cutS z none (some (4 : Int)) = cutS z (some ((0 : Nat) : Int)) (some ((4 : Nat) : Int)) := by
      rw [cutS_at]
      exact cutS_to z 4
    rw [← ecut] at iy0
    have iy : intText? (cutS z none (some 4)) = some (dv ((TL.tl z).take 4) : Int) ∧ (cutS z none (some 4)).length ≤ 640 := iy0
    have im : intText? (cutS z (some 5) (some 7)) = some (dv (((TL.tl z).drop 5).take 2) : Int) ∧ (cutS z (some 5) (some 7)).length ≤ 640 := int_cut (z := z) (a := 5) (b := 7) (by decide) (by omega) (by decide) (fun c hc => by rw [show (7 : Nat) - 5 = 2 from rfl, hm] at hc; exact two_dig (by omega) hc)
    have id : intText? (cutS z (some 8) (some 10)) = some (dv (((TL.tl z).drop 8).take 2) : Int) ∧ (cutS z (some 8) (some 10)).length ≤ 640 := int_cut (z := z) (a := 8) (b := 10) (by decide) (by omega) (by decide) (fun c hc => by rw [show (10 : Nat) - 8 = 2 from rfl, hd] at hc; exact two_dig (by omega) hc)
    have ih : intText? (cutS z (some 15) (some 17)) = some (dv (((TL.tl z).drop 15).take 2) : Int) ∧ (cutS z (some 15) (some 17)).length ≤ 640 := int_cut (z := z) (a := 15) (b := 17) (by decide) (by omega) (by decide) (fun c hc => by rw [show (17 : Nat) - 15 = 2 from rfl, hh] at hc; exact two_dig (by omega) hc)
    have ii : intText? (cutS z (some 18) (some 20)) = some (dv (((TL.tl z).drop 18).take 2) : Int) ∧ (cutS z (some 18) (some 20)).length ≤ 640 := int_cut (z := z) (a := 18) (b := 20) (by decide) (by omega) (by decide) (fun c hc => by rw [show (20 : Nat) - 18 = 2 from rfl, hi] at hc; exact two_dig (by omega) hc)
    have iu : intText? (cutS z (some 22) (some 24)) = some (dv (((TL.tl z).drop 22).take 2) : Int) ∧ (cutS z (some 22) (some 24)).length ≤ 640 := int_cut (z := z) (a := 22) (b := 24) (by decide) (by omega) (by decide) (fun c hc => by rw [show (24 : Nat) - 22 = 2 from rfl, hu] at hc; exact two_dig (by omega) hc)
    have iv : intText? (cutS z (some 24) (some 26)) = some (dv (((TL.tl z).drop 24).take 2) : Int) ∧ (cutS z (some 24) (some 26)).length ≤ 640 := int_cut (z := z) (a := 24) (b := 26) (by decide) (by omega) (by decide) (fun c hc => by rw [show (26 : Nat) - 24 = 2 from rfl, hv] at hc; exact two_dig (by omega) hc)
    obtain ⟨c, hc⟩ : ∃ c, (TL.tl z)[21]? = some c := ⟨(TL.tl z)[21], List.getElem?_eq_getElem (by omega)⟩
    refine ⟨.str z, rfl, 22, rfl, 24, rfl, z, rfl, hs, cutS z (some 22) (some 24), _, rfl, iu.1, iu.2, 60, _, rfl, rfl, .inl ⟨by decide, by decide⟩, .str z, rfl, 24, rfl, 26, rfl, z, rfl, hs, cutS z (some 24) (some 26), _, rfl, iv.1, iv.2, _, _, rfl, rfl, ?_⟩
    dsimp only
    refine ifT (decide (c = 45)) (fun k q1 => ⟨.str z, rfl, z, 21, c, rfl, rfl, hs, atI_nat hc, rfl, _, rfl, TellB.eq (one_eq (by decide +kernel)) q1 _ (Same.refl _)⟩) (fun hb H1 s1 => ?_) (fun hb H1 s1 => ?_)
    · have hb := of_decide_eq_true hb
      have em : minuteL (TL.tl z) = (1440 * dayNo (dv ((TL.tl z).take 4)) (dv (((TL.tl z).drop 5).take 2)) (dv (((TL.tl z).drop 8).take 2)) + 60 * (dv (((TL.tl z).drop 15).take 2) : Nat) + (dv (((TL.tl z).drop 18).take 2) : Nat) - -(60 * ((dv (((TL.tl z).drop 22).take 2) : Nat) : Int) + ((dv (((TL.tl z).drop 24).take 2) : Nat) : Int)), -(60 * ((dv (((TL.tl z).drop 22).take 2) : Nat) : Int) + ((dv (((TL.tl z).drop 24).take 2) : Nat) : Int))) := by
        unfold minuteL
        rw [hc]
        dsimp only
        rw [if_pos (congrArg some hb)]
      refine ⟨_, rfl, _, rfl, ?_⟩
      dsimp only [gName, tSeq, tAsg]
      refine ⟨.str z, rfl, 4, rfl, z, rfl, hs, cutS z none (some 4), _, rfl, iy.1, iy.2, .str z, rfl, 5, rfl, 7, rfl, z, rfl, hs, cutS z (some 5) (some 7), _, rfl, im.1, im.2, .str z, rfl, 8, rfl, 10, rfl, z, rfl, hs, cutS z (some 8) (some 10), _, rfl, id.1, id.2, _, _, _, rfl, by omega, by omega, fun H2 s2 => ?_⟩
      refine ⟨_, rfl, 1440, _, rfl, rfl, .inl ⟨by decide, by decide⟩, .str z, rfl, 15, rfl, 17, rfl, z, rfl, hs, cutS z (some 15) (some 17), _, rfl, ih.1, ih.2, 60, _, rfl, rfl, .inl ⟨by decide, by decide⟩, _, _, rfl, rfl, .str z, rfl, 18, rfl, 20, rfl, z, rfl, hs, cutS z (some 18) (some 20), _, rfl, ii.1, ii.2, _, _, rfl, rfl, _, rfl, _, _, rfl, rfl, _, rfl, by show 2 ≤ _; rw [sizeLine_eq]; decide, fun g hg => q _ g (s1.trans (s2.trans (same_upd hg))) (fresh_same (s1.trans s2) hg) ?_⟩
      rw [upd_same, em]
    · have hb := of_decide_eq_false hb
      have em : minuteL (TL.tl z) = (1440 * dayNo (dv ((TL.tl z).take 4)) (dv (((TL.tl z).drop 5).take 2)) (dv (((TL.tl z).drop 8).take 2)) + 60 * (dv (((TL.tl z).drop 15).take 2) : Nat) + (dv (((TL.tl z).drop 18).take 2) : Nat) - (60 * ((dv (((TL.tl z).drop 22).take 2) : Nat) : Int) + ((dv (((TL.tl z).drop 24).take 2) : Nat) : Int)), (60 * ((dv (((TL.tl z).drop 22).take 2) : Nat) : Int) + ((dv (((TL.tl z).drop 24).take 2) : Nat) : Int))) := by
        unfold minuteL
        rw [hc]
        dsimp only
        rw [if_neg (fun h => hb (Option.some.inj h))]
      dsimp only [tNext, gName, tSeq, tAsg]
      refine ⟨.str z, rfl, 4, rfl, z, rfl, hs, cutS z none (some 4), _, rfl, iy.1, iy.2, .str z, rfl, 5, rfl, 7, rfl, z, rfl, hs, cutS z (some 5) (some 7), _, rfl, im.1, im.2, .str z, rfl, 8, rfl, 10, rfl, z, rfl, hs, cutS z (some 8) (some 10), _, rfl, id.1, id.2, _, _, _, rfl, by omega, by omega, fun H2 s2 => ?_⟩
      refine ⟨_, rfl, 1440, _, rfl, rfl, .inl ⟨by decide, by decide⟩, .str z, rfl, 15, rfl, 17, rfl, z, rfl, hs, cutS z (some 15) (some 17), _, rfl, ih.1, ih.2, 60, _, rfl, rfl, .inl ⟨by decide, by decide⟩, _, _, rfl, rfl, .str z, rfl, 18, rfl, 20, rfl, z, rfl, hs, cutS z (some 18) (some 20), _, rfl, ii.1, ii.2, _, _, rfl, rfl, _, rfl, _, _, rfl, rfl, _, rfl, by show 2 ≤ _; rw [sizeLine_eq]; decide, fun g hg => q _ g (s1.trans (s2.trans (same_upd hg))) (fresh_same (s1.trans s2) hg) ?_⟩
      rw [upd_same, em]
/-! ### _law_signs -/
abbrev s__law_signs : Stmt := topS 45
abbrev N__law_signs : List Str := ["_law_some"]
abbrev P__law_signs : List Str := []
theorem sc__law_signs : FnScope N__law_signs [] (defScope s__law_signs) := ⟨rfl, rfl, rfl, by decide +kernel, rfl, by decide +kernel, by decide +kernel⟩
def sp_signs : Sp := fun vs H Q _ => vs = [] ∧ Q (.str SIGNS) H
theorem ok_signs {f : Addr} {fd : FuncData} {k : Nat} (F : Fun K "_law_signs" "_law_signs" s__law_signs f fd) : FnOk P w K mg base CX0 (k + 1) f fd P__law_signs sp_signs := by
  refine F.ok sc__law_signs (fun vs H Q E h => ?_) (fun cdv A outer s H vs Q E hr h => ?_)
  · obtain ⟨rfl, _⟩ := h
    rfl
  · have nd := sc__law_signs.nd
    obtain ⟨rfl, q⟩ := h
    refine ⟨_, (pss_cons (ps_set (i := 0) nd rfl (.inl rfl) pe_str)
      (pss_one (ps_ret (pe_op op_add_str (pv 0) pe_str)))), ?_⟩
    exact ⟨.str SG1, rfl, SG1, SG2, rfl, rfl, Nat.le_of_lt (small1000 (by decide +kernel)), q⟩
/-! ### _law_bent -/
abbrev s__law_bent : Stmt := topS 58
abbrev N__law_bent : List Str := ["_law_text_here", "_law_number", "_law_more", "_law_at", "_law_sign", "_law_way", "_law_place_here", "_law_late"]
abbrev P__law_bent : List Str := ["_law_text_here", "_law_number"]
theorem sc__law_bent : FnScope N__law_bent ["_law_text_here", "_law_number"] (defScope s__law_bent) := ⟨rfl, rfl, rfl, by decide +kernel, rfl, by decide +kernel, by decide +kernel⟩
def sp_bent : Sp := fun vs H Q _ => ∃ (z : Str) (n : Int), vs = [.str z, .int n] ∧ z.length = 26 ∧ 0 ≤ n ∧ n < 2147483648 ∧ ∀ t : Str, t.length ≤ 100 → Tell H (.str t) Q
theorem ok_bent {fS fT f : Addr} {fdS fdT fd : FuncData} (F : Fun K "_law_bent" "_law_bent" s__law_bent f fd) (T : Tx K mg tk dn md) (D__law_signs : Def P w K mg base "_law_signs" 1 fS fdS P__law_signs sp_signs) (D__law_two : Def P w K mg base "_law_two" 1 fT fdT P__law_two sp_two) : FnOk P w K mg base CX0 2 f fd P__law_bent sp_bent := by
  refine F.ok sc__law_bent (fun vs H Q E h => ?_) (fun cdv A outer s H vs Q E hr h => ?_)
  · obtain ⟨z, n, rfl, _⟩ := h
    rfl
  · have nd := sc__law_bent.nd
    obtain ⟨z, n, rfl, hz, h0, h1, q⟩ := h
    refine ⟨_, (pss_cons (ps_set (i := 2) nd rfl (.inl rfl) (pe_op op_fdiv (pv 1) pe_int))
      (pss_cons (ps_set (i := 3) nd rfl (.inl rfl) (pe_op op_mod (pv 2) (pe_op op_add (pe_callB call_len_str (by rfl) T.n_len (by decide +kernel) (pa_cons (pv 0) pa_nil)) pe_int)))
      (pss_cons (ps_set (i := 4) nd rfl (.inl rfl) (pe_ix ix_str (pe_op op_add_str (pe_op op_add_str pe_str (pe_def0 D__law_signs (hr.mono (by decide)))) pe_str) (pe_op op_mod (pe_op op_fdiv (pv 2) pe_int) pe_int) (fun _ _ => rfl)))
      (pss_cons (ps_set (i := 5) nd rfl (.inl rfl) (pe_op op_mod (pv 1) pe_int))
      (pss_cons (ps_if (pt_cmpR op_lt (pv 5) pe_int (nomark _))
        (pss_one (ps_ret (pe_op op_add_str (pe_op op_add_str (pe_slice sl_str (pv 0) po_none (po_some (pv 3))) (pv 4)) (pe_slice sl_str (pv 0) (po_some (pe_op op_add (pv 3) pe_int)) po_none))))
        pss_nil)
      (pss_cons (ps_if (PW.pt (pw_and (pt_cmpR op_eq (pv 5) pe_int (nomark _)) (pw_and1 (pt_cmpR op_eq (pe_op op_mod (pv 2) pe_int) pe_int (nomark _)))))
        (pss_cons (ps_set (i := 7) nd rfl (.inl rfl) (pe_ix (ixL K) (pe_lst (pa_cons (pe_op op_mod (pe_op op_fdiv (pv 2) pe_int) pe_int) (pa_cons (pe_op op_mod (pe_op op_fdiv (pv 2) pe_int) pe_int) pa_nil))) (pe_op op_mod (pv 2) pe_int) (fun _ _ => rfl)))
        (pss_one (ps_ret (pe_op op_add_str (pe_op op_add_str (pe_slice sl_str (pv 0) po_none (po_some pe_int)) (pe_def D__law_two (hr.mono (by decide)) (pa_cons (pe_ix (ixL K) (pe_lst (pa_cons pe_int (pa_cons pe_int (pa_cons pe_int (pa_cons pe_int pa_nil))))) (pe_op op_mod (pe_op op_fdiv (pv 2) pe_int) pe_int) (fun _ _ => rfl)) pa_nil))) (pe_def D__law_two (hr.mono (by decide)) (pa_cons (pv 7) pa_nil))))))
        pss_nil)
      (pss_cons (ps_if (pt_cmpR op_eq (pv 5) pe_int (nomark _))
        (pss_one (ps_ret (pe_op op_add_str (pe_op op_add_str (pe_slice sl_str (pv 0) po_none (po_some pe_int)) pe_str) (pe_slice sl_str (pv 0) (po_some pe_int) po_none))))
        pss_nil)
      (pss_cons (ps_if (pt_cmpR op_eq (pv 5) pe_int (nomark _))
        (pss_one (ps_ret (pe_op op_add_str (pe_op op_add_str (pe_slice sl_str (pv 0) po_none (po_some (pv 3))) (pv 4)) (pe_slice sl_str (pv 0) (po_some (pv 3)) po_none))))
        pss_nil)
      (pss_cons (ps_if (pt_cmpR op_eq (pv 5) pe_int (nomark _))
        (pss_one (ps_ret (pe_op op_add_str (pe_slice sl_str (pv 0) po_none (po_some (pv 3))) (pe_slice sl_str (pv 0) (po_some (pe_op op_add (pv 3) pe_int)) po_none))))
        pss_nil)
      (pss_cons (ps_if (pt_cmpR op_eq (pv 5) pe_int (nomark _))
        (pss_one (ps_ret (pe_slice sl_str (pv 0) po_none (po_some (pv 3)))))
        pss_nil)
      (pss_cons (ps_set (i := 6) nd rfl (.inl rfl) (pe_ix (ixL K) (pe_lst (pa_cons pe_int (pa_cons pe_int (pa_cons pe_int (pa_cons pe_int (pa_cons pe_int (pa_cons pe_int (pa_cons pe_int (pa_cons pe_int pa_nil))))))))) (pe_op op_mod (pe_op op_fdiv (pv 2) pe_int) pe_int) (fun _ _ => rfl)))
      (pss_one (ps_ret (pe_op op_add_str (pe_op op_add_str (pe_slice sl_str (pv 0) po_none (po_some (pv 6))) (pe_def D__law_two (hr.mono (by decide)) (pa_cons (pe_op op_mod (pe_op op_fdiv (pv 2) pe_int) pe_int) pa_nil))) (pe_slice sl_str (pv 0) (po_some (pe_op op_add (pv 6) pe_int)) po_none))))))))))))))), ?_⟩
    have hs : z.length ≤ sizeLine := by rw [sizeLine_eq]; omega
    have hl : z.length = (TL.tl z).length := TL.len_tl z
    have l1 : ∀ c : Nat, (⟨#[c]⟩ : Str).length = 1 := fun _ => rfl
    have l2 : ∀ n, (SX.S (two n)).length = 2 := fun _ => rfl
    have ld : (Str.ofString "-").length = 1 := by decide +kernel
    have cl : ∀ lo hi : Option Int, (cutS z lo hi).length ≤ 26 := fun lo hi => by
      have := cutS_length z lo hi
      omega
    have lT : (Str.ofString "01234567890123456789MTWFSoueahdr").length = 32 := by decide +kernel
    have lt : (Str.ofString "\t").length = 1 := by decide +kernel
    have hS := SIGNS_len
    obtain ⟨c, hc⟩ : ∃ c, atI (TL.tl (Str.ofString "01234567890123456789MTWFSoueahdr" ++ SIGNS ++ Str.ofString "\t")) (n / 8 / 27 % 127) = some c := by
      have hlen : (TL.tl (Str.ofString "01234567890123456789MTWFSoueahdr" ++ SIGNS ++ Str.ofString "\t")).length = 127 := by rw [← TL.len_tl]; simp only [len_app, lT, lt, hS]
      obtain ⟨m, hm⟩ : ∃ m : Nat, n / 8 / 27 % 127 = (m : Int) := ⟨(n / 8 / 27 % 127).toNat, by omega⟩
      have hlt : m < (TL.tl (Str.ofString "01234567890123456789MTWFSoueahdr" ++ SIGNS ++ Str.ofString "\t")).length := by rw [hlen]; omega
      rw [hm]
      exact ⟨_, atI_nat (List.getElem?_eq_getElem hlt)⟩
    refine ⟨_, rfl, _, 8, rfl, rfl, ⟨by decide, by decide⟩, _, rfl, .str z, rfl, z, rfl, hs, _, 1, rfl, rfl, _, _, rfl, rfl, by omega, rfl, _, _, rfl, rfl, by simp only [lT, hS, sizeLine_eq]; omega, _, _, rfl, rfl, by simp only [len_app, lT, lt, hS, sizeLine_eq]; omega, _, rfl, _, 27, rfl, rfl, ⟨by decide, by decide⟩, _, 127, rfl, rfl, (show (0 : Int) < 127 by decide), _, _, c, rfl, rfl, by simp only [len_app, lT, lt, hS, sizeLine_eq]; omega, hc, _, rfl, _, 8, rfl, rfl, (show (0 : Int) < 8 by decide), ?_⟩
    dsimp only
    generalize n / 8 % ((z.length : Int) + 1) = at_ at *
    have hM0 : 0 ≤ n / 8 := by omega
    generalize hM : n / 8 = M at *
    have hW : 0 ≤ n % 8 ∧ n % 8 < 8 := by omega
    generalize n % 8 = W at *
    show tIfS _ _ _ _ [some (.str z), some (.int n), some (.int M), some (.int at_), some (.str ⟨#[c]⟩), some (.int W), none, none] H
    refine ifT (decide (W < 3)) (fun k q1 => ⟨_, rfl, _, 3, rfl, rfl, _, rfl, q1 _ (Same.refl _)⟩) (fun _ H1 s1 => ?_) (fun _ H1 s1 => ?_)
    · exact ⟨.str z, rfl, _, rfl, _, rfl, z, rfl, hs, _, rfl, _, _, rfl, rfl, by simp only [len_app, l1, l2, ld, sizeLine_eq]; have := cl none (some at_); omega, .str z, rfl, _, rfl, _, 1, rfl, rfl, _, rfl, z, rfl, hs, _, _, rfl, rfl, by simp only [len_app, l1, l2, ld, sizeLine_eq]; have := cl none (some at_); have := cl (some (at_ + 1)) none; omega, q _ (by simp only [len_app, l1]; have := cl none (some at_); have := cl (some (at_ + 1)) none; omega) _ s1⟩
    dsimp only [tNext, tSeq]
    have eqW : ∀ {j : Int} {k : Bool → Hp → Prop} {H : Hp}, TellB H (decide (W = j)) k → k (decide (V.int W = V.int j)) H := fun {j k H} q1 => by rw [vint_dec]; exact q1 _ (Same.refl _)
    refine ifT (decide (W = 3) && decide (M % 3 = 1)) (fun k q1 => andT (decide (W = 3)) (decide (M % 3 = 1)) (fun k2 q2 => ⟨_, rfl, rfl, _, rfl, eqW q2⟩) (fun _ H2 k2 s2 q2 => ⟨_, rfl, _, 3, rfl, rfl, (show (0 : Int) < 3 by decide), rfl, _, rfl, by rw [vint_dec]; exact q2 _ (Same.refl _)⟩) q1) (fun _ H2 s2 => ?_) (fun _ H2 s2 => ?_)
    · obtain ⟨v, hv, hat⟩ := pickI [M / 12 % 100, M / 12 % 10] (M % 2) (by omega) (by show M % 2 < 2; omega)
      obtain ⟨x, hx, hax⟩ := pickI [14, 14, 13, 15] (M / 3 % 4) (by omega) (by show M / 3 % 4 < 4; omega)
      have hv1 : 0 ≤ v ∧ v < 100 := by
        simp at hv
        omega
      have hx1 : 0 ≤ x ∧ x < 100 := by
        simp at hx
        omega
      refine ⟨_, rfl, _, 12, rfl, rfl, ⟨by decide, by decide⟩, _, 100, rfl, rfl, (show (0 : Int) < 100 by decide), _, rfl, _, 12, rfl, rfl, ⟨by decide, by decide⟩, _, 10, rfl, rfl, (show (0 : Int) < 10 by decide), by show 2 ≤ _; rw [sizeLine_eq]; decide, fun g hg => ⟨_, rfl, _, 2, rfl, rfl, (show (0 : Int) < 2 by decide), g, _, _, _, rfl, rfl, .inl (.inl upd_same), hat, ?_⟩⟩
      dsimp only [tSeq]
      refine ⟨.str z, rfl, 22, rfl, z, rfl, hs, by show 4 ≤ _; rw [sizeLine_eq]; decide, fun g2 hg2 => ⟨_, rfl, _, 3, rfl, rfl, ⟨by decide, by decide⟩, _, 4, rfl, rfl, (show (0 : Int) < 4 by decide), g2, _, _, _, rfl, rfl, .inl (.inl upd_same), hax, x.toNat, by rw [show (x.toNat : Int) = x by omega]; rfl, by omega, fun H3 s3 => ⟨_, _, rfl, rfl, by simp only [len_app, l1, l2, ld, sizeLine_eq]; have := cl none (some 22); omega, _, rfl, v.toNat, by rw [show (v.toNat : Int) = v by omega]; rfl, by omega, fun H4 s4 => ⟨_, _, rfl, rfl, by simp only [len_app, l1, l2, ld, sizeLine_eq]; have := cl none (some 22); omega, q _ (by simp only [len_app, l2]; have := cl none (some 22); omega) _ (s1.trans (s2.trans ((same_upd hg).trans ((same_upd hg2).trans (s3.trans s4)))))⟩⟩⟩⟩
    dsimp only [tNext, tSeq]
    refine ifT (decide (W = 3)) (fun k q1 => ⟨_, rfl, rfl, _, rfl, eqW q1⟩) (fun _ H3 s3 => ?_) (fun _ H3 s3 => ?_)
    · exact ⟨.str z, rfl, 21, rfl, z, rfl, hs, _, _, rfl, rfl, by simp only [len_app, l1, l2, ld, sizeLine_eq]; have := cl none (some 21); omega, .str z, rfl, 22, rfl, z, rfl, hs, _, _, rfl, rfl, by simp only [len_app, l1, l2, ld, sizeLine_eq]; have := cl none (some 21); have := cl (some 22) none; omega, q _ (by simp only [len_app, ld]; have := cl none (some 21); have := cl (some 22) none; omega) _ (s1.trans (s2.trans s3))⟩
    dsimp only [tNext, tSeq]
    refine ifT (decide (W = 4)) (fun k q1 => ⟨_, rfl, rfl, _, rfl, eqW q1⟩) (fun _ H4 s4 => ?_) (fun _ H4 s4 => ?_)
    · exact ⟨.str z, rfl, _, rfl, _, rfl, z, rfl, hs, _, rfl, _, _, rfl, rfl, by simp only [len_app, l1, l2, ld, sizeLine_eq]; have := cl none (some at_); omega, .str z, rfl, _, rfl, _, rfl, z, rfl, hs, _, _, rfl, rfl, by simp only [len_app, l1, l2, ld, sizeLine_eq]; have := cl none (some at_); have := cl (some at_) none; omega, q _ (by simp only [len_app, l1]; have := cl none (some at_); have := cl (some at_) none; omega) _ (s1.trans (s2.trans (s3.trans s4)))⟩
    dsimp only [tNext, tSeq]
    refine ifT (decide (W = 5)) (fun k q1 => ⟨_, rfl, rfl, _, rfl, eqW q1⟩) (fun _ H5 s5 => ?_) (fun _ H5 s5 => ?_)
    · exact ⟨.str z, rfl, _, rfl, _, rfl, z, rfl, hs, .str z, rfl, _, rfl, _, 1, rfl, rfl, _, rfl, z, rfl, hs, _, _, rfl, rfl, by simp only [len_app, l1, l2, ld, sizeLine_eq]; have := cl none (some at_); have := cl (some (at_ + 1)) none; omega, q _ (by simp only [len_app]; have := cl none (some at_); have := cl (some (at_ + 1)) none; omega) _ (s1.trans (s2.trans (s3.trans (s4.trans s5))))⟩
    dsimp only [tNext, tSeq]
    refine ifT (decide (W = 6)) (fun k q1 => ⟨_, rfl, rfl, _, rfl, eqW q1⟩) (fun _ H6 s6 => ?_) (fun _ H6 s6 => ?_)
    · exact ⟨.str z, rfl, _, rfl, _, rfl, z, rfl, hs, q _ (by have := cl none (some at_); omega) _ (s1.trans (s2.trans (s3.trans (s4.trans (s5.trans s6)))))⟩
    dsimp only [tNext, tSeq, tAsg]
    obtain ⟨v, hv, hat⟩ := pickI [0, 2, 5, 8, 15, 18, 22, 24] (M / 27 % 8) (by omega) (by show M / 27 % 8 < 8; omega)
    refine ⟨by show 8 ≤ _; rw [sizeLine_eq]; decide, fun g hg => ⟨_, rfl, _, 27, rfl, rfl, ⟨by decide, by decide⟩, _, 8, rfl, rfl, (show (0 : Int) < 8 by decide), g, _, _, _, rfl, rfl, .inl (.inl upd_same), hat, ?_⟩⟩
    dsimp only [gName]
    refine ⟨.str z, rfl, _, rfl, _, rfl, z, rfl, hs, _, rfl, _, 300, rfl, rfl, ⟨by decide, by decide⟩, _, 100, rfl, rfl, (show (0 : Int) < 100 by decide), (M / 300 % 100).toNat, by rw [show ((M / 300 % 100).toNat : Int) = M / 300 % 100 by omega]; rfl, by omega, fun H7 s7 => ⟨_, _, rfl, rfl, by simp only [len_app, l1, l2, ld, sizeLine_eq]; have := cl none (some v); omega, .str z, rfl, _, rfl, _, 2, rfl, rfl, _, rfl, z, rfl, hs, _, _, rfl, rfl, by simp only [len_app, l1, l2, ld, sizeLine_eq]; have := cl none (some v); have := cl (some (v + 2)) none; omega, q _ (by simp only [len_app, l2]; have := cl none (some v); have := cl (some (v + 2)) none; omega) _ (s1.trans (s2.trans (s3.trans (s4.trans (s5.trans (s6.trans ((same_upd hg).trans s7)))))))⟩⟩
end
end K12

namespace K12
open PySem PySem.Spec PyProof.Rows L2 LH
section
variable {P : Program} {w : World} {K : PySem.W.Frag} {mg : Str → Option Value} {base : Heap} {tk : Nat → Tok} {ca : Nat → Addr} {dn md C : Addr}
/-- a def that may raise, whatever is known of what flies -/
structure DefY (P : Program) (w : World) (K : PySem.W.Frag) (mg : Str → Option Value) (base : Heap) (x : Str) (k : Nat) (f : Addr) (fd : FuncData) (ps : List Str) (sp : Sp) : Prop where
  ok : FnOk P w K mg base (L2.CX P w) k f fd ps sp
  mg : mg x = some (.ref f)
  kp : PySem.W.keepIn K (.ref f) = true
  bd : Binds K fd ps []
theorem okS_of (x : Str) (h : (TL.tl x).all (fun c => decide (c < 1114112)) = true) : OkS x := fun c hc => of_decide_eq_true (List.all_eq_true.mp h c hc)
def wrongD (l p : Int) : List PyData := [.str (Str.ofString "wrong"), .str (Str.ofString "badtime"), .str (Str.ofString "base"), .int l, .int p]
theorem shaped_wrong (l p : Int) : SeqAt.shaped (.list (wrongD l p)) = true := by
  have h1 := strOk_of (Str.ofString "wrong") (okS_of _ (by decide +kernel))
  have h2 := strOk_of (Str.ofString "badtime") (okS_of _ (by decide +kernel))
  have h3 := strOk_of (Str.ofString "base") (okS_of _ (by decide +kernel))
  simp [SeqAt.shaped, wrongD, PyData.canLay0, PyData.canLayAll0, PyData.depth, PyData.depthAll, h1, h2, h3]
theorem eqv_wrong (l p : Int) : PyData.eqv (.list (wrongD l p)) (.list (wrongD l p)) = true := by
  simp [wrongD, PyData.eqv, PyData.eqvAll]
def btRow : List Bool := [false, false, false, false, false, false, false, false, false, false, true, false, false, false, true, false, false, false, false]
theorem kw_bt : kindWords btRow = [Str.ofString "wrong", Str.ofString "badtime", Str.ofString "base"] := by decide +kernel
/-- the words of a refusal by BadTime at l, p -/
def wrongV (l p : Int) : List V := [.str (Str.ofString "wrong"), .str (Str.ofString "badtime"), .str (Str.ofString "base"), .int l, .int p]
theorem dp_wrong {H : Hp} {a : Addr} {l p : Int} (e : H a = some (.lst (wrongV l p))) : Dp K H (.ref a) (.list (wrongD l p)) := .lst (.inl (.inl e)) (.cons (.str _) (.cons (.str _) (.cons (.str _) (.cons (.int _) (.cons (.int _) .nil)))))
theorem sh_pair (i j : Int) : SeqAt.shaped (.tuple [.int i, .int j]) = true := by simp [SeqAt.shaped, PyData.canLay0, PyData.canLayAll0, PyData.depth, PyData.depthAll]
theorem eqv_pair (i j : Int) : PyData.eqv (.tuple [.int i, .int j]) (.tuple [.int i, .int j]) = true := by simp [PyData.eqv, PyData.eqvAll]
theorem dp_pair {H : Hp} {p : Addr} {i j : Int} (e : H p = some (.tup [.int i, .int j])) : Dp K H (.ref p) (.tuple [.int i, .int j]) := .tup (.inl (.inl e)) (.cons (.int _) (.cons (.int _) .nil))
/-! ### _law_told -/
abbrev s__law_told : Stmt := topS 60
abbrev N__law_told : List Str := ["_law_text_here", "_law_refusal", "_law_found", "_law_e"]
abbrev P__law_told : List Str := ["_law_text_here"]
theorem sc__law_told : FnScope N__law_told ["_law_text_here"] (defScope s__law_told) := ⟨rfl, rfl, rfl, by decide +kernel, rfl, by decide +kernel, by decide +kernel⟩
def sp_told (K : PySem.W.Frag) : Sp := fun vs H Q _ => ∃ x : V, vs = [x] ∧ ((∃ z : Str, x = .str z ∧ z.length ≤ 1000 ∧ (match timeR (TL.tl z) with
  | .error j => j ≤ 100000 ∧ New H (wrongV 1 (j + 1 : Nat)) Q
  | .ok (i, j) => Pair H i j Q)) ∨ (NoStr K H x ∧ New H (wrongV 1 (1 : Nat)) Q))
theorem ok_told {f fF fK : Addr} {fd fdF fdK : FuncData} (F : Fun K "_law_told" "_law_told" s__law_told f fd) (T : Tx K mg tk dn md) (E : Ex K mg ca) (R0 : RaiseW K (ca 0) (ca 15)) (R1 : KitRow K ca (ca 15) btRow) (D_time_of : DefY P w K mg base "time_of" 7 fF fdF P_time_of (sp_timeofX K (ca 15))) (D__law_kind : Def P w K mg base "_law_kind" 1 fK fdK P__law_kind (sp_kind K ca)) : FnOk P w K mg base CX0 8 f fd P__law_told (sp_told K) := by
  refine F.ok sc__law_told (fun vs H Q _ h => ?_) (fun cdv A outer s H vs Q _ hr h => ?_)
  · obtain ⟨x, rfl, _⟩ := h
    rfl
  · have nd := sc__law_told.nd
    obtain ⟨x, rfl, h⟩ := h
    refine ⟨_, (pss_cons (ps_set (i := 1) nd rfl (.inl rfl) pe_non)
      (pss_cons (ps_set (i := 2) nd rfl (.inl rfl) pe_non)
      (pss_cons (ps_try_hold (i := 3) rfl rfl rfl nd rfl rfl ⟨rfl, by decide, .inl E.m_HouseError⟩ (fun W pn xe tk _ => (pss_one (ps_set (i := 2) nd rfl (.inl rfl) (pe_callS D_time_of.ok (hr.mono (by decide)) (by rfl) D_time_of.mg D_time_of.kp D_time_of.bd (fun σ => L2.passAt tk σ) (pa_cons (pv 0) pa_nil))))) (fun a oe pn => (pss_one (ps_set (i := 1) nd rfl (.inl rfl) (pv 3)))))
      (pss_cons (ps_if (pt_cmpR op_isN (pv 1) pe_non (nomark _))
        (pss_one (ps_ret (pv 2)))
        pss_nil)
      (pss_one (ps_ret (pe_def D__law_kind (hr.mono (by decide)) (pa_cons (pv 1) pa_nil)))))))), ?_⟩
    have held : ∀ (H1 : Hp) (d a : Addr) (l p : Nat), H1 d = none → (upd H1 d (.xd (wrFields "badtime" l p))) a = none → HeldD (upd (upd H1 d (.xd (wrFields "badtime" l p))) a (ExH (.ref (ca 15)) (some d) a)) (ca 15) d a (wrFields "badtime" l p) := fun H1 d a l p hd ha => by
      refine ⟨upd_same, ?_⟩
      have : d ≠ a := fun e => by
        rw [← e, upd_same] at ha
        exact nomatch ha
      rw [upd_ne this, upd_same]
    have raised : ∀ (p : Nat), New H (wrongV 1 (p : Nat)) Q → ∀ (H1 : Hp) (d : Addr), Same H H1 → H1 d = none → ∀ (a : Addr) (na : (upd H1 d (.xd (wrFields "badtime" 1 p))) a = none) (Q' : VK), (∀ r H2, Q (.ref r) H2 → Q' (.ref r) H2) →
        sp_kind K ca [.ref a] (upd (upd H1 d (.xd (wrFields "badtime" 1 p))) a (ExH (.ref (ca 15)) (some d) a)) Q' E0 := fun p q H1 d s1 hd a na Q' hQ => by
      have s2 := (same_upd (o := .xd (wrFields "badtime" 1 ((p : Nat) : Int))) hd).trans (same_upd (o := ExH (.ref (ca 15)) (some d) a) na)
      refine ⟨a, ca 15, d, _, _, btRow, rfl, held H1 d a 1 p hd na, R0, R1, rfl, fun H2 r s3 nr e2 => hQ r H2 ?_⟩
      rw [kw_bt] at e2
      exact q H2 r (s1.trans (s2.trans s3)) ((s1.trans s2).free nr) e2
    rcases h with ⟨z, rfl, hz, g⟩ | ⟨hn, g⟩
    · refine ⟨_, rfl, _, rfl, .inl ⟨z, rfl, by omega, ?_⟩⟩
      cases ht : timeR (TL.tl z) with
      | error j =>
        rw [ht] at g
        obtain ⟨hj, g⟩ := g
        refine ⟨hj, fun H1 d s1 hd => ⟨R0.fits, fun a na => ⟨.ref a, rfl, fun n1 => ⟨.ref a, rfl, rfl, _, rfl, ?_⟩⟩⟩⟩
        rw [decide_eq_false (fun h => nomatch h)]
        exact iteF ⟨.ref a, rfl, raised (j + 1) g H1 d s1 hd a n1 _ (fun r H2 h => h)⟩
      | ok p =>
        obtain ⟨i, j⟩ := p
        rw [ht] at g
        intro H1 r s1 nr e1
        exact ⟨.non, rfl, rfl, _, rfl, iteT ⟨.ref r, rfl, g H1 r s1 nr e1⟩⟩
    · refine ⟨_, rfl, _, rfl, .inr ⟨hn, fun H1 d s1 hd => ⟨R0.fits, fun a na => ⟨.ref a, rfl, fun n1 => ⟨.ref a, rfl, rfl, _, rfl, ?_⟩⟩⟩⟩⟩
      rw [decide_eq_false (fun h => nomatch h)]
      exact iteF ⟨.ref a, rfl, raised 1 g H1 d s1 hd a n1 _ (fun r H2 h => h)⟩
theorem timeL_len {y m d l : Nat} {a : Int} : (timeL y m d l a).length = 26 := by
  have := nameL_len (dayNo y m d)
  unfold nameL at this
  simp only [timeL, dateL, aheadL, two, four, List.length_append, List.length_cons, List.length_nil, this]
theorem place_bad {l : List Nat} {p j : Nat} (h : PlaceIs l p) (b : Bad l j) : p = j + 1 := by
  obtain ⟨b1, b2, b3, _⟩ := b
  rcases h with ⟨i, hi, h1, h2, rfl⟩ | ⟨h1, rfl⟩
  · have : i = j := by
      rcases Nat.lt_trichotomy i j with h | h | h
      · rw [b1 i h] at h2; exact nomatch h2
      · exact h
      · rw [h1 j h] at b2; exact nomatch b2
    rw [this]
  · have hj : ¬ j < l.length := fun h => by rw [h1 j h] at b2; exact nomatch b2
    have hj2 : ¬ l.length < j := fun h => absurd (step_lt (b1 l.length h)) (Nat.lt_irrefl _)
    rw [if_pos (by omega)]
    omega
theorem place_good {l : List Nat} {p : Nat} (h : PlaceIs l p) (h26 : l.length = 26) (hst : ∀ k, k < 26 → step l k = true) : p = 0 := by
  rcases h with ⟨i, hi, h1, h2, rfl⟩ | ⟨h1, rfl⟩
  · rw [hst i (by omega)] at h2; exact nomatch h2
  · rw [if_neg (by omega)]
theorem n9z {n : Nat} (h : n ≤ 9) : n ≤ sizeLine := Nat.le_trans h (by rw [sizeLine_eq]; decide)
theorem pickV (xs : List V) (m : Int) (h0 : 0 ≤ m) (h1 : m < xs.length) : ∃ v, v ∈ xs ∧ atI xs m = some v := by
  obtain ⟨k, rfl⟩ : ∃ k : Nat, m = (k : Int) := ⟨m.toNat, by omega⟩
  have hk : k < xs.length := by omega
  exact ⟨xs[k], List.getElem_mem hk, atI_nat (List.getElem?_eq_getElem hk)⟩
theorem odd_str {F : Hp} {b1 b2 b3 b4 : Addr} {x : V} (h : x ∈ [V.non, .int 5, .bl true, .ref b1, .ref b2, .ref b3, .ref b4, .int 0]) {x1 x2 x4 : List V} {x3} (h1 : F b1 = some (.lst x1)) (h2 : F b2 = some (.tup x2)) (h3 : F b3 = some (.dK x3)) (h4 : F b4 = some (.lst x4)) : NoStr K F x := by
  simp only [List.mem_cons, List.not_mem_nil, or_false] at h
  rcases h with rfl | rfl | rfl | rfl | rfl | rfl | rfl | rfl
  · exact ⟨_, .base .non, kit_ty (by decide +kernel)⟩
  · exact ⟨_, .base (.int _), kit_ty (by decide +kernel)⟩
  · exact ⟨_, .base (.bl _), kit_ty (by decide +kernel)⟩
  · exact ⟨_, .base (.lst h1), kit_ty (by decide +kernel)⟩
  · exact ⟨_, .base (.tup h2), kit_ty (by decide +kernel)⟩
  · exact ⟨_, .base (.dK h3), kit_ty (by decide +kernel)⟩
  · exact ⟨_, .base (.lst h4), kit_ty (by decide +kernel)⟩
  · exact ⟨_, .base (.int _), kit_ty (by decide +kernel)⟩
/-! ### law -/
abbrev s_law : Stmt := topS 61
abbrev N_law : List Str := ["_law_script", "_law_odd", "_law_k", "_law_cell_here", "_law_number", "_law_more", "_law_text_here", "_law_place_here", "_law_found", "_law_year", "_law_month", "_law_day_here"]
abbrev P_law : List Str := ["_law_script"]
theorem sc_law : FnScope N_law ["_law_script"] (defScope s_law) := ⟨rfl, rfl, rfl, by decide +kernel, rfl, by decide +kernel, by decide +kernel⟩
def spLaw (K : PySem.W.Frag) : Sp := fun vs H Q _ => ∃ (a : Addr) (ns : List Int), vs = [.ref a] ∧ SqL K H a (ns.map V.int) ∧ ns.length ≤ 63 ∧ ∀ H', Q (.bl true) H'
set_option maxHeartbeats 4000000 in
theorem ok_law {fC fM fD fN fA fT fB fP fQ fO f : Addr} {fdC fdM fdD fdN fdA fdT fdB fdP fdQ fdO fd : FuncData} (F : Fun K "law" "law" s_law f fd) (T : Tx K mg tk dn md)
    (D__law_cell : Def P w K mg base "_law_cell" 1 fC fdC P__law_cell (sp_cell K)) (D__law_mixed : Def P w K mg base "_law_mixed" 1 fM fdM P__law_mixed sp_mixed) (D__law_date : Def P w K mg base "_law_date" 3 fD fdD P__law_date sp_date) (D__law_next : Def P w K mg base "_law_next" 1 fN fdN P__law_next sp_next)
    (D__law_ahead : Def P w K mg base "_law_ahead" 1 fA fdA P__law_ahead sp_lahead) (D__law_text : Def P w K mg base "_law_text" 2 fT fdT P__law_text sp_text) (D__law_bent : Def P w K mg base "_law_bent" 2 fB fdB P__law_bent sp_bent) (D__law_place : Def P w K mg base "_law_place" 5 fP fdP P__law_place sp_place) (D__law_minute : Def P w K mg base "_law_minute" 2 fQ fdQ P__law_minute sp_minute)
    (D__law_told : Def P w K mg base "_law_told" 8 fO fdO P__law_told (sp_told K)) : FnOk P w K mg base CX0 9 f fd P_law (spLaw K) := by
  refine F.ok sc_law (fun vs H Q _ h => ?_) (fun cdv A outer s H vs Q _ hr h => ?_)
  · obtain ⟨a, ns, rfl, _⟩ := h
    rfl
  · have nd := sc_law.nd
    obtain ⟨a, ns, rfl, hS, hlen, q⟩ := h
    refine ⟨_, (pss_cons (ps_for PassesOwn.never rfl (pi_enum (by rfl) T.n_enumerate (pa_cons (pe_slice (slL K) (pv 0) po_none (po_some pe_int)) pa_nil)) (pg_tup rfl (pgs_cons (pg_name (i := 2) nd rfl (Or.inl rfl)) (pgs_cons (pg_name (i := 3) nd rfl (Or.inl rfl)) pgs_nil)))
        (pss_cons (ps_set (i := 4) nd rfl (.inl rfl) (pe_def D__law_mixed (hr.mono (by decide)) (pa_cons (pv 3) (pa_cons (pv 2) pa_nil))))
        (pss_cons (ps_asg (pe_def D__law_date (hr.mono (by decide)) (pa_cons (pv 4) pa_nil)) (pg_tup rfl (pgs_cons (pg_name (i := 9) nd rfl (Or.inl rfl)) (pgs_cons (pg_name (i := 10) nd rfl (Or.inl rfl)) (pgs_cons (pg_name (i := 11) nd rfl (Or.inl rfl)) pgs_nil)))))
        (pss_cons (ps_set (i := 5) nd rfl (.inl rfl) (pe_def D__law_next (hr.mono (by decide)) (pa_cons (pv 4) (pa_cons pe_int pa_nil))))
        (pss_cons (ps_set (i := 6) nd rfl (.inl rfl) (pe_def D__law_bent (hr.mono (by decide)) (pa_cons (pe_def D__law_text (hr.mono (by decide)) (pa_cons (pv 9) (pa_cons (pv 10) (pa_cons (pv 11) (pa_cons (pe_op op_mod (pv 5) pe_int) (pa_cons (pe_def D__law_ahead (hr.mono (by decide)) (pa_cons (pe_op op_fdiv (pv 5) pe_int) pa_nil)) pa_nil)))))) (pa_cons (pe_def D__law_next (hr.mono (by decide)) (pa_cons (pv 4) (pa_cons pe_int pa_nil))) pa_nil))))
        (pss_cons (ps_set (i := 7) nd rfl (.inl rfl) (pe_def D__law_place (hr.mono (by decide)) (pa_cons (pv 6) pa_nil)))
        (pss_cons (ps_set (i := 8) nd rfl (.inl rfl) (pe_def D__law_told (hr.mono (by decide)) (pa_cons (pv 6) pa_nil)))
        (pss_one (ps_if (PW.pt (pw_or (PW.pt (pw_and (pt_cmpR op_gt (pv 7) pe_int (nomark _)) (pw_and1 (pt_cmpR (oNeD K hr.units) (pv 8) (pe_lst (pa_cons pe_str (pa_cons pe_str (pa_cons pe_str (pa_cons pe_int (pa_cons (pv 7) pa_nil)))))) (nomark _))))) (pw_or1 (PW.pt (pw_and (pt_cmpR op_eq (pv 7) pe_int (nomark _)) (pw_and1 (pt_cmpR (oNeD K hr.units) (pv 8) (pe_def D__law_minute (hr.mono (by decide)) (pa_cons (pv 6) pa_nil)) (nomark _))))))))
          (pss_one (ps_ret pe_bl))
          pss_nil)))))))))
      (pss_cons (ps_set (i := 1) nd rfl (.inl rfl) (pe_ix (ixL K) (pe_lst (pa_cons pe_non (pa_cons pe_int (pa_cons pe_bl (pa_cons (pe_lst (pa_cons pe_str pa_nil)) (pa_cons (pe_tup (pa_cons pe_str pa_nil)) (pa_cons pe_dnewK (pa_cons (pe_lst pa_nil) (pa_cons pe_int pa_nil))))))))) (pe_op op_mod (pe_def D__law_mixed (hr.mono (by decide)) (pa_cons (pe_def D__law_cell (hr.mono (by decide)) (pa_cons (pv 0) (pa_cons pe_int pa_nil))) (pa_cons pe_int pa_nil))) pe_int) (fun _ _ => rfl)))
      (pss_one (ps_ret (pe_and (pe_cmpR (oEqD K hr.units) (pe_def D__law_told (hr.mono (by decide)) (pa_cons (pv 1) pa_nil)) (pe_lst (pa_cons pe_str (pa_cons pe_str (pa_cons pe_str (pa_cons pe_int (pa_cons pe_int pa_nil)))))) (nomark _)) (pe_one (pe_cmpR (oEqD K hr.units) (pe_def D__law_told (hr.mono (by decide)) (pa_cons pe_str pa_nil)) (pe_lst (pa_cons pe_str (pa_cons pe_str (pa_cons pe_str (pa_cons pe_int (pa_cons pe_int pa_nil)))))) (nomark _)))))))), ?_⟩
    dsimp only [gName, tSeq, tAsg]
    refine ⟨.ref a, rfl, 63, rfl, a, _, rfl, hS, fun c nc => ?_⟩
    have ecut : cutV (ns.map V.int) none (some 63) = ns.map V.int := by
      rw [show (63 : Int) = ((63 : Nat) : Int) from rfl, cutV_to, List.take_of_length_le (by rw [List.length_map]; omega)]
    rw [ecut]
    have s0 := same_upd (o := .lst (ns.map V.int)) nc
    refine ⟨c, ns.map V.int, rfl, .inl (.inl upd_same), for_it walk_enum (fun i σ H' => ∃ (x2 x3 x4 x5 x6 x7 x8 x9 x10 x11 : Option V), σ = [some (.ref a), none, x2, x3, x4, x5, x6, x7, x8, x9, x10, x11] ∧ Same H H' ∧ H' c = some (.lst (ns.map V.int)))
      ⟨none, none, none, none, none, none, none, none, none, none, rfl, s0, upd_same⟩
      (fun i σ H' _ h => by obtain ⟨_, _, _, _, _, _, _, _, _, _, rfl, _, e⟩ := h; exact .inl (.inl e)) (fun i x σ H' H'' hi hP hy => ?_) (fun σ H' hP => ?_)⟩
    · obtain ⟨x2, x3, x4, x5, x6, x7, x8, x9, x10, x11, rfl, sm, ec⟩ := hP
      obtain ⟨U, v1, v2, rfl, nU, rfl, g1, g2⟩ := hy
      rw [List.length_map] at hi
      have g2 : (ns.map V.int)[i]? = some v2 := g2
      rw [List.getElem?_map, List.getElem?_eq_getElem hi] at g2
      obtain rfl := Option.some.inj g1
      obtain rfl := Option.some.inj g2
      have sU := same_upd (o := .tup [.int (i : Nat), .int ns[i]]) nU
      refine ⟨U, _, rfl, .inl (.inl upd_same), rfl, _, _, rfl, _, _, rfl, rfl, ?_⟩
      refine ⟨_, rfl, _, rfl, ns[i], (i : Int), rfl, by omega, by omega, fun H2 s2 => ?_⟩
      have hM := mixed_lt ns[i] (i : Int)
      generalize mixed ns[i] (i : Int) = M at hM
      refine ⟨_, rfl, M, rfl, hM.1, by omega, fun y m d hD H3 p3 s3 hp3 e3 => ⟨p3, _, rfl, .inl (.inl e3), rfl, _, _, rfl, _, _, rfl, _, _, rfl, rfl, ?_⟩⟩
      refine ⟨_, rfl, M, 5, rfl, hM.1, by omega, by decide, by decide, fun H4 s4 => ?_⟩
      have hR := nextN_lt M 5
      generalize nextN M 5 = R at hR
      obtain ⟨l, hl⟩ : ∃ l : Nat, R % 1440 = (l : Int) := ⟨(R % 1440).toNat, by omega⟩
      have hl2 : l < 1440 := by omega
      refine ⟨_, rfl, _, rfl, _, rfl, _, rfl, _, 1440, rfl, rfl, (show (0 : Int) < 1440 by decide), _, rfl, _, 1440, rfl, rfl, ⟨by decide, by decide⟩, R / 1440, rfl, by omega, fun j hj H5 s5 => ⟨y, m, d, l, j, by rw [← hl]; rfl, hD, hl2, hj, fun H6 s6 => ⟨_, rfl, M, 11, rfl, hM.1, by omega, by decide, by decide, fun H7 s7 => ⟨_, nextN M 11, rfl, by rw [TL.len_tl]; exact timeL_len, (nextN_lt M 11).1, by have := (nextN_lt M 11).2; omega, fun t ht H8 s8 => ?_⟩⟩⟩⟩
      refine ⟨_, rfl, t, rfl, ht, fun pl hpl H9 s9 => ?_⟩
      have sA := sU.trans (s2.trans (s3.trans (s4.trans (s5.trans (s6.trans (s7.trans (s8.trans s9)))))))
      have done : ∀ (H' : Hp) (x5 x6 x7 x8 : Option V), True := fun _ _ _ _ _ => trivial
      refine ⟨_, rfl, .str t, rfl, .inl ⟨t, rfl, by omega, ?_⟩⟩
      rcases timeR_steps (TL.tl t) with ⟨j', ej, hb⟩ | ⟨ek, h26, hst⟩
      · rw [ej]
        refine ⟨by have := hb.2.2.2; omega, fun H10 r s10 nr er => ?_⟩
        obtain rfl := place_bad hpl hb
        dsimp only [gName, tSeq]
        refine ifT false (fun k q1 => orT false false (fun k2 q2 => andT true false (fun k3 q3 => ⟨_, rfl, _, 0, rfl, rfl, _, rfl, TellB.eq (decide_eq_true (by omega)) q3 _ (Same.refl _)⟩) (fun _ H11 k3 s11 q3 => ⟨_, rfl, _, rfl, n9z (Nat.le_of_ble_eq_true rfl), fun g hg => ⟨_, _, dp_wrong (same_upd hg _ _ (s11 _ _ er)), dp_wrong upd_same, shaped_wrong _ _, shaped_wrong _ _, _, rfl, TellB.eq (by rw [eqv_wrong]; rfl) q3 _ (same_upd hg)⟩⟩) q2) (fun _ H12 k2 s12 q2 => andT false false (fun k3 q3 => ⟨_, rfl, rfl, _, rfl, TellB.eq (by rw [vint_dec]; exact decide_eq_false (by omega)) q3 _ (Same.refl _)⟩) (fun h => nomatch h) q2) q1) (fun h => nomatch h) (fun _ H13 s13 => ?_)
        exact ⟨_, _, _, _, _, _, _, _, _, _, rfl, sm.trans (sA.trans (s10.trans s13)), (sA.trans (s10.trans s13)) _ _ ec⟩
      · rw [ek]
        intro H10 r s10 nr er
        have er : H10 r = some (.tup [.int (minuteL (TL.tl t)).1, .int (minuteL (TL.tl t)).2]) := er
        obtain rfl := place_good hpl h26 hst
        dsimp only [gName, tSeq]
        refine ifT false (fun k q1 => orT false false (fun k2 q2 => andT false false (fun k3 q3 => ⟨_, rfl, _, 0, rfl, rfl, _, rfl, TellB.eq (decide_eq_false (by omega)) q3 _ (Same.refl _)⟩) (fun h => nomatch h) q2) (fun _ H12 k2 s12 q2 => andT true false (fun k3 q3 => ⟨_, rfl, rfl, _, rfl, TellB.eq (by rw [vint_dec]; exact decide_eq_true (by omega)) q3 _ (Same.refl _)⟩) (fun _ H13 k3 s13 q3 => ⟨_, rfl, _, rfl, t, rfl, h26, hst, fun H14 p2 s14 np e14 => ⟨_, _, dp_pair (s14 _ _ (s13 _ _ (s12 _ _ er))), dp_pair e14, sh_pair _ _, sh_pair _ _, _, rfl, TellB.eq (by rw [eqv_pair]; rfl) q3 _ s14⟩⟩) q2) q1) (fun h => nomatch h) (fun _ H13 s13 => ?_)
        exact ⟨_, _, _, _, _, _, _, _, _, _, rfl, sm.trans (sA.trans (s10.trans s13)), (sA.trans (s10.trans s13)) _ _ ec⟩
    · obtain ⟨x2, x3, x4, x5, x6, x7, x8, x9, x10, x11, rfl, sm, ec⟩ := hP
      have hM := mixed_lt (ns.getD 0 0) 80
      refine ⟨n9z (Nat.le_of_ble_eq_true rfl), fun b1 hb1 => ⟨n9z (Nat.le_of_ble_eq_true rfl), fun b2 hb2 => fun b3 hb3 => ⟨n9z (Nat.le_of_ble_eq_true rfl), fun b4 hb4 => ⟨n9z (Nat.le_of_ble_eq_true rfl), fun l3 hl3 => ?_⟩⟩⟩⟩
      have S := (same_upd (o := .lst [V.str (Str.ofString "a")]) hb1).trans ((same_upd hb2).trans ((same_upd hb3).trans ((same_upd hb4).trans (same_upd (o := .lst [V.non, .int 5, .bl true, .ref b1, .ref b2, .ref b3, .ref b4, .int 0]) hl3))))
      refine ⟨_, rfl, a, ns, 0, rfl, (sm.trans S).seq hS, fun H1 s1 => ⟨_, 80, rfl, by decide, by decide, fun H2 s2 => ?_⟩⟩
      obtain ⟨x, hx, hxa⟩ := pickV [V.non, .int 5, .bl true, .ref b1, .ref b2, .ref b3, .ref b4, .int 0] (mixed (ns.getD 0 0) 80 % 8) (by omega) (by show _ < (8 : Int); omega)
      refine ⟨_, 8, rfl, rfl, (show (0 : Int) < 8 by decide), l3, _, _, x, rfl, rfl, .inl (.inl (s2 _ _ (s1 _ _ upd_same))), hxa, ?_⟩
      have hno : NoStr K H2 x := odd_str hx (s2 _ _ (s1 _ _ (((same_upd hb2).trans ((same_upd hb3).trans ((same_upd hb4).trans (same_upd hl3)))) _ _ upd_same))) (s2 _ _ (s1 _ _ (((same_upd hb3).trans ((same_upd hb4).trans (same_upd hl3))) _ _ upd_same))) (s2 _ _ (s1 _ _ (((same_upd hb4).trans (same_upd hl3)) _ _ upd_same))) (s2 _ _ (s1 _ _ ((same_upd hl3) _ _ upd_same)))
      have hcmp : ∀ (H3 : Hp) (r : Addr) (Q' : VK), H3 r = some (.lst (wrongV 1 ((1 : Nat) : Int))) → Tell H3 (.bl true) Q' → ∀ g, H3 g = none → rEqD K (.ref r) (.ref g) (upd H3 g (.lst [V.str (Str.ofString "wrong"), .str (Str.ofString "badtime"), .str (Str.ofString "base"), .int 1, .int 1])) Q' := fun H3 r Q' er q' g hg =>
        ⟨_, _, dp_wrong (l := 1) (p := 1) (same_upd hg _ _ er), dp_wrong (l := 1) (p := 1) upd_same, shaped_wrong _ _, shaped_wrong _ _, by rw [eqv_wrong]; exact q' _ (same_upd hg)⟩
      dsimp only [gName]
      refine andV true true (fun Q' q' => ⟨_, rfl, x, rfl, .inr ⟨hno, fun H3 r s3 nr er => ⟨n9z (Nat.le_of_ble_eq_true rfl), fun g hg => hcmp H3 r Q' er (fun H4 s4 => q' H4 (s3.trans s4)) g hg⟩⟩⟩) (fun _ H4 Q' s4 q' => ⟨.str (Str.ofString ""), rfl, .inl ⟨Str.ofString "", rfl, by decide +kernel, ?_⟩⟩) (fun H5 _ => q H5)
      rw [show TL.tl (Str.ofString "") = [] by decide +kernel]
      exact ⟨by decide, fun H3 r s3 nr er => ⟨n9z (Nat.le_of_ble_eq_true rfl), fun g hg => hcmp H3 r Q' er (fun H4 s4 => q' H4 (s3.trans s4)) g hg⟩⟩
end
end K12

namespace K12
open PySem PySem.Spec PyProof.Rows L2 LH
set_option maxHeartbeats 2000000 in
theorem all_mk {l : PySem.W.OpenLaw} {w : World} {K : PySem.W.Frag} {h : Heap} {mg : Str → Option Value} {fa : Addr} {f0 f1 f2 f3 f4 f5 f6 f7 f8 f9 f10 f11 f12 f13 f14 f15 f16 f17 f18 f19 f20 f21 f22 f23 f24 f25 f26 f27 f28 f29 f30 f31 f32 f33 f34 f35 f36 : Addr} {t1 t2 t3 t4 : Tok} (X : K.In h) (G : h.Ns mainGlobals mg) (hfa : mg "law" = some (.ref fa))
    {cReader : Addr}
    (mReader : PySem.W.nsIn K mainGlobals "Reader" = some (some (.ref cReader))) (pgReader : PySem.W.plainGet K cReader Str.empty = true) (hdReader : PySem.W.hasDictIn K cReader = true) (poReader : PySem.W.plainOver K cReader = true) (saReader : PySem.W.findIn K (.ref cReader) "__setattr__" = some (some (.builtin "object.__setattr__"))) (mkReader : PySem.W.makesIn K cReader = true) (kpReader : PySem.W.keepIn K (.ref cReader) = true) (naReader0 : PySem.W.findIn K (.ref cReader) "signs" = some none) (naReader1 : PySem.W.findIn K (.ref cReader) "at" = some none)
    {dn : Addr} {oddn : Option Addr} {ndn : Nat} {sldn : Array (Option Value)} {tdn0 tdn1 tdn2 tdn3 tdn4 tdn5 tdn6 : Tok}
    (vdn : PySem.W.nsIn K mainGlobals "DAY_NAMES" = some (some (.ref dn))) (ldn : K.lookup dn = some ⟨.type "tuple", oddn, .seq #[.str (Str.ofString "Mon") tdn0, .str (Str.ofString "Tue") tdn1, .str (Str.ofString "Wed") tdn2, .str (Str.ofString "Thu") tdn3, .str (Str.ofString "Fri") tdn4, .str (Str.ofString "Sat") tdn5, .str (Str.ofString "Sun") tdn6] ndn, sldn⟩)
    {md : Addr} {odmd : Option Addr} {nmd : Nat} {slmd : Array (Option Value)} {tmd0 tmd1 tmd2 tmd3 tmd4 tmd5 tmd6 tmd7 tmd8 tmd9 tmd10 tmd11 : Tok}
    (vmd : PySem.W.nsIn K mainGlobals "MONTH_DAYS" = some (some (.ref md))) (lmd : K.lookup md = some ⟨.type "tuple", odmd, .seq #[.int 31 tmd0, .int 28 tmd1, .int 31 tmd2, .int 30 tmd3, .int 31 tmd4, .int 30 tmd5, .int 31 tmd6, .int 31 tmd7, .int 30 tmd8, .int 31 tmd9, .int 30 tmd10, .int 31 tmd11] nmd, slmd⟩)
    {od0 an0 : Option Addr} {sl0 : Array (Option Value)} {oc0 kV0 dc0 pm0 cd0 ct0 : Value}
    (a0 : PySem.W.nsIn K mainGlobals "_law_cell" = some (some (.ref f0)))
    (l0 : K.lookup f0 = some ⟨oc0, od0, .func (PySem.W.fnOf "_law_cell" "_law_cell" (defArgs s__law_cell) (defBody s__law_cell) (defScope s__law_cell) .none kV0 dc0 pm0 an0 cd0 ct0), sl0⟩) (c0 : PySem.W.codeIn K cd0 "_law_cell" = true) (k0 : PySem.W.keepIn K (.ref f0) = true)
    {od1 an1 : Option Addr} {sl1 : Array (Option Value)} {oc1 kV1 dc1 pm1 cd1 ct1 : Value}
    (a1 : PySem.W.nsIn K mainGlobals "_law_mixed" = some (some (.ref f1)))
    (l1 : K.lookup f1 = some ⟨oc1, od1, .func (PySem.W.fnOf "_law_mixed" "_law_mixed" (defArgs s__law_mixed) (defBody s__law_mixed) (defScope s__law_mixed) .none kV1 dc1 pm1 an1 cd1 ct1), sl1⟩) (c1 : PySem.W.codeIn K cd1 "_law_mixed" = true) (k1 : PySem.W.keepIn K (.ref f1) = true)
    {od2 an2 : Option Addr} {sl2 : Array (Option Value)} {oc2 kV2 dc2 pm2 cd2 ct2 : Value}
    (a2 : PySem.W.nsIn K mainGlobals "_law_next" = some (some (.ref f2)))
    (l2 : K.lookup f2 = some ⟨oc2, od2, .func (PySem.W.fnOf "_law_next" "_law_next" (defArgs s__law_next) (defBody s__law_next) (defScope s__law_next) .none kV2 dc2 pm2 an2 cd2 ct2), sl2⟩) (c2 : PySem.W.codeIn K cd2 "_law_next" = true) (k2 : PySem.W.keepIn K (.ref f2) = true)
    {od3 an3 : Option Addr} {sl3 : Array (Option Value)} {oc3 kV3 dc3 pm3 cd3 ct3 : Value}
    (a3 : PySem.W.nsIn K mainGlobals "_law_is_long" = some (some (.ref f3)))
    (l3 : K.lookup f3 = some ⟨oc3, od3, .func (PySem.W.fnOf "_law_is_long" "_law_is_long" (defArgs s__law_is_long) (defBody s__law_is_long) (defScope s__law_is_long) .none kV3 dc3 pm3 an3 cd3 ct3), sl3⟩) (c3 : PySem.W.codeIn K cd3 "_law_is_long" = true) (k3 : PySem.W.keepIn K (.ref f3) = true)
    {od4 an4 : Option Addr} {sl4 : Array (Option Value)} {oc4 kV4 dc4 pm4 cd4 ct4 : Value}
    (a4 : PySem.W.nsIn K mainGlobals "_law_many_days" = some (some (.ref f4)))
    (l4 : K.lookup f4 = some ⟨oc4, od4, .func (PySem.W.fnOf "_law_many_days" "_law_many_days" (defArgs s__law_many_days) (defBody s__law_many_days) (defScope s__law_many_days) .none kV4 dc4 pm4 an4 cd4 ct4), sl4⟩) (c4 : PySem.W.codeIn K cd4 "_law_many_days" = true) (k4 : PySem.W.keepIn K (.ref f4) = true)
    {od5 an5 : Option Addr} {sl5 : Array (Option Value)} {oc5 kV5 dc5 pm5 cd5 ct5 : Value}
    (a5 : PySem.W.nsIn K mainGlobals "_law_date" = some (some (.ref f5)))
    (l5 : K.lookup f5 = some ⟨oc5, od5, .func (PySem.W.fnOf "_law_date" "_law_date" (defArgs s__law_date) (defBody s__law_date) (defScope s__law_date) .none kV5 dc5 pm5 an5 cd5 ct5), sl5⟩) (c5 : PySem.W.codeIn K cd5 "_law_date" = true) (k5 : PySem.W.keepIn K (.ref f5) = true)
    {od6 an6 : Option Addr} {sl6 : Array (Option Value)} {oc6 kV6 dc6 pm6 cd6 ct6 : Value}
    (a6 : PySem.W.nsIn K mainGlobals "_law_ahead" = some (some (.ref f6)))
    (l6 : K.lookup f6 = some ⟨oc6, od6, .func (PySem.W.fnOf "_law_ahead" "_law_ahead" (defArgs s__law_ahead) (defBody s__law_ahead) (defScope s__law_ahead) .none kV6 dc6 pm6 an6 cd6 ct6), sl6⟩) (c6 : PySem.W.codeIn K cd6 "_law_ahead" = true) (k6 : PySem.W.keepIn K (.ref f6) = true)
    {od7 an7 : Option Addr} {sl7 : Array (Option Value)} {oc7 kV7 dc7 pm7 cd7 ct7 : Value}
    (a7 : PySem.W.nsIn K mainGlobals "_law_two" = some (some (.ref f7)))
    (l7 : K.lookup f7 = some ⟨oc7, od7, .func (PySem.W.fnOf "_law_two" "_law_two" (defArgs s__law_two) (defBody s__law_two) (defScope s__law_two) .none kV7 dc7 pm7 an7 cd7 ct7), sl7⟩) (c7 : PySem.W.codeIn K cd7 "_law_two" = true) (k7 : PySem.W.keepIn K (.ref f7) = true)
    {od8 an8 : Option Addr} {sl8 : Array (Option Value)} {oc8 kV8 dc8 pm8 cd8 ct8 : Value}
    (a8 : PySem.W.nsIn K mainGlobals "_law_day" = some (some (.ref f8)))
    (l8 : K.lookup f8 = some ⟨oc8, od8, .func (PySem.W.fnOf "_law_day" "_law_day" (defArgs s__law_day) (defBody s__law_day) (defScope s__law_day) .none kV8 dc8 pm8 an8 cd8 ct8), sl8⟩) (c8 : PySem.W.codeIn K cd8 "_law_day" = true) (k8 : PySem.W.keepIn K (.ref f8) = true)
    {od9 an9 : Option Addr} {sl9 : Array (Option Value)} {oc9 kV9 dc9 pm9 cd9 ct9 : Value}
    (a9 : PySem.W.nsIn K mainGlobals "_law_text" = some (some (.ref f9)))
    (l9 : K.lookup f9 = some ⟨oc9, od9, .func (PySem.W.fnOf "_law_text" "_law_text" (defArgs s__law_text) (defBody s__law_text) (defScope s__law_text) .none kV9 dc9 pm9 an9 cd9 ct9), sl9⟩) (c9 : PySem.W.codeIn K cd9 "_law_text" = true) (k9 : PySem.W.keepIn K (.ref f9) = true)
    {od10 an10 : Option Addr} {sl10 : Array (Option Value)} {oc10 kV10 dc10 pm10 cd10 ct10 : Value}
    (a10 : PySem.W.nsIn K mainGlobals "_law_signs" = some (some (.ref f10)))
    (l10 : K.lookup f10 = some ⟨oc10, od10, .func (PySem.W.fnOf "_law_signs" "_law_signs" (defArgs s__law_signs) (defBody s__law_signs) (defScope s__law_signs) .none kV10 dc10 pm10 an10 cd10 ct10), sl10⟩) (c10 : PySem.W.codeIn K cd10 "_law_signs" = true) (k10 : PySem.W.keepIn K (.ref f10) = true)
    {od11 an11 : Option Addr} {sl11 : Array (Option Value)} {oc11 kV11 dc11 pm11 cd11 ct11 : Value}
    (a11 : PySem.W.nsIn K mainGlobals "_law_bent" = some (some (.ref f11)))
    (l11 : K.lookup f11 = some ⟨oc11, od11, .func (PySem.W.fnOf "_law_bent" "_law_bent" (defArgs s__law_bent) (defBody s__law_bent) (defScope s__law_bent) .none kV11 dc11 pm11 an11 cd11 ct11), sl11⟩) (c11 : PySem.W.codeIn K cd11 "_law_bent" = true) (k11 : PySem.W.keepIn K (.ref f11) = true)
    {od12 an12 : Option Addr} {sl12 : Array (Option Value)} {oc12 kV12 dc12 pm12 cd12 ct12 : Value}
    (a12 : PySem.W.nsIn K mainGlobals "_law_among" = some (some (.ref f12)))
    (l12 : K.lookup f12 = some ⟨oc12, od12, .func (PySem.W.fnOf "_law_among" "_law_among" (defArgs s__law_among) (defBody s__law_among) (defScope s__law_among) .none kV12 dc12 pm12 an12 cd12 ct12), sl12⟩) (c12 : PySem.W.codeIn K cd12 "_law_among" = true) (k12 : PySem.W.keepIn K (.ref f12) = true)
    {od13 an13 : Option Addr} {sl13 : Array (Option Value)} {oc13 kV13 dc13 pm13 cd13 ct13 : Value}
    (a13 : PySem.W.nsIn K mainGlobals "_law_begins_day" = some (some (.ref f13)))
    (l13 : K.lookup f13 = some ⟨oc13, od13, .func (PySem.W.fnOf "_law_begins_day" "_law_begins_day" (defArgs s__law_begins_day) (defBody s__law_begins_day) (defScope s__law_begins_day) .none kV13 dc13 pm13 an13 cd13 ct13), sl13⟩) (c13 : PySem.W.codeIn K cd13 "_law_begins_day" = true) (k13 : PySem.W.keepIn K (.ref f13) = true)
    {od14 an14 : Option Addr} {sl14 : Array (Option Value)} {oc14 kV14 dc14 pm14 cd14 ct14 : Value}
    (a14 : PySem.W.nsIn K mainGlobals "_law_begins" = some (some (.ref f14)))
    (l14 : K.lookup f14 = some ⟨oc14, od14, .func (PySem.W.fnOf "_law_begins" "_law_begins" (defArgs s__law_begins) (defBody s__law_begins) (defScope s__law_begins) .none kV14 dc14 pm14 an14 cd14 ct14), sl14⟩) (c14 : PySem.W.codeIn K cd14 "_law_begins" = true) (k14 : PySem.W.keepIn K (.ref f14) = true)
    {od15 an15 : Option Addr} {sl15 : Array (Option Value)} {oc15 kV15 dc15 pm15 cd15 ct15 : Value}
    (a15 : PySem.W.nsIn K mainGlobals "_law_place" = some (some (.ref f15)))
    (l15 : K.lookup f15 = some ⟨oc15, od15, .func (PySem.W.fnOf "_law_place" "_law_place" (defArgs s__law_place) (defBody s__law_place) (defScope s__law_place) .none kV15 dc15 pm15 an15 cd15 ct15), sl15⟩) (c15 : PySem.W.codeIn K cd15 "_law_place" = true) (k15 : PySem.W.keepIn K (.ref f15) = true)
    {od16 an16 : Option Addr} {sl16 : Array (Option Value)} {oc16 kV16 dc16 pm16 cd16 ct16 : Value}
    (a16 : PySem.W.nsIn K mainGlobals "_law_minute" = some (some (.ref f16)))
    (l16 : K.lookup f16 = some ⟨oc16, od16, .func (PySem.W.fnOf "_law_minute" "_law_minute" (defArgs s__law_minute) (defBody s__law_minute) (defScope s__law_minute) .none kV16 dc16 pm16 an16 cd16 ct16), sl16⟩) (c16 : PySem.W.codeIn K cd16 "_law_minute" = true) (k16 : PySem.W.keepIn K (.ref f16) = true)
    {od17 an17 : Option Addr} {sl17 : Array (Option Value)} {oc17 kV17 dc17 pm17 cd17 ct17 : Value}
    (a17 : PySem.W.findIn K (.ref cReader) "sees" = some (some (.ref f17))) (fn17 : PySem.W.isFn K (.ref f17) = true)
    (l17 : K.lookup f17 = some ⟨oc17, od17, .func (PySem.W.fnOf "sees" "Reader.sees" (defArgs s_Reader_sees) (defBody s_Reader_sees) (defScope s_Reader_sees) .none kV17 dc17 pm17 an17 cd17 ct17), sl17⟩) (c17 : PySem.W.codeIn K cd17 "Reader.sees" = true) (k17 : PySem.W.keepIn K (.ref f17) = true)
    {od18 an18 : Option Addr} {sl18 : Array (Option Value)} {oc18 kV18 dc18 pm18 cd18 ct18 : Value}
    (a18 : PySem.W.findIn K (.ref cReader) "one_of" = some (some (.ref f18))) (fn18 : PySem.W.isFn K (.ref f18) = true)
    (l18 : K.lookup f18 = some ⟨oc18, od18, .func (PySem.W.fnOf "one_of" "Reader.one_of" (defArgs s_Reader_one_of) (defBody s_Reader_one_of) (defScope s_Reader_one_of) .none kV18 dc18 pm18 an18 cd18 ct18), sl18⟩) (c18 : PySem.W.codeIn K cd18 "Reader.one_of" = true) (k18 : PySem.W.keepIn K (.ref f18) = true)
    {od19 an19 : Option Addr} {sl19 : Array (Option Value)} {oc19 kV19 dc19 pm19 cd19 ct19 : Value}
    (a19 : PySem.W.findIn K (.ref cReader) "refuse_number" = some (some (.ref f19))) (fn19 : PySem.W.isFn K (.ref f19) = true)
    (l19 : K.lookup f19 = some ⟨oc19, od19, .func (PySem.W.fnOf "refuse_number" "Reader.refuse_number" (defArgs s_Reader_refuse_number) (defBody s_Reader_refuse_number) (defScope s_Reader_refuse_number) .none kV19 dc19 pm19 an19 cd19 ct19), sl19⟩) (c19 : PySem.W.codeIn K cd19 "Reader.refuse_number" = true) (k19 : PySem.W.keepIn K (.ref f19) = true)
    {od20 an20 : Option Addr} {sl20 : Array (Option Value)} {oc20 kV20 dc20 pm20 cd20 ct20 : Value}
    (a20 : PySem.W.findIn K (.ref cReader) "number" = some (some (.ref f20))) (fn20 : PySem.W.isFn K (.ref f20) = true)
    (l20 : K.lookup f20 = some ⟨oc20, od20, .func (PySem.W.fnOf "number" "Reader.number" (defArgs s_Reader_number) (defBody s_Reader_number) (defScope s_Reader_number) .none kV20 dc20 pm20 an20 cd20 ct20), sl20⟩) (c20 : PySem.W.codeIn K cd20 "Reader.number" = true) (k20 : PySem.W.keepIn K (.ref f20) = true)
    {od21 an21 : Option Addr} {sl21 : Array (Option Value)} {oc21 kV21 dc21 pm21 cd21 ct21 : Value}
    (a21 : PySem.W.findIn K (.ref cReader) "sees_word" = some (some (.ref f21))) (fn21 : PySem.W.isFn K (.ref f21) = true)
    (l21 : K.lookup f21 = some ⟨oc21, od21, .func (PySem.W.fnOf "sees_word" "Reader.sees_word" (defArgs s_Reader_sees_word) (defBody s_Reader_sees_word) (defScope s_Reader_sees_word) .none kV21 dc21 pm21 an21 cd21 ct21), sl21⟩) (c21 : PySem.W.codeIn K cd21 "Reader.sees_word" = true) (k21 : PySem.W.keepIn K (.ref f21) = true)
    {od22 an22 : Option Addr} {sl22 : Array (Option Value)} {oc22 kV22 dc22 pm22 cd22 ct22 : Value}
    (a22 : PySem.W.findIn K (.ref cReader) "word" = some (some (.ref f22))) (fn22 : PySem.W.isFn K (.ref f22) = true)
    (l22 : K.lookup f22 = some ⟨oc22, od22, .func (PySem.W.fnOf "word" "Reader.word" (defArgs s_Reader_word) (defBody s_Reader_word) (defScope s_Reader_word) .none kV22 dc22 pm22 an22 cd22 ct22), sl22⟩) (c22 : PySem.W.codeIn K cd22 "Reader.word" = true) (k22 : PySem.W.keepIn K (.ref f22) = true)
    {od23 an23 : Option Addr} {sl23 : Array (Option Value)} {oc23 kV23 dc23 pm23 cd23 ct23 : Value}
    (a23 : PySem.W.nsIn K mainGlobals "has_leap_day" = some (some (.ref f23)))
    (l23 : K.lookup f23 = some ⟨oc23, od23, .func (PySem.W.fnOf "has_leap_day" "has_leap_day" (defArgs s_has_leap_day) (defBody s_has_leap_day) (defScope s_has_leap_day) .none kV23 dc23 pm23 an23 cd23 ct23), sl23⟩) (c23 : PySem.W.codeIn K cd23 "has_leap_day" = true) (k23 : PySem.W.keepIn K (.ref f23) = true)
    {od24 an24 : Option Addr} {sl24 : Array (Option Value)} {oc24 kV24 dc24 pm24 cd24 ct24 : Value}
    (a24 : PySem.W.nsIn K mainGlobals "days_in" = some (some (.ref f24)))
    (l24 : K.lookup f24 = some ⟨oc24, od24, .func (PySem.W.fnOf "days_in" "days_in" (defArgs s_days_in) (defBody s_days_in) (defScope s_days_in) .none kV24 dc24 pm24 an24 cd24 ct24), sl24⟩) (c24 : PySem.W.codeIn K cd24 "days_in" = true) (k24 : PySem.W.keepIn K (.ref f24) = true)
    {od25 an25 : Option Addr} {sl25 : Array (Option Value)} {oc25 kV25 dc25 pm25 cd25 ct25 : Value}
    (a25 : PySem.W.nsIn K mainGlobals "days_ahead" = some (some (.ref f25)))
    (l25 : K.lookup f25 = some ⟨oc25, od25, .func (PySem.W.fnOf "days_ahead" "days_ahead" (defArgs s_days_ahead) (defBody s_days_ahead) (defScope s_days_ahead) .none kV25 dc25 pm25 an25 cd25 ct25), sl25⟩) (c25 : PySem.W.codeIn K cd25 "days_ahead" = true) (k25 : PySem.W.keepIn K (.ref f25) = true)
    {od26 an26 : Option Addr} {sl26 : Array (Option Value)} {oc26 kV26 dc26 pm26 cd26 ct26 : Value}
    (a26 : PySem.W.nsIn K mainGlobals "read_day" = some (some (.ref f26)))
    (l26 : K.lookup f26 = some ⟨oc26, od26, .func (PySem.W.fnOf "read_day" "read_day" (defArgs s_read_day) (defBody s_read_day) (defScope s_read_day) .none kV26 dc26 pm26 an26 cd26 ct26), sl26⟩) (c26 : PySem.W.codeIn K cd26 "read_day" = true) (k26 : PySem.W.keepIn K (.ref f26) = true)
    {od27 an27 : Option Addr} {sl27 : Array (Option Value)} {oc27 kV27 dc27 pm27 cd27 ct27 : Value}
    (a27 : PySem.W.nsIn K mainGlobals "day_name" = some (some (.ref f27)))
    (l27 : K.lookup f27 = some ⟨oc27, od27, .func (PySem.W.fnOf "day_name" "day_name" (defArgs s_day_name) (defBody s_day_name) (defScope s_day_name) .none kV27 dc27 pm27 an27 cd27 ct27), sl27⟩) (c27 : PySem.W.codeIn K cd27 "day_name" = true) (k27 : PySem.W.keepIn K (.ref f27) = true)
    {od28 an28 : Option Addr} {sl28 : Array (Option Value)} {oc28 kV28 dc28 pm28 cd28 ct28 : Value}
    (a28 : PySem.W.nsIn K mainGlobals "read_clock" = some (some (.ref f28)))
    (l28 : K.lookup f28 = some ⟨oc28, od28, .func (PySem.W.fnOf "read_clock" "read_clock" (defArgs s_read_clock) (defBody s_read_clock) (defScope s_read_clock) .none kV28 dc28 pm28 an28 cd28 ct28), sl28⟩) (c28 : PySem.W.codeIn K cd28 "read_clock" = true) (k28 : PySem.W.keepIn K (.ref f28) = true)
    {od29 an29 : Option Addr} {sl29 : Array (Option Value)} {oc29 kV29 dc29 pm29 cd29 ct29 : Value}
    (a29 : PySem.W.nsIn K mainGlobals "read_ahead" = some (some (.ref f29)))
    (l29 : K.lookup f29 = some ⟨oc29, od29, .func (PySem.W.fnOf "read_ahead" "read_ahead" (defArgs s_read_ahead) (defBody s_read_ahead) (defScope s_read_ahead) .none kV29 dc29 pm29 an29 cd29 ct29), sl29⟩) (c29 : PySem.W.codeIn K cd29 "read_ahead" = true) (k29 : PySem.W.keepIn K (.ref f29) = true)
    {od30 an30 : Option Addr} {sl30 : Array (Option Value)} {oc30 kV30 dc30 pm30 cd30 ct30 : Value}
    (a30 : PySem.W.findIn K (.ref cReader) "end" = some (some (.ref f30))) (fn30 : PySem.W.isFn K (.ref f30) = true)
    (l30 : K.lookup f30 = some ⟨oc30, od30, .func (PySem.W.fnOf "end" "Reader.end" (defArgs s_Reader_end) (defBody s_Reader_end) (defScope s_Reader_end) .none kV30 dc30 pm30 an30 cd30 ct30), sl30⟩) (c30 : PySem.W.codeIn K cd30 "Reader.end" = true) (k30 : PySem.W.keepIn K (.ref f30) = true)
    {od31 an31 : Option Addr} {sl31 : Array (Option Value)} {oc31 kV31 dc31 pm31 cd31 ct31 : Value}
    (a31 : PySem.W.nsIn K mainGlobals "read_time" = some (some (.ref f31)))
    (l31 : K.lookup f31 = some ⟨oc31, od31, .func (PySem.W.fnOf "read_time" "read_time" (defArgs s_read_time) (defBody s_read_time) (defScope s_read_time) .none kV31 dc31 pm31 an31 cd31 ct31), sl31⟩) (c31 : PySem.W.codeIn K cd31 "read_time" = true) (k31 : PySem.W.keepIn K (.ref f31) = true)
    {od32 an32 : Option Addr} {sl32 : Array (Option Value)} {oc32 kV32 dc32 pm32 cd32 ct32 : Value}
    (a32 : PySem.W.findIn K (.ref cReader) "__init__" = some (some (.ref f32))) (fn32 : PySem.W.isFn K (.ref f32) = true)
    (l32 : K.lookup f32 = some ⟨oc32, od32, .func (PySem.W.fnOf "__init__" "Reader.__init__" (defArgs s_Reader___init__) (defBody s_Reader___init__) (defScope s_Reader___init__) .none kV32 dc32 pm32 an32 cd32 ct32), sl32⟩) (c32 : PySem.W.codeIn K cd32 "Reader.__init__" = true) (k32 : PySem.W.keepIn K (.ref f32) = true)
    {od33 an33 : Option Addr} {sl33 : Array (Option Value)} {oc33 kV33 dc33 pm33 cd33 ct33 : Value}
    (a33 : PySem.W.nsIn K mainGlobals "time_of" = some (some (.ref f33)))
    (l33 : K.lookup f33 = some ⟨oc33, od33, .func (PySem.W.fnOf "time_of" "time_of" (defArgs s_time_of) (defBody s_time_of) (defScope s_time_of) .none kV33 dc33 pm33 an33 cd33 ct33), sl33⟩) (c33 : PySem.W.codeIn K cd33 "time_of" = true) (k33 : PySem.W.keepIn K (.ref f33) = true)
    {od34 an34 : Option Addr} {sl34 : Array (Option Value)} {oc34 kV34 dc34 pm34 cd34 ct34 : Value}
    (a34 : PySem.W.nsIn K mainGlobals "_law_kind" = some (some (.ref f34)))
    (l34 : K.lookup f34 = some ⟨oc34, od34, .func (PySem.W.fnOf "_law_kind" "_law_kind" (defArgs s__law_kind) (defBody s__law_kind) (defScope s__law_kind) .none kV34 dc34 pm34 an34 cd34 ct34), sl34⟩) (c34 : PySem.W.codeIn K cd34 "_law_kind" = true) (k34 : PySem.W.keepIn K (.ref f34) = true)
    {od35 an35 : Option Addr} {sl35 : Array (Option Value)} {oc35 kV35 dc35 pm35 cd35 ct35 : Value}
    (a35 : PySem.W.nsIn K mainGlobals "_law_told" = some (some (.ref f35)))
    (l35 : K.lookup f35 = some ⟨oc35, od35, .func (PySem.W.fnOf "_law_told" "_law_told" (defArgs s__law_told) (defBody s__law_told) (defScope s__law_told) .none kV35 dc35 pm35 an35 cd35 ct35), sl35⟩) (c35 : PySem.W.codeIn K cd35 "_law_told" = true) (k35 : PySem.W.keepIn K (.ref f35) = true)
    {od36 an36 : Option Addr} {sl36 : Array (Option Value)} {oc36 kV36 dc36 pm36 cd36 ct36 : Value}
    (a36 : PySem.W.nsIn K mainGlobals "law" = some (some (.ref f36)))
    (l36 : K.lookup f36 = some ⟨oc36, od36, .func (PySem.W.fnOf "law" "law" (defArgs s_law) (defBody s_law) (defScope s_law) .none kV36 dc36 pm36 an36 cd36 ct36), sl36⟩) (c36 : PySem.W.codeIn K cd36 "law" = true) (k36 : PySem.W.keepIn K (.ref f36) = true)
    {e0 e1 e2 e3 e4 e5 e6 e7 e8 e9 e10 e11 e12 e13 e14 e15 e16 e17 e18 e19 : Addr}
    (m0 : PySem.W.nsIn K mainGlobals "HouseError" = some (some (.ref e0)))
    (m1 : PySem.W.nsIn K mainGlobals "BadBytes" = some (some (.ref e1)))
    (m2 : PySem.W.nsIn K mainGlobals "BadName" = some (some (.ref e2)))
    (m3 : PySem.W.nsIn K mainGlobals "BadValue" = some (some (.ref e3)))
    (m4 : PySem.W.nsIn K mainGlobals "TooLong" = some (some (.ref e4)))
    (m5 : PySem.W.nsIn K mainGlobals "NoTime" = some (some (.ref e5)))
    (m6 : PySem.W.nsIn K mainGlobals "BadPiece" = some (some (.ref e6)))
    (m7 : PySem.W.nsIn K mainGlobals "Twice" = some (some (.ref e7)))
    (m8 : PySem.W.nsIn K mainGlobals "NoLetter" = some (some (.ref e8)))
    (m9 : PySem.W.nsIn K mainGlobals "NoFolder" = some (some (.ref e9)))
    (m10 : PySem.W.nsIn K mainGlobals "BadLine" = some (some (.ref e10)))
    (m11 : PySem.W.nsIn K mainGlobals "Wrong" = some (some (.ref e11)))
    (m12 : PySem.W.nsIn K mainGlobals "BadRow" = some (some (.ref e12)))
    (m13 : PySem.W.nsIn K mainGlobals "BadSixty" = some (some (.ref e13)))
    (m14 : PySem.W.nsIn K mainGlobals "BadSixteens" = some (some (.ref e14)))
    (m15 : PySem.W.nsIn K mainGlobals "BadTime" = some (some (.ref e15)))
    (m16 : PySem.W.nsIn K mainGlobals "BadPeople" = some (some (.ref e16)))
    (m17 : PySem.W.nsIn K mainGlobals "BadHeader" = some (some (.ref e17)))
    (m18 : PySem.W.nsIn K mainGlobals "BadBody" = some (some (.ref e18)))
    (m19 : PySem.W.nsIn K mainGlobals "BadRule" = some (some (.ref e19)))
    (ic0 : PySem.W.isClsIn K e0 = true) (tp0 : PySem.W.typeIn K (.ref e0) = some (.type "type"))
    (ic1 : PySem.W.isClsIn K e1 = true) (tp1 : PySem.W.typeIn K (.ref e1) = some (.type "type"))
    (ic2 : PySem.W.isClsIn K e2 = true) (tp2 : PySem.W.typeIn K (.ref e2) = some (.type "type"))
    (ic3 : PySem.W.isClsIn K e3 = true) (tp3 : PySem.W.typeIn K (.ref e3) = some (.type "type"))
    (ic4 : PySem.W.isClsIn K e4 = true) (tp4 : PySem.W.typeIn K (.ref e4) = some (.type "type"))
    (ic5 : PySem.W.isClsIn K e5 = true) (tp5 : PySem.W.typeIn K (.ref e5) = some (.type "type"))
    (ic6 : PySem.W.isClsIn K e6 = true) (tp6 : PySem.W.typeIn K (.ref e6) = some (.type "type"))
    (ic7 : PySem.W.isClsIn K e7 = true) (tp7 : PySem.W.typeIn K (.ref e7) = some (.type "type"))
    (ic8 : PySem.W.isClsIn K e8 = true) (tp8 : PySem.W.typeIn K (.ref e8) = some (.type "type"))
    (ic9 : PySem.W.isClsIn K e9 = true) (tp9 : PySem.W.typeIn K (.ref e9) = some (.type "type"))
    (ic10 : PySem.W.isClsIn K e10 = true) (tp10 : PySem.W.typeIn K (.ref e10) = some (.type "type"))
    (ic11 : PySem.W.isClsIn K e11 = true) (tp11 : PySem.W.typeIn K (.ref e11) = some (.type "type"))
    (ic12 : PySem.W.isClsIn K e12 = true) (tp12 : PySem.W.typeIn K (.ref e12) = some (.type "type"))
    (ic13 : PySem.W.isClsIn K e13 = true) (tp13 : PySem.W.typeIn K (.ref e13) = some (.type "type"))
    (ic14 : PySem.W.isClsIn K e14 = true) (tp14 : PySem.W.typeIn K (.ref e14) = some (.type "type"))
    (ic15 : PySem.W.isClsIn K e15 = true) (tp15 : PySem.W.typeIn K (.ref e15) = some (.type "type"))
    (ic16 : PySem.W.isClsIn K e16 = true) (tp16 : PySem.W.typeIn K (.ref e16) = some (.type "type"))
    (ic17 : PySem.W.isClsIn K e17 = true) (tp17 : PySem.W.typeIn K (.ref e17) = some (.type "type"))
    (ic18 : PySem.W.isClsIn K e18 = true) (tp18 : PySem.W.typeIn K (.ref e18) = some (.type "type"))
    (ic19 : PySem.W.isClsIn K e19 = true) (tp19 : PySem.W.typeIn K (.ref e19) = some (.type "type"))
    (hb0 : PySem.W.subIn K (.ref e0) (.type "BaseException") = some true)
    (kp15 : PySem.W.keepIn K (.ref e15) = true) (sb15 : PySem.W.subIn K (.ref e15) (.type "BaseException") = some true) (ty15 : PySem.W.typeIn K (.ref e15) = some (.type "type")) (x0_15 : PySem.W.findIn K (.ref e15) "__getattribute__" = some (some (.builtin "BaseException.__getattribute__"))) (x1_15 : PySem.W.findIn K (.ref e15) "__getattr__" = some none) (x2_15 : PySem.W.subIn K (.ref e15) (.type "BaseException") = some true) (x3_15 : PySem.W.hasDictIn K e15 = true) (x4_15 : PySem.W.findIn K (.ref e15) "__class__" = some (some (.builtin "object.__class__"))) (x5_15 : PySem.W.specialIn K (.builtin "object.__class__") "__get__" = some (some (.builtin "getset_descriptor.__get__"))) (x6_15 : PySem.W.takesIn K (.builtin "object.__class__") = some true) (x7_15 : PySem.W.mroIn K e15 (.type "object") = some true) (fi15 : PySem.W.subIn K (.ref e15) (.ref e0) = some true) (ba15 : PySem.W.subIn K (.ref e15) (.type "ValueError") = some true) (ki15_0 : PySem.W.subIn K (.ref e15) (.ref e1) = some false) (nq15_0 : (e15 == e1) = false) (ki15_1 : PySem.W.subIn K (.ref e15) (.ref e2) = some false) (nq15_1 : (e15 == e2) = false) (ki15_2 : PySem.W.subIn K (.ref e15) (.ref e3) = some false) (nq15_2 : (e15 == e3) = false) (ki15_3 : PySem.W.subIn K (.ref e15) (.ref e4) = some false) (nq15_3 : (e15 == e4) = false) (ki15_4 : PySem.W.subIn K (.ref e15) (.ref e5) = some false) (nq15_4 : (e15 == e5) = false) (ki15_5 : PySem.W.subIn K (.ref e15) (.ref e6) = some false) (nq15_5 : (e15 == e6) = false) (ki15_6 : PySem.W.subIn K (.ref e15) (.ref e7) = some false) (nq15_6 : (e15 == e7) = false) (ki15_7 : PySem.W.subIn K (.ref e15) (.ref e8) = some false) (nq15_7 : (e15 == e8) = false) (ki15_8 : PySem.W.subIn K (.ref e15) (.ref e9) = some false) (nq15_8 : (e15 == e9) = false) (ki15_9 : PySem.W.subIn K (.ref e15) (.ref e10) = some false) (nq15_9 : (e15 == e10) = false) (ki15_10 : PySem.W.subIn K (.ref e15) (.ref e11) = some true) (ki15_11 : PySem.W.subIn K (.ref e15) (.ref e12) = some false) (nq15_11 : (e15 == e12) = false) (ki15_12 : PySem.W.subIn K (.ref e15) (.ref e13) = some false) (nq15_12 : (e15 == e13) = false) (ki15_13 : PySem.W.subIn K (.ref e15) (.ref e14) = some false) (nq15_13 : (e15 == e14) = false) (ki15_14 : PySem.W.subIn K (.ref e15) (.ref e15) = some true) (ki15_15 : PySem.W.subIn K (.ref e15) (.ref e16) = some false) (nq15_15 : (e15 == e16) = false) (ki15_16 : PySem.W.subIn K (.ref e15) (.ref e17) = some false) (nq15_16 : (e15 == e17) = false) (ki15_17 : PySem.W.subIn K (.ref e15) (.ref e18) = some false) (nq15_17 : (e15 == e18) = false) (ki15_18 : PySem.W.subIn K (.ref e15) (.ref e19) = some false) (nq15_18 : (e15 == e19) = false) (nl15 : PySem.W.findIn K (.ref e15) "line" = some none) (np15 : PySem.W.findIn K (.ref e15) "place" = some none)
    {fH ccH cdaH TH : Addr} {r0 r1 r2 r3 r4 r5 r6 r7 r8 r9 r10 r11 r12 r13 r14 r15 r16 : Pos} {u0h : Nat} {och kvh doch pmh cth cclh clh octh : Value} {odh anh cddh cldh odth : Option Addr} {slh csh cslh slth : Array (Option Value)} {vsh : Array Value} {dvh : Value} {fileh : Str} {tfh : Tok} {mh : Nat}
    (yi : PySem.W.findIn K (.ref e0) "__init__" = some (some (.ref fH)))
    (yl : K.lookup fH = some ⟨och, odh, .func (PySem.W.ksFn "__init__" "HouseError.__init__" (hA ⟨r0, r1, r2, r3, r4, r5, r6, r7, r8, r9, r10, r11, r12, r13, r14, r15, r16, u0h⟩) (hB ⟨r0, r1, r2, r3, r4, r5, r6, r7, r8, r9, r10, r11, r12, r13, r14, r15, r16, u0h⟩) hS (.ref TH) kvh doch pmh anh (.ref cdaH) cth ccH), slh⟩)
    (yc : PySem.W.codeIn K (.ref cdaH) "HouseError.__init__" = true) (yq1 : (r5.endLine == r6.line) = true) (yq2 : (r14.endLine == r15.line) = true) (yT : K.lookup TH = some ⟨octh, odth, .seq #[dvh] mh, slth⟩)
    (yd : K.lookup cdaH = some ⟨cclh, cddh, .fields vsh, csh⟩) (ye : vsh[2]? = some (.str fileh tfh)) (yf : ((l.prog.main.file : Str) == fileh) = true) (yg : K.lookup ccH = some ⟨clh, cldh, .cell (some (.ref e0)), cslh⟩)
    (yy : PySem.W.typeIn K (.ref fH) = some (.type "function")) (yfn : PySem.W.fnIn K fH = true) (yj : PySem.W.nsIn K mainGlobals "super" = some none) (yk : (l.prog.main.scope.names.lookup ("super" : Str)).isSome = false) (ym : PySem.W.nsIn K cStatics "thirdparty.any" = some none)
    {odn15 : Option Addr} {cdn15 : ClassData} {sln15 : Array (Option Value)} {nmn15 : Str} {tkn15 : Tok}
    (yx15 : PySem.W.excInitIn K e15 bmV "ValueError.__new__" = true) (yo15 : PySem.W.excOver K e15 bmV = true) (ys15 : PySem.W.findIn K (.ref e15) "__setattr__" = some (some (.builtin "object.__setattr__"))) (yt15 : PySem.W.takerIn K e15 "kind" = some none) (yv15 : PySem.W.mroIn K e15 (.ref e0) = some true) (yw15 : PySem.W.ks_superIn K e15 e0 "__init__" = some (some (.builtin "ValueError.__init__"))) (yr15 : PySem.W.readsIn K e15 (.type "type") = true) (yn15 : PySem.W.findCls K (.ref e15) (.type "type") "__name__" = some (.get (.builtin "getset_descriptor.__get__") (.builtin "type.__name__") (.ref e15) (.type "type"))) (yz15 : K.lookup e15 = some ⟨.type "type", odn15, .cls cdn15, sln15⟩) (yza15 : sln15[2]? = some (some (.str nmn15 tkn15))) (yzb15 : nmn15.length ≤ 5592405) (yzc15 : Txt.lower nmn15 = ("badtime" : Str))
    {fI cc cda : Addr} {q0 q1 q2 q3 q4 q5 q6 q7 q8 q9 q10 q11 q12 q13 q14 q15 q16 q17 q18 q19 q20 q21 q22 : Pos} {u0 u1 : Nat} {ocw docw pmw ctw cclw clw : Value} {odw anw cddw cldw : Option Addr} {slw csw cslw : Array (Option Value)} {vsw : Array Value} {filew : Str} {tfw : Tok}
    (wi : PySem.W.findIn K (.ref e15) "__init__" = some (some (.ref fI)))
    (wl : K.lookup fI = some ⟨ocw, odw, .func (PySem.W.ksFn "__init__" "Wrong.__init__" (iA q0 q1 q2) (iB ⟨q0, q1, q2, q3, q4, q5, q6, q7, q8, q9, q10, q11, q12, q13, q14, q15, q16, q17, q18, q19, q20, q21, q22, u0, u1⟩) iS .none .none docw pmw anw (.ref cda) ctw cc), slw⟩)
    (wc : PySem.W.codeIn K (.ref cda) "Wrong.__init__" = true) (wq : (q5.endLine == q6.line) = true)
    (wd : K.lookup cda = some ⟨cclw, cddw, .fields vsw, csw⟩) (we : vsw[2]? = some (.str filew tfw)) (wf : ((l.prog.main.file : Str) == filew) = true)
    (wg : K.lookup cc = some ⟨clw, cldw, .cell (some (.ref e11)), cslw⟩) (wh : PySem.W.isClsIn K e11 = true) (wj : PySem.W.nsIn K mainGlobals "super" = some none) (wk : (l.prog.main.scope.names.lookup ("super" : Str)).isSome = false) (wm : PySem.W.nsIn K cStatics "thirdparty.any" = some none) (wn : PySem.W.typeIn K (.ref fI) = some (.type "function"))
    (wi15 : PySem.W.findIn K (.ref e15) "__init__" = some (some (.ref fI))) (wx15 : PySem.W.excInitIn K e15 bmV "ValueError.__new__" = true) (wo15 : PySem.W.excOver K e15 bmV = true) (ws15 : PySem.W.findIn K (.ref e15) "__setattr__" = some (some (.builtin "object.__setattr__"))) (wt15 : PySem.W.takerIn K e15 "line" = some none) (wu15 : PySem.W.takerIn K e15 "place" = some none) (wv15 : PySem.W.mroIn K e15 (.ref e11) = some true) (ww15 : PySem.W.ks_superIn K e15 e11 "__init__" = some (some (.ref fH)))
    {gAstray fAAstray cAAstray dAAstray : Addr} {vAstray0 vAstray1 vAstray2 vAstray3 vAstray4 vAstray5 vAstray6 vAstray7 vAstray8 vAstray9 vAstray10 vAstray11 vAstray12 vAstray13 vAstray14 : Pos} {uAAstray : Nat} {ocA docA pmA ctA cclA clA : Value} {odA anA cddA cldA : Option Addr} {slA csA cslA : Array (Option Value)} {vsA : Array Value} {fileA : Str} {tfA : Tok}
    (jmAstray : PySem.W.nsIn K mainGlobals "Astray" = some (some (.ref gAstray))) (jiAstray : PySem.W.findIn K (.ref gAstray) "__init__" = some (some (.ref fAAstray))) (jxAstray : PySem.W.excInitIn K gAstray bmE "Exception.__new__" = true) (joAstray : PySem.W.excOver K gAstray bmE = true) (jsAstray : PySem.W.findIn K (.ref gAstray) "__setattr__" = some (some (.builtin "object.__setattr__"))) (jtAstray : PySem.W.takerIn K gAstray "place" = some none) (jdAstray : PySem.W.hasDictIn K gAstray = true) (jyAstray : PySem.W.typeIn K (.ref fAAstray) = some (.type "function"))
    (jlAstray : K.lookup fAAstray = some ⟨ocA, odA, .func (PySem.W.ksFn "__init__" "Astray.__init__" (aA vAstray0 vAstray1) (aB ⟨vAstray0, vAstray1, vAstray2, vAstray3, vAstray4, vAstray5, vAstray6, vAstray7, vAstray8, vAstray9, vAstray10, vAstray11, vAstray12, vAstray13, vAstray14, uAAstray⟩) aS .none .none docA pmA anA (.ref dAAstray) ctA cAAstray), slA⟩)
    (jcAstray : PySem.W.codeIn K (.ref dAAstray) "Astray.__init__" = true) (jqAstray : (vAstray4.endLine == vAstray5.line) = true) (jkAstray : K.lookup dAAstray = some ⟨cclA, cddA, .fields vsA, csA⟩) (jvAstray : vsA[2]? = some (.str fileA tfA)) (jfAstray : ((l.prog.main.file : Str) == fileA) = true) (jgAstray : K.lookup cAAstray = some ⟨clA, cldA, .cell (some (.ref gAstray)), cslA⟩)
    (jhAstray : PySem.W.isClsIn K gAstray = true) (juAstray : PySem.W.mroIn K gAstray (.ref gAstray) = some true) (jwAstray : PySem.W.ks_superIn K gAstray gAstray "__init__" = some (some (.builtin "Exception.__init__"))) (jzAstray : PySem.W.subIn K (.ref gAstray) (.type "Exception") = some true) (kpAstray : PySem.W.keepIn K (.ref gAstray) = true) (sbAstray : PySem.W.subIn K (.ref gAstray) (.type "BaseException") = some true) (tyAstray : PySem.W.typeIn K (.ref gAstray) = some (.type "type")) (gaAstray : PySem.W.findIn K (.ref gAstray) "__getattribute__" = some (some (.builtin "BaseException.__getattribute__"))) (ggAstray : PySem.W.findIn K (.ref gAstray) "__getattr__" = some none) (pnAstray : PySem.W.findIn K (.ref gAstray) "place" = some none) (ssAstray : PySem.W.subIn K (.ref gAstray) (.ref gAstray) = some true)
    (z0 : PySem.W.nsIn K mainGlobals "all" = some none)
    (z1 : PySem.W.nsIn K mainGlobals "ValueError" = some none)
    (z2 : PySem.W.nsIn K mainGlobals "abs" = some none)
    (z3 : PySem.W.nsIn K mainGlobals "bool" = some none)
    (z4 : PySem.W.nsIn K mainGlobals "divmod" = some none)
    (z5 : PySem.W.nsIn K mainGlobals "enumerate" = some none)
    (z6 : PySem.W.nsIn K mainGlobals "int" = some none)
    (z7 : PySem.W.nsIn K mainGlobals "isinstance" = some none)
    (z8 : PySem.W.nsIn K mainGlobals "len" = some none)
    (z9 : PySem.W.nsIn K mainGlobals "max" = some none)
    (z10 : PySem.W.nsIn K mainGlobals "range" = some none)
    (z11 : PySem.W.nsIn K mainGlobals "str" = some none)
    (z12 : PySem.W.nsIn K mainGlobals "sum" = some none)
    (z13 : PySem.W.nsIn K mainGlobals "tuple" = some none)
    (v0 : PySem.W.nsIn K mainGlobals "FIGURES" = some (some (.str FIGS t1)))
    (v1 : PySem.W.nsIn K mainGlobals "LAST_YEAR" = some (some (.int 9999 t2)))
    (v2 : PySem.W.nsIn K mainGlobals "DAY_MINUTES" = some (some (.int 1440 t3)))
    (v3 : PySem.W.nsIn K mainGlobals "MOST_HOURS" = some (some (.int 14 t4))) :
    ∃ fd : FuncData, (∀ (s : Shared) (v : Value), BindsTo s fd ⟨[v], []⟩ [("_law_script", v)]) ∧ ∀ base : Heap, K.In base → base.Ns mainGlobals mg → FnOk l.prog w K mg base CX0 9 fa fd ["_law_script"] (spLaw K) := by
  have e := hfa.symm.trans (PySem.W.mg_of X G a36)
  cases e
  have F0 := fun_mk (st := s__law_cell) l0 c0 k0
  have b0 := F0.binds (ps := ["_law_script", "_law_k"]) fun _ _ _ _ _ _ us hl => match us, hl with | [_, _], _ => rfl
  have F1 := fun_mk (st := s__law_mixed) l1 c1 k1
  have b1 := F1.binds (ps := ["_law_cell_here", "_law_k"]) fun _ _ _ _ _ _ us hl => match us, hl with | [_, _], _ => rfl
  have F2 := fun_mk (st := s__law_next) l2 c2 k2
  have b2 := F2.binds (ps := ["_law_number", "_law_k"]) fun _ _ _ _ _ _ us hl => match us, hl with | [_, _], _ => rfl
  have F3 := fun_mk (st := s__law_is_long) l3 c3 k3
  have b3 := F3.binds (ps := ["_law_year"]) fun _ _ _ _ _ _ us hl => match us, hl with | [_], _ => rfl
  have F4 := fun_mk (st := s__law_many_days) l4 c4 k4
  have b4 := F4.binds (ps := ["_law_year", "_law_month"]) fun _ _ _ _ _ _ us hl => match us, hl with | [_, _], _ => rfl
  have F5 := fun_mk (st := s__law_date) l5 c5 k5
  have b5 := F5.binds (ps := ["_law_number"]) fun _ _ _ _ _ _ us hl => match us, hl with | [_], _ => rfl
  have F6 := fun_mk (st := s__law_ahead) l6 c6 k6
  have b6 := F6.binds (ps := ["_law_number"]) fun _ _ _ _ _ _ us hl => match us, hl with | [_], _ => rfl
  have F7 := fun_mk (st := s__law_two) l7 c7 k7
  have b7 := F7.binds (ps := ["_law_number"]) fun _ _ _ _ _ _ us hl => match us, hl with | [_], _ => rfl
  have F8 := fun_mk (st := s__law_day) l8 c8 k8
  have b8 := F8.binds (ps := ["_law_year", "_law_month", "_law_day_here"]) fun _ _ _ _ _ _ us hl => match us, hl with | [_, _, _], _ => rfl
  have F9 := fun_mk (st := s__law_text) l9 c9 k9
  have b9 := F9.binds (ps := ["_law_year", "_law_month", "_law_day_here", "_law_left", "_law_ahead_here"]) fun _ _ _ _ _ _ us hl => match us, hl with | [_, _, _, _, _], _ => rfl
  have F10 := fun_mk (st := s__law_signs) l10 c10 k10
  have b10 := F10.binds (ps := []) fun _ _ _ _ _ _ us hl => match us, hl with | [], _ => rfl
  have F11 := fun_mk (st := s__law_bent) l11 c11 k11
  have b11 := F11.binds (ps := ["_law_text_here", "_law_number"]) fun _ _ _ _ _ _ us hl => match us, hl with | [_, _], _ => rfl
  have F12 := fun_mk (st := s__law_among) l12 c12 k12
  have b12 := F12.binds (ps := ["_law_part", "_law_least", "_law_behind"]) fun _ _ _ _ _ _ us hl => match us, hl with | [_, _, _], _ => rfl
  have F13 := fun_mk (st := s__law_begins_day) l13 c13 k13
  have b13 := F13.binds (ps := ["_law_text_here"]) fun _ _ _ _ _ _ us hl => match us, hl with | [_], _ => rfl
  have F14 := fun_mk (st := s__law_begins) l14 c14 k14
  have b14 := F14.binds (ps := ["_law_text_here"]) fun _ _ _ _ _ _ us hl => match us, hl with | [_], _ => rfl
  have F15 := fun_mk (st := s__law_place) l15 c15 k15
  have b15 := F15.binds (ps := ["_law_text_here"]) fun _ _ _ _ _ _ us hl => match us, hl with | [_], _ => rfl
  have F16 := fun_mk (st := s__law_minute) l16 c16 k16
  have b16 := F16.binds (ps := ["_law_text_here"]) fun _ _ _ _ _ _ us hl => match us, hl with | [_], _ => rfl
  have F17 := fun_mk (st := s_Reader_sees) l17 c17 k17
  have b17 := F17.binds (ps := ["self", "choice"]) fun _ _ _ _ _ _ us hl => match us, hl with | [_, _], _ => rfl
  have F18 := fun_mk (st := s_Reader_one_of) l18 c18 k18
  have b18 := F18.binds (ps := ["self", "choice"]) fun _ _ _ _ _ _ us hl => match us, hl with | [_, _], _ => rfl
  have F19 := fun_mk (st := s_Reader_refuse_number) l19 c19 k19
  have b19 := F19.binds (ps := ["self", "low", "high"]) fun _ _ _ _ _ _ us hl => match us, hl with | [_, _, _], _ => rfl
  have F20 := fun_mk (st := s_Reader_number) l20 c20 k20
  have b20 := F20.binds (ps := ["self", "low", "high"]) fun _ _ _ _ _ _ us hl => match us, hl with | [_, _, _], _ => rfl
  have F21 := fun_mk (st := s_Reader_sees_word) l21 c21 k21
  have b21 := F21.binds (ps := ["self", "wanted"]) fun _ _ _ _ _ _ us hl => match us, hl with | [_, _], _ => rfl
  have F22 := fun_mk (st := s_Reader_word) l22 c22 k22
  have b22 := F22.binds (ps := ["self", "wanted"]) fun _ _ _ _ _ _ us hl => match us, hl with | [_, _], _ => rfl
  have F23 := fun_mk (st := s_has_leap_day) l23 c23 k23
  have b23 := F23.binds (ps := ["year"]) fun _ _ _ _ _ _ us hl => match us, hl with | [_], _ => rfl
  have F24 := fun_mk (st := s_days_in) l24 c24 k24
  have b24 := F24.binds (ps := ["year", "month"]) fun _ _ _ _ _ _ us hl => match us, hl with | [_, _], _ => rfl
  have F25 := fun_mk (st := s_days_ahead) l25 c25 k25
  have b25 := F25.binds (ps := ["year", "month"]) fun _ _ _ _ _ _ us hl => match us, hl with | [_, _], _ => rfl
  have F26 := fun_mk (st := s_read_day) l26 c26 k26
  have b26 := F26.binds (ps := ["reader"]) fun _ _ _ _ _ _ us hl => match us, hl with | [_], _ => rfl
  have F27 := fun_mk (st := s_day_name) l27 c27 k27
  have b27 := F27.binds (ps := ["day"]) fun _ _ _ _ _ _ us hl => match us, hl with | [_], _ => rfl
  have F28 := fun_mk (st := s_read_clock) l28 c28 k28
  have b28 := F28.binds (ps := ["reader"]) fun _ _ _ _ _ _ us hl => match us, hl with | [_], _ => rfl
  have F29 := fun_mk (st := s_read_ahead) l29 c29 k29
  have b29 := F29.binds (ps := ["reader"]) fun _ _ _ _ _ _ us hl => match us, hl with | [_], _ => rfl
  have F30 := fun_mk (st := s_Reader_end) l30 c30 k30
  have b30 := F30.binds (ps := ["self"]) fun _ _ _ _ _ _ us hl => match us, hl with | [_], _ => rfl
  have F31 := fun_mk (st := s_read_time) l31 c31 k31
  have b31 := F31.binds (ps := ["reader"]) fun _ _ _ _ _ _ us hl => match us, hl with | [_], _ => rfl
  have F32 := fun_mk (st := s_Reader___init__) l32 c32 k32
  have b32 := F32.binds (ps := ["self", "signs"]) fun _ _ _ _ _ _ us hl => match us, hl with | [_, _], _ => rfl
  have F33 := fun_mk (st := s_time_of) l33 c33 k33
  have b33 := F33.binds (ps := ["text"]) fun _ _ _ _ _ _ us hl => match us, hl with | [_], _ => rfl
  have F34 := fun_mk (st := s__law_kind) l34 c34 k34
  have b34 := F34.binds (ps := ["_law_e"]) fun _ _ _ _ _ _ us hl => match us, hl with | [_], _ => rfl
  have F35 := fun_mk (st := s__law_told) l35 c35 k35
  have b35 := F35.binds (ps := ["_law_text_here"]) fun _ _ _ _ _ _ us hl => match us, hl with | [_], _ => rfl
  have F36 := fun_mk (st := s_law) l36 c36 k36
  have T : Tx K mg (fun i => [t1, t2, t3, t4].getD i t1) dn md := ⟨PySem.W.mg_none_of X G z0, PySem.W.mg_none_of X G z1, PySem.W.mg_none_of X G z2, PySem.W.mg_none_of X G z3, PySem.W.mg_none_of X G z4, PySem.W.mg_none_of X G z5, PySem.W.mg_none_of X G z6, PySem.W.mg_none_of X G z7, PySem.W.mg_none_of X G z8, PySem.W.mg_none_of X G z9, PySem.W.mg_none_of X G z10, PySem.W.mg_none_of X G z11, PySem.W.mg_none_of X G z12, PySem.W.mg_none_of X G z13, PySem.W.mg_of X G v0, PySem.W.mg_of X G v1, PySem.W.mg_of X G v2, PySem.W.mg_of X G v3, PySem.W.mg_of X G vdn, PySem.W.mg_of X G vmd, fun H => .inr ⟨_, _, _, ldn, rfl, rfl, by show 7 ≤ _; rw [sizeLine_eq]; decide, .cons ⟨_, rfl⟩ (.cons ⟨_, rfl⟩ (.cons ⟨_, rfl⟩ (.cons ⟨_, rfl⟩ (.cons ⟨_, rfl⟩ (.cons ⟨_, rfl⟩ (.cons ⟨_, rfl⟩ (.nil)))))))⟩, fun H => .inr ⟨_, _, _, lmd, rfl, rfl, by show 12 ≤ _; rw [sizeLine_eq]; decide, .cons ⟨_, rfl⟩ (.cons ⟨_, rfl⟩ (.cons ⟨_, rfl⟩ (.cons ⟨_, rfl⟩ (.cons ⟨_, rfl⟩ (.cons ⟨_, rfl⟩ (.cons ⟨_, rfl⟩ (.cons ⟨_, rfl⟩ (.cons ⟨_, rfl⟩ (.cons ⟨_, rfl⟩ (.cons ⟨_, rfl⟩ (.cons ⟨_, rfl⟩ (.nil))))))))))))⟩⟩
  have KReader : Cls K cReader := ⟨pgReader, hdReader, poReader, saReader⟩
  have RReader : Rc K cReader := ⟨KReader, naReader0, naReader1⟩
  have E : Ex K mg (fun i => [e0, e1, e2, e3, e4, e5, e6, e7, e8, e9, e10, e11, e12, e13, e14, e15, e16, e17, e18, e19].getD i e0) := ⟨PySem.W.mg_of X G m0, PySem.W.mg_of X G m1, PySem.W.mg_of X G m2, PySem.W.mg_of X G m3, PySem.W.mg_of X G m4, PySem.W.mg_of X G m5, PySem.W.mg_of X G m6, PySem.W.mg_of X G m7, PySem.W.mg_of X G m8, PySem.W.mg_of X G m9, PySem.W.mg_of X G m10, PySem.W.mg_of X G m11, PySem.W.mg_of X G m12, PySem.W.mg_of X G m13, PySem.W.mg_of X G m14, PySem.W.mg_of X G m15, PySem.W.mg_of X G m16, PySem.W.mg_of X G m17, PySem.W.mg_of X G m18, PySem.W.mg_of X G m19⟩
  have RW_BadTime : RaiseW K e0 e15 := ⟨⟨x0_15, x1_15, x2_15, x3_15, x4_15, x5_15, x6_15, x7_15⟩, exm_ref hb0 ic0 tp0 fi15, kit_base ba15, nl15, np15⟩
  have KR_BadTime : KitRow K (fun i => [e0, e1, e2, e3, e4, e5, e6, e7, e8, e9, e10, e11, e12, e13, e14, e15, e16, e17, e18, e19].getD i e0) e15 [false, false, false, false, false, false, false, false, false, false, true, false, false, false, true, false, false, false, false] := ⟨rfl, fun j hj => match j, hj with | 0, _ => kit_ref ic1 tp1 ki15_0 (.inl nq15_0) | 1, _ => kit_ref ic2 tp2 ki15_1 (.inl nq15_1) | 2, _ => kit_ref ic3 tp3 ki15_2 (.inl nq15_2) | 3, _ => kit_ref ic4 tp4 ki15_3 (.inl nq15_3) | 4, _ => kit_ref ic5 tp5 ki15_4 (.inl nq15_4) | 5, _ => kit_ref ic6 tp6 ki15_5 (.inl nq15_5) | 6, _ => kit_ref ic7 tp7 ki15_6 (.inl nq15_6) | 7, _ => kit_ref ic8 tp8 ki15_7 (.inl nq15_7) | 8, _ => kit_ref ic9 tp9 ki15_8 (.inl nq15_8) | 9, _ => kit_ref ic10 tp10 ki15_9 (.inl nq15_9) | 10, _ => kit_ref ic11 tp11 ki15_10 (.inr rfl) | 11, _ => kit_ref ic12 tp12 ki15_11 (.inl nq15_11) | 12, _ => kit_ref ic13 tp13 ki15_12 (.inl nq15_12) | 13, _ => kit_ref ic14 tp14 ki15_13 (.inl nq15_13) | 14, _ => kit_ref ic15 tp15 ki15_14 (.inr rfl) | 15, _ => kit_ref ic16 tp16 ki15_15 (.inl nq15_15) | 16, _ => kit_ref ic17 tp17 ki15_16 (.inl nq15_16) | 17, _ => kit_ref ic18 tp18 ki15_17 (.inl nq15_17) | 18, _ => kit_ref ic19 tp19 ki15_18 (.inl nq15_18) | n + 19, h => absurd h (by omega)⟩
  have WC_BadTime : WrC l.prog K mg "BadTime" e15 e11 fI cc cda e0 fH ccH cdaH "badtime" := ⟨⟨(⟨yx15, yo15, ys15, yt15, x3_15, yy, ⟨_, _, _, _, _, _, _, _, ⟨r0, r1, r2, r3, r4, r5, r6, r7, r8, r9, r10, r11, r12, r13, r14, r15, r16, u0h⟩, _, _, _, _, yl, yc, yq1, yq2, yT, rfl⟩, ⟨_, _, _, _, _, _, yd, ye, yf⟩, ⟨_, _, _, yg⟩, ic0, yv15, yj, yk, ym, yw15, ba15, ⟨x0_15, x1_15, x2_15, x3_15, x4_15, x5_15, x6_15, x7_15⟩, ic15, yr15, yn15, ⟨_, _, _, _, _, yz15, yza15, yzb15, yzc15⟩⟩ : HeTxt l.prog K e15 e0 fH ccH cdaH "badtime"), wi15, wx15, wo15, ws15, wt15, wu15, x3_15, wn, ⟨_, _, _, _, _, _, _, ⟨q0, q1, q2, q3, q4, q5, q6, q7, q8, q9, q10, q11, q12, q13, q14, q15, q16, q17, q18, q19, q20, q21, q22, u0, u1⟩, wl, wc, wq⟩, ⟨_, _, _, _, _, _, wd, we, wf⟩, ⟨_, _, _, wg⟩, wh, wv15, wj, wk, wm, ww15, yfn, ba15⟩, PySem.W.mg_of X G m15, kp15, sb15, ty15⟩
  have AC_Astray : AtC l.prog K mg "Astray" gAstray fAAstray cAAstray dAAstray := ⟨⟨jiAstray, jxAstray, joAstray, jsAstray, jtAstray, jdAstray, jyAstray, ⟨_, _, _, _, _, _, _, ⟨vAstray0, vAstray1, vAstray2, vAstray3, vAstray4, vAstray5, vAstray6, vAstray7, vAstray8, vAstray9, vAstray10, vAstray11, vAstray12, vAstray13, vAstray14, uAAstray⟩, jlAstray, jcAstray, jqAstray⟩, ⟨_, _, _, _, _, _, jkAstray, jvAstray, jfAstray⟩, ⟨_, _, _, jgAstray⟩, jhAstray, juAstray, yj, yk, ym, jwAstray, jzAstray⟩, PySem.W.mg_of X G jmAstray, kpAstray, sbAstray, tyAstray⟩
  have AS_Astray : AsC K gAstray := ⟨⟨gaAstray, ggAstray, sbAstray, jdAstray⟩, pnAstray, exm_ref sbAstray jhAstray tyAstray ssAstray⟩
  refine ⟨PySem.W.fnOf "law" "law" (defArgs s_law) (defBody s_law) (defScope s_law) .none kV36 dc36 pm36 an36 cd36 ct36, fun s v => .of_eq rfl, fun base _ _ => ?_⟩
  have D0 : Def l.prog w K mg base "_law_cell" 1 f0 _ ["_law_script", "_law_k"] (sp_cell K) := ⟨ok_cell F0 T, PySem.W.mg_of X G a0, F0.kp, b0⟩
  have D1 : Def l.prog w K mg base "_law_mixed" 1 f1 _ ["_law_cell_here", "_law_k"] sp_mixed := ⟨ok_mixed F1, PySem.W.mg_of X G a1, F1.kp, b1⟩
  have D2 : Def l.prog w K mg base "_law_next" 1 f2 _ ["_law_number", "_law_k"] sp_next := ⟨ok_next F2, PySem.W.mg_of X G a2, F2.kp, b2⟩
  have D3 : Def l.prog w K mg base "_law_is_long" 1 f3 _ ["_law_year"] sp_leap := ⟨ok_islong F3, PySem.W.mg_of X G a3, F3.kp, b3⟩
  have D4 : Def l.prog w K mg base "_law_many_days" 2 f4 _ ["_law_year", "_law_month"] sp_many := ⟨ok_many F4 T D3, PySem.W.mg_of X G a4, F4.kp, b4⟩
  have D5 : Def l.prog w K mg base "_law_date" 3 f5 _ ["_law_number"] sp_date := ⟨ok_date F5 T D2 D4, PySem.W.mg_of X G a5, F5.kp, b5⟩
  have D6 : Def l.prog w K mg base "_law_ahead" 1 f6 _ ["_law_number"] sp_lahead := ⟨ok_lahead F6, PySem.W.mg_of X G a6, F6.kp, b6⟩
  have D7 : Def l.prog w K mg base "_law_two" 1 f7 _ ["_law_number"] sp_two := ⟨ok_two F7, PySem.W.mg_of X G a7, F7.kp, b7⟩
  have D8 : Def l.prog w K mg base "_law_day" 1 f8 _ ["_law_year", "_law_month", "_law_day_here"] sp_day := ⟨ok_day F8 T, PySem.W.mg_of X G a8, F8.kp, b8⟩
  have D9 : Def l.prog w K mg base "_law_text" 2 f9 _ ["_law_year", "_law_month", "_law_day_here", "_law_left", "_law_ahead_here"] sp_text := ⟨ok_text F9 T D7 D8, PySem.W.mg_of X G a9, F9.kp, b9⟩
  have D10 : Def l.prog w K mg base "_law_signs" 1 f10 _ [] sp_signs := ⟨ok_signs F10, PySem.W.mg_of X G a10, F10.kp, b10⟩
  have D11 : Def l.prog w K mg base "_law_bent" 2 f11 _ ["_law_text_here", "_law_number"] sp_bent := ⟨ok_bent F11 T D10 D7, PySem.W.mg_of X G a11, F11.kp, b11⟩
  have D12 : Def l.prog w K mg base "_law_among" 2 f12 _ ["_law_part", "_law_least", "_law_behind"] sp_among := ⟨ok_among F12 T D7, PySem.W.mg_of X G a12, F12.kp, b12⟩
  have D13 : Def l.prog w K mg base "_law_begins_day" 3 f13 _ ["_law_text_here"] sp_beginsD := ⟨ok_beginsD F13 T D12 D4 D8, PySem.W.mg_of X G a13, F13.kp, b13⟩
  have D14 : Def l.prog w K mg base "_law_begins" 4 f14 _ ["_law_text_here"] sp_begins := ⟨ok_begins F14 T D12 D13, PySem.W.mg_of X G a14, F14.kp, b14⟩
  have D15 : Def l.prog w K mg base "_law_place" 5 f15 _ ["_law_text_here"] sp_place := ⟨ok_place F15 T D14, PySem.W.mg_of X G a15, F15.kp, b15⟩
  have D16 : Def l.prog w K mg base "_law_minute" 2 f16 _ ["_law_text_here"] sp_minute := ⟨ok_minute F16 T D8, PySem.W.mg_of X G a16, F16.kp, b16⟩
  have D17 : DefM l.prog w K mg base cReader "sees" 1 f17 _ ["self", "choice"] (sp_sees K cReader) := ⟨KReader, ⟨a17, fn17, k17⟩, ok_sees F17 T RReader, b17⟩
  have DX18 : DefMX l.prog w K mg base cReader "one_of" 2 f18 _ ["self", "choice"] (sp_oneX K cReader gAstray) := ⟨KReader, ⟨a18, fn18, k18⟩, ok_oneX F18 T RReader AC_Astray D17, b18⟩
  have DR18 : DefMX l.prog w K mg base cReader "one_of" 2 f18 _ ["self", "choice"] (sp_oneR K cReader gAstray) := ⟨KReader, ⟨a18, fn18, k18⟩, ok_oneR DX18.ok, b18⟩
  have DX19 : DefMX l.prog w K mg base cReader "refuse_number" 3 f19 _ ["self", "low", "high"] (sp_refuseX K cReader gAstray) := ⟨KReader, ⟨a19, fn19, k19⟩, ok_refuseX F19 T DX18, b19⟩
  have DX20 : DefMX l.prog w K mg base cReader "number" 4 f20 _ ["self", "low", "high"] (sp_numberX K cReader gAstray) := ⟨KReader, ⟨a20, fn20, k20⟩, ok_numberX F20 T RReader DX19, b20⟩
  have DR20 : DefMX l.prog w K mg base cReader "number" 4 f20 _ ["self", "low", "high"] (sp_numberR cReader gAstray) := ⟨KReader, ⟨a20, fn20, k20⟩, ok_numberR DX20.ok, b20⟩
  have D21 : DefM l.prog w K mg base cReader "sees_word" 1 f21 _ ["self", "wanted"] (sp_seesword cReader) := ⟨KReader, ⟨a21, fn21, k21⟩, ok_seesword F21 T RReader, b21⟩
  have DX22 : DefMX l.prog w K mg base cReader "word" 3 f22 _ ["self", "wanted"] (sp_wordX K cReader gAstray) := ⟨KReader, ⟨a22, fn22, k22⟩, ok_wordX F22 T RReader D21 DX18, b22⟩
  have DR22 : DefMX l.prog w K mg base cReader "word" 3 f22 _ ["self", "wanted"] (sp_wordR cReader gAstray) := ⟨KReader, ⟨a22, fn22, k22⟩, ok_wordR DX22.ok, b22⟩
  have D23 : Def l.prog w K mg base "has_leap_day" 1 f23 _ ["year"] sp_leap := ⟨ok_leap F23, PySem.W.mg_of X G a23, F23.kp, b23⟩
  have D24 : Def l.prog w K mg base "days_in" 2 f24 _ ["year", "month"] sp_daysin := ⟨ok_daysin F24 T D23, PySem.W.mg_of X G a24, F24.kp, b24⟩
  have D25 : Def l.prog w K mg base "days_ahead" 3 f25 _ ["year", "month"] sp_daysA := ⟨ok_daysA F25 T D23, PySem.W.mg_of X G a25, F25.kp, b25⟩
  have DX26 : DefX l.prog w K mg base "read_day" 5 f26 _ ["reader"] (sp_readdayX cReader gAstray) := ⟨ok_readdayX F26 T DR20 DR22 D24 D25, PySem.W.mg_of X G a26, F26.kp, b26⟩
  have D27 : Def l.prog w K mg base "day_name" 1 f27 _ ["day"] sp_dayname := ⟨ok_dayname F27 T, PySem.W.mg_of X G a27, F27.kp, b27⟩
  have DX28 : DefX l.prog w K mg base "read_clock" 5 f28 _ ["reader"] (sp_readclockX cReader gAstray) := ⟨ok_readclockX F28 DR20 DR22, PySem.W.mg_of X G a28, F28.kp, b28⟩
  have DX29 : DefX l.prog w K mg base "read_ahead" 5 f29 _ ["reader"] (sp_readaheadX cReader gAstray) := ⟨ok_readaheadX F29 T DR20 DR18, PySem.W.mg_of X G a29, F29.kp, b29⟩
  have DX30 : DefMX l.prog w K mg base cReader "end" 1 f30 _ ["self"] (sp_endX cReader gAstray) := ⟨KReader, ⟨a30, fn30, k30⟩, ok_endX F30 T RReader AC_Astray, b30⟩
  have DX31 : DefX l.prog w K mg base "read_time" 6 f31 _ ["reader"] (sp_readtimeX cReader gAstray) := ⟨ok_readtimeX F31 T DX26 DR22 D27 DX28 DX29 DX30, PySem.W.mg_of X G a31, F31.kp, b31⟩
  have D32 : DefC l.prog w K mg base "Reader" cReader 1 f32 _ ["self", "signs"] (sp_init cReader) := ⟨⟨mkReader, a32, fn32, kpReader⟩, ok_init F32 RReader, PySem.W.mg_of X G mReader, b32⟩
  have DY33 : DefY l.prog w K mg base "time_of" 7 f33 _ ["text"] (sp_timeofX K e15) := ⟨ok_timeofX F33 T AC_Astray AS_Astray WC_BadTime DX31 D32, PySem.W.mg_of X G a33, F33.kp, b33⟩
  have D34 : Def l.prog w K mg base "_law_kind" 1 f34 _ ["_law_e"] (sp_kind K (fun i => [e0, e1, e2, e3, e4, e5, e6, e7, e8, e9, e10, e11, e12, e13, e14, e15, e16, e17, e18, e19].getD i e0)) := ⟨ok_kind (ca := (fun i => [e0, e1, e2, e3, e4, e5, e6, e7, e8, e9, e10, e11, e12, e13, e14, e15, e16, e17, e18, e19].getD i e0)) F34 T E, PySem.W.mg_of X G a34, F34.kp, b34⟩
  have D35 : Def l.prog w K mg base "_law_told" 8 f35 _ ["_law_text_here"] (sp_told K) := ⟨ok_told (ca := (fun i => [e0, e1, e2, e3, e4, e5, e6, e7, e8, e9, e10, e11, e12, e13, e14, e15, e16, e17, e18, e19].getD i e0)) F35 T E RW_BadTime KR_BadTime DY33 D34, PySem.W.mg_of X G a35, F35.kp, b35⟩
  exact ok_law F36 T D0 D1 D5 D2 D6 D9 D11 D15 D16 D35
end K12
open PySem PySem.W PyProof.Rows
set_option maxHeartbeats 0 in
theorem PySem.Challenge.cw_letterhouse_k12_times_refused_holds : PySem.Challenge.rw_letterhouse_k12_times_refused.Holds := by
  w_on; o_law; k_head; (case hw => w_witness2)
  k_fill
  refine L2.walk_of (l := PySem.Challenge.rw_letterhouse_k12_times_refused) (n := 63) (k := 9) (x := "_law_script") (CX := fun _ => L2.CX0) (sp := fun w => K12.spLaw _) rfl (by decide) rfl ⟨rfl, by decide, by decide⟩ (fun w h Y => PySem.W.kIn_of Y) ?F (fun _ _ a ns hl _ hS => ⟨a, ns, rfl, hS, hl, fun _ => rfl⟩) (fun _ _ _ _ _ h => h)
  case F =>
    intro w mg fa h KX G hmg
    refine' K12.all_mk KX G hmg ?mReader ?pgReader ?hdReader ?poReader ?saReader ?mkReader ?kpReader ?naReader0 ?naReader1 ?vdn ?ldn ?vmd ?lmd ?a0 ?l0 ?c0 ?k0 ?a1 ?l1 ?c1 ?k1 ?a2 ?l2 ?c2 ?k2 ?a3 ?l3 ?c3 ?k3 ?a4 ?l4 ?c4 ?k4 ?a5 ?l5 ?c5 ?k5 ?a6 ?l6 ?c6 ?k6 ?a7 ?l7 ?c7 ?k7 ?a8 ?l8 ?c8 ?k8 ?a9 ?l9 ?c9 ?k9 ?a10 ?l10 ?c10 ?k10 ?a11 ?l11 ?c11 ?k11 ?a12 ?l12 ?c12 ?k12 ?a13 ?l13 ?c13 ?k13 ?a14 ?l14 ?c14 ?k14 ?a15 ?l15 ?c15 ?k15 ?a16 ?l16 ?c16 ?k16 ?a17 ?fn17 ?l17 ?c17 ?k17 ?a18 ?fn18 ?l18 ?c18 ?k18 ?a19 ?fn19 ?l19 ?c19 ?k19 ?a20 ?fn20 ?l20 ?c20 ?k20 ?a21 ?fn21 ?l21 ?c21 ?k21 ?a22 ?fn22 ?l22 ?c22 ?k22 ?a23 ?l23 ?c23 ?k23 ?a24 ?l24 ?c24 ?k24 ?a25 ?l25 ?c25 ?k25 ?a26 ?l26 ?c26 ?k26 ?a27 ?l27 ?c27 ?k27 ?a28 ?l28 ?c28 ?k28 ?a29 ?l29 ?c29 ?k29 ?a30 ?fn30 ?l30 ?c30 ?k30 ?a31 ?l31 ?c31 ?k31 ?a32 ?fn32 ?l32 ?c32 ?k32 ?a33 ?l33 ?c33 ?k33 ?a34 ?l34 ?c34 ?k34 ?a35 ?l35 ?c35 ?k35 ?a36 ?l36 ?c36 ?k36 ?m0 ?m1 ?m2 ?m3 ?m4 ?m5 ?m6 ?m7 ?m8 ?m9 ?m10 ?m11 ?m12 ?m13 ?m14 ?m15 ?m16 ?m17 ?m18 ?m19 ?ic0 ?tp0 ?ic1 ?tp1 ?ic2 ?tp2 ?ic3 ?tp3 ?ic4 ?tp4 ?ic5 ?tp5 ?ic6 ?tp6 ?ic7 ?tp7 ?ic8 ?tp8 ?ic9 ?tp9 ?ic10 ?tp10 ?ic11 ?tp11 ?ic12 ?tp12 ?ic13 ?tp13 ?ic14 ?tp14 ?ic15 ?tp15 ?ic16 ?tp16 ?ic17 ?tp17 ?ic18 ?tp18 ?ic19 ?tp19 ?hb0 ?kp15 ?sb15 ?ty15 ?x0_15 ?x1_15 ?x2_15 ?x3_15 ?x4_15 ?x5_15 ?x6_15 ?x7_15 ?fi15 ?ba15 ?ki15_0 ?nq15_0 ?ki15_1 ?nq15_1 ?ki15_2 ?nq15_2 ?ki15_3 ?nq15_3 ?ki15_4 ?nq15_4 ?ki15_5 ?nq15_5 ?ki15_6 ?nq15_6 ?ki15_7 ?nq15_7 ?ki15_8 ?nq15_8 ?ki15_9 ?nq15_9 ?ki15_10 ?ki15_11 ?nq15_11 ?ki15_12 ?nq15_12 ?ki15_13 ?nq15_13 ?ki15_14 ?ki15_15 ?nq15_15 ?ki15_16 ?nq15_16 ?ki15_17 ?nq15_17 ?ki15_18 ?nq15_18 ?nl15 ?np15 ?yi ?yl ?yc ?yq1 ?yq2 ?yT ?yd ?ye ?yf ?yg ?yy ?yfn ?yj ?yk ?ym ?yx15 ?yo15 ?ys15 ?yt15 ?yv15 ?yw15 ?yr15 ?yn15 ?yz15 ?yza15 ?yzb15 ?yzc15 ?wi ?wl ?wc ?wq ?wd ?we ?wf ?wg ?wh ?wj ?wk ?wm ?wn ?wi15 ?wx15 ?wo15 ?ws15 ?wt15 ?wu15 ?wv15 ?ww15 ?jmAstray ?jiAstray ?jxAstray ?joAstray ?jsAstray ?jtAstray ?jdAstray ?jyAstray ?jlAstray ?jcAstray ?jqAstray ?jkAstray ?jvAstray ?jfAstray ?jgAstray ?jhAstray ?juAstray ?jwAstray ?jzAstray ?kpAstray ?sbAstray ?tyAstray ?gaAstray ?ggAstray ?pnAstray ?ssAstray ?z0 ?z1 ?z2 ?z3 ?z4 ?z5 ?z6 ?z7 ?z8 ?z9 ?z10 ?z11 ?z12 ?z13 ?v0 ?v1 ?v2 ?v3
    (case mReader => k_is); (case pgReader => k_is); (case hdReader => k_is); (case poReader => k_is); (case saReader => k_is); (case mkReader => k_is); (case kpReader => k_is); (case naReader0 => k_is); (case naReader1 => k_is); (case vdn => k_is); (case ldn => k_is); (case vmd => k_is); (case lmd => k_is); (case a0 => k_is); (case l0 => k_is); (case c0 => k_is); (case k0 => k_is); (case a1 => k_is); (case l1 => k_is); (case c1 => k_is); (case k1 => k_is); (case a2 => k_is); (case l2 => k_is); (case c2 => k_is); (case k2 => k_is); (case a3 => k_is); (case l3 => k_is); (case c3 => k_is); (case k3 => k_is); (case a4 => k_is); (case l4 => k_is); (case c4 => k_is); (case k4 => k_is); (case a5 => k_is); (case l5 => k_is); (case c5 => k_is); (case k5 => k_is); (case a6 => k_is); (case l6 => k_is); (case c6 => k_is); (case k6 => k_is); (case a7 => k_is); (case l7 => k_is); (case c7 => k_is); (case k7 => k_is); (case a8 => k_is); (case l8 => k_is); (case c8 => k_is); (case k8 => k_is); (case a9 => k_is); (case l9 => k_is); (case c9 => k_is); (case k9 => k_is); (case a10 => k_is); (case l10 => k_is); (case c10 => k_is); (case k10 => k_is); (case a11 => k_is); (case l11 => k_is); (case c11 => k_is); (case k11 => k_is); (case a12 => k_is); (case l12 => k_is); (case c12 => k_is); (case k12 => k_is); (case a13 => k_is); (case l13 => k_is); (case c13 => k_is); (case k13 => k_is); (case a14 => k_is); (case l14 => k_is); (case c14 => k_is); (case k14 => k_is); (case a15 => k_is); (case l15 => k_is); (case c15 => k_is); (case k15 => k_is); (case a16 => k_is); (case l16 => k_is); (case c16 => k_is); (case k16 => k_is); (case a17 => k_is); (case fn17 => k_is); (case l17 => k_is); (case c17 => k_is); (case k17 => k_is); (case a18 => k_is); (case fn18 => k_is); (case l18 => k_is); (case c18 => k_is); (case k18 => k_is); (case a19 => k_is); (case fn19 => k_is); (case l19 => k_is); (case c19 => k_is); (case k19 => k_is); (case a20 => k_is); (case fn20 => k_is); (case l20 => k_is); (case c20 => k_is); (case k20 => k_is); (case a21 => k_is); (case fn21 => k_is); (case l21 => k_is); (case c21 => k_is); (case k21 => k_is); (case a22 => k_is); (case fn22 => k_is); (case l22 => k_is); (case c22 => k_is); (case k22 => k_is); (case a23 => k_is); (case l23 => k_is); (case c23 => k_is); (case k23 => k_is); (case a24 => k_is); (case l24 => k_is); (case c24 => k_is); (case k24 => k_is); (case a25 => k_is); (case l25 => k_is); (case c25 => k_is); (case k25 => k_is); (case a26 => k_is); (case l26 => k_is); (case c26 => k_is); (case k26 => k_is); (case a27 => k_is); (case l27 => k_is); (case c27 => k_is); (case k27 => k_is); (case a28 => k_is); (case l28 => k_is); (case c28 => k_is); (case k28 => k_is); (case a29 => k_is); (case l29 => k_is); (case c29 => k_is); (case k29 => k_is); (case a30 => k_is); (case fn30 => k_is); (case l30 => k_is); (case c30 => k_is); (case k30 => k_is); (case a31 => k_is); (case l31 => k_is); (case c31 => k_is); (case k31 => k_is); (case a32 => k_is); (case fn32 => k_is); (case l32 => k_is); (case c32 => k_is); (case k32 => k_is); (case a33 => k_is); (case l33 => k_is); (case c33 => k_is); (case k33 => k_is); (case a34 => k_is); (case l34 => k_is); (case c34 => k_is); (case k34 => k_is); (case a35 => k_is); (case l35 => k_is); (case c35 => k_is); (case k35 => k_is); (case a36 => k_is); (case l36 => k_is); (case c36 => k_is); (case k36 => k_is); (case m0 => k_is); (case m1 => k_is); (case m2 => k_is); (case m3 => k_is); (case m4 => k_is); (case m5 => k_is); (case m6 => k_is); (case m7 => k_is); (case m8 => k_is); (case m9 => k_is); (case m10 => k_is); (case m11 => k_is); (case m12 => k_is); (case m13 => k_is); (case m14 => k_is); (case m15 => k_is); (case m16 => k_is); (case m17 => k_is); (case m18 => k_is); (case m19 => k_is); (case ic0 => k_is); (case tp0 => k_is); (case ic1 => k_is); (case tp1 => k_is); (case ic2 => k_is); (case tp2 => k_is); (case ic3 => k_is); (case tp3 => k_is); (case ic4 => k_is); (case tp4 => k_is); (case ic5 => k_is); (case tp5 => k_is); (case ic6 => k_is); (case tp6 => k_is); (case ic7 => k_is); (case tp7 => k_is); (case ic8 => k_is); (case tp8 => k_is); (case ic9 => k_is); (case tp9 => k_is); (case ic10 => k_is); (case tp10 => k_is); (case ic11 => k_is); (case tp11 => k_is); (case ic12 => k_is); (case tp12 => k_is); (case ic13 => k_is); (case tp13 => k_is); (case ic14 => k_is); (case tp14 => k_is); (case ic15 => k_is); (case tp15 => k_is); (case ic16 => k_is); (case tp16 => k_is); (case ic17 => k_is); (case tp17 => k_is); (case ic18 => k_is); (case tp18 => k_is); (case ic19 => k_is); (case tp19 => k_is); (case hb0 => k_is); (case kp15 => k_is); (case sb15 => k_is); (case ty15 => k_is); (case x0_15 => k_is); (case x1_15 => k_is); (case x2_15 => k_is); (case x3_15 => k_is); (case x4_15 => k_is); (case x5_15 => k_is); (case x6_15 => k_is); (case x7_15 => k_is); (case fi15 => k_is); (case ba15 => k_is); (case ki15_0 => k_is); (case nq15_0 => exact rfl); (case ki15_1 => k_is); (case nq15_1 => exact rfl); (case ki15_2 => k_is); (case nq15_2 => exact rfl); (case ki15_3 => k_is); (case nq15_3 => exact rfl); (case ki15_4 => k_is); (case nq15_4 => exact rfl); (case ki15_5 => k_is); (case nq15_5 => exact rfl); (case ki15_6 => k_is); (case nq15_6 => exact rfl); (case ki15_7 => k_is); (case nq15_7 => exact rfl); (case ki15_8 => k_is); (case nq15_8 => exact rfl); (case ki15_9 => k_is); (case nq15_9 => exact rfl); (case ki15_10 => k_is); (case ki15_11 => k_is); (case nq15_11 => exact rfl); (case ki15_12 => k_is); (case nq15_12 => exact rfl); (case ki15_13 => k_is); (case nq15_13 => exact rfl); (case ki15_14 => k_is); (case ki15_15 => k_is); (case nq15_15 => exact rfl); (case ki15_16 => k_is); (case nq15_16 => exact rfl); (case ki15_17 => k_is); (case nq15_17 => exact rfl); (case ki15_18 => k_is); (case nq15_18 => exact rfl); (case nl15 => k_is); (case np15 => k_is); (case yi => k_is); (case yl => k_is); (case yc => k_is); (case yq1 => exact rfl); (case yq2 => exact rfl); (case yT => k_is); (case yd => k_is); (case ye => exact rfl); (case yf => decide +kernel); (case yg => k_is); (case yy => k_is); (case yfn => k_is); (case yj => k_is); (case yk => decide +kernel); (case ym => k_is); (case yx15 => kx_is); (case yo15 => kx_is); (case ys15 => k_is); (case yt15 => k_is); (case yv15 => k_is); (case yw15 => ks_is); (case yr15 => k_is); (case yn15 => k_is); (case yz15 => k_is); (case yza15 => exact rfl); (case yzb15 => decide +kernel); (case yzc15 => decide +kernel); (case wi => k_is); (case wl => k_is); (case wc => k_is); (case wq => exact rfl); (case wd => k_is); (case we => exact rfl); (case wf => decide +kernel); (case wg => k_is); (case wh => k_is); (case wj => k_is); (case wk => decide +kernel); (case wm => k_is); (case wn => k_is); (case wi15 => k_is); (case wx15 => kx_is); (case wo15 => kx_is); (case ws15 => k_is); (case wt15 => k_is); (case wu15 => k_is); (case wv15 => k_is); (case ww15 => ks_is); (case jmAstray => k_is); (case jiAstray => k_is); (case jxAstray => kx_is); (case joAstray => kx_is); (case jsAstray => k_is); (case jtAstray => k_is); (case jdAstray => k_is); (case jyAstray => k_is); (case jlAstray => k_is); (case jcAstray => k_is); (case jqAstray => exact rfl); (case jkAstray => k_is); (case jvAstray => exact rfl); (case jfAstray => decide +kernel); (case jgAstray => k_is); (case jhAstray => k_is); (case juAstray => k_is); (case jwAstray => ks_is); (case jzAstray => k_is); (case kpAstray => k_is); (case sbAstray => k_is); (case tyAstray => k_is); (case gaAstray => k_is); (case ggAstray => k_is); (case pnAstray => k_is); (case ssAstray => k_is); (case z0 => k_is); (case z1 => k_is); (case z2 => k_is); (case z3 => k_is); (case z4 => k_is); (case z5 => k_is); (case z6 => k_is); (case z7 => k_is); (case z8 => k_is); (case z9 => k_is); (case z10 => k_is); (case z11 => k_is); (case z12 => k_is); (case z13 => k_is); (case v0 => k_is); (case v1 => k_is); (case v2 => k_is); (case v3 => k_is)

