import PyProof.Rows.All
import Wide.All
import OpenK.AllK
import Wide.FinOn
import HandS.ForMost
import HandS.Walk
import HandS.IsInst
import HandS.TupAny
import KE.KTupSum
import HandS.StrMore
import HandS.FStr
import PyProof.Rows.StrIntSpec
import PyProof.FString3
import KE.KxField
import KE.GoesMore
import HandS.MapJoin
import HandS.Style
import HandS.Codes
import HandS.Deep
import HandS.Replace
import HandS.ForExc
import HandS.ExcIs
import HandS.ReplaceLit
import PyProof.ToksMono
import HandS.ReplaceList
import HandS.ReplaceDef
import PySem.Challenge.RW_letterhouse_k15_people_written
set_option Elab.async false
set_option linter.all false
set_option maxRecDepth 100000
namespace LH
open PySem PySem.Spec PyProof.Rows L2
/-! ### heaps -/
theorem same_upd {H : Hp} {p : Addr} {o : HO} (h : H p = none) : Same H (upd H p o) := fun b x e => by
  rw [upd_ne (ne_of_none e h)]
  exact e
theorem seqT {K : PySem.W.Frag} {H H' : Hp} {a : Addr} {xs : List V} (e : Same H H') (h : SqT K H a xs) : SqT K H' a xs := by
  rcases h with (h | ⟨o, h⟩) | h
  · exact .inl (.inl (e _ _ h))
  · exact .inl (.inr ⟨o, e _ _ h⟩)
  · exact .inr h
/-- a list that is told new, in a heap that keeps all that stood -/
def New (H : Hp) (xs : List V) (Q : VK) : Prop := ∀ H' p, Same H H' → H p = none → H' p = some (.lst xs) → Q (.ref p) H'
/-- a value that is told in a heap that keeps all that stood -/
def Tell (H : Hp) (v : V) (Q : VK) : Prop := ∀ H', Same H H' → Q v H'
/-! ### a comprehension over anything that yields xs 0 .. xs (n - 1), its element f i -/
theorem lc_pure {J : It} {n : Nat} {G : Hp → Prop} {te : TE} {c : Nat} {σ : L2.St} {H1 : Hp} {D : Addr} {Qd : Hp → Prop} (xs f : Nat → V) (w : Walk J n G (YFn xs)) (hG : ∀ H, Same H1 H → G H) (hD : H1 D = none) (hn : n ≤ sizeLine)
    (he : ∀ i H Q, i < n → Same H1 H → Tell H (f i) Q → te ((σ.set c none).set c (some (xs i))) H Q)
    (hd : ∀ H, Same H1 H → H D = some (.lst ((List.range n).map f)) → Qd H) :
    ∃ W : Nat → Nat → Hp → Prop, (∃ m, W 0 m (upd H1 D (.lst []))) ∧ ∀ i m H, W i m H →
      (J.stop i H ∧ Qd H) ∨ (J.go i H ∧ ∃ Nx : Hp → Prop, (∀ H', Nx H' → ∃ m', m' < m ∧ W (i + 1) m' H') ∧ ∀ x H', J.yld i H x H' → gName c x (wipe σ [c]) H' fun σ2 H2 => wipe σ2 [c] = wipe σ [c] ∧ tYes σ2 H2 fun b H3 =>
        if b = true then te σ2 H3 fun y H4 => ∃ acc, H4 D = some (.lst acc) ∧ acc.length < sizeLine ∧ Nx (upd H4 D (.lst (acc ++ [y]))) else Nx H3) := by
  refine lc_it w (fun i H => Same H1 H ∧ H D = some (.lst ((List.range i).map f))) ⟨same_upd hD, upd_same⟩ (fun i H _ h => hG H h.1) (fun i x H H' hi hP hy => ?_) (fun H h => hd H h.1 h.2)
  obtain ⟨sm, eD⟩ := hP
  obtain ⟨rfl, rfl⟩ := hy
  refine ⟨?_, ?_⟩
  rotate_left
  · show (if true = true then te ((σ.set c none).set c (some (xs i))) H' fun y H4 => ∃ acc, H4 D = some (.lst acc) ∧ acc.length < sizeLine ∧ Same H1 (upd H4 D (.lst (acc ++ [y]))) ∧ upd H4 D (.lst (acc ++ [y])) D = some (.lst ((List.range (i + 1)).map f)) else (Same H1 H' ∧ H' D = some (.lst ((List.range (i + 1)).map f))))
    rw [if_pos rfl]
    refine he i H' _ hi sm fun H2 s2 => ⟨_, s2 _ _ eD, ?_, ?_, ?_⟩
    · rw [List.length_map, List.length_range]
      omega
    · intro b o hb
      rw [upd_ne (ne_of_none hb hD)]
      exact s2 _ _ (sm _ _ hb)
    · rw [upd_same, List.range_succ, List.map_append]
      rfl
  · show (((σ.set c none).set c (some (xs i))).set c none) = σ.set c none
    rw [List.set_set, List.set_set]
/-! ### a def as its callers see it -/
structure Def (P : Program) (w : World) (K : PySem.W.Frag) (mg : Str → Option Value) (base : Heap) (x : Str) (k : Nat) (f : Addr) (fd : FuncData) (ps : List Str) (sp : Sp) : Prop where
  ok : FnOk P w K mg base CX0 k f fd ps sp
  mg : mg x = some (.ref f)
  kp : PySem.W.keepIn K (.ref f) = true
  bd : Binds K fd ps []
section
variable {X : Cx} {x : Str} {k j : Nat} {f : Addr} {fd : FuncData} {ps : List Str} {sp : Sp} {e : Expr} {es : List Expr} {t : TA} {p pos : Pos}
theorem pe_def (D : Def X.prog X.w X.K X.mg X.base x k f fd ps sp) (hr : Room k X.A) (ha : PA X (e :: es) t) (hg : Gl X x := by rfl) (hdb : (x == ("__debug__" : Str)) = false := by decide)
    (he : starEach (e :: es) X.env = (false, eval e X.env) :: starEach es X.env := by rfl) (hpl : (backTo pos (starEach es X.env)).any (·.1) = false := by rfl) : PE X (.Call (.Name x p) (e :: es) [] pos) (tCall sp [] E0 t) :=
  pe_call D.ok hr hg D.mg D.kp D.bd .nil pass0 ha hdb he hpl
theorem pe_def0 (D : Def X.prog X.w X.K X.mg X.base x k f fd ps sp) (hr : Room k X.A) (hg : Gl X x := by rfl) (hdb : (x == ("__debug__" : Str)) = false := by decide) : PE X (.Call (.Name x p) [] [] pos) (tCall sp [] E0 tNil) :=
  pe_call0 D.ok hr hg D.mg D.kp D.bd .nil pass0 hdb
end
/-! ### a text times a number -/
section
variable {X : Cx}
def repS (x : Str) (n : Int) : Str := ⟨(List.replicate n.toNat x.cps.toList).flatten.toArray⟩
theorem foldl_app (l : List (Array Nat)) : ∀ a : Array Nat, (l.foldl (· ++ ·) a).toList = a.toList ++ (l.map (·.toList)).flatten := by
  induction l with
  | nil => intro a; simp
  | cons x r ih => intro a; simp [ih]
theorem mul_rep (x : Str) (n : Int) : Txt.mul x n = repS x n := by
  unfold Txt.mul repS
  by_cases h : n < 1
  · rw [if_pos h, show n.toNat = 0 by omega]
    rfl
  · rw [if_neg h]
    by_cases h2 : (n == 1 || x.length == 0) = true
    · rw [if_pos h2]
      refine TL.ext_tl ?_
      show x.cps.toList = (List.replicate n.toNat x.cps.toList).flatten
      rcases (Bool.or_eq_true _ _).mp h2 with e | e
      · have : n = 1 := eq_of_beq e
        subst this
        simp
      · have : x.cps.toList = [] := by
          have e' : x.length = 0 := eq_of_beq e
          have e3 : x.cps.toList.length = 0 := by simpa [Str.length] using e'
          exact List.length_eq_zero_iff.mp e3
        rw [this]
        simp
    · rw [if_neg h2]
      refine TL.ext_tl ?_
      show ((List.replicate n.toNat x.cps).foldl (· ++ ·) #[]).toList = (List.replicate n.toNat x.cps.toList).flatten
      rw [foldl_app]
      simp
theorem op_mul_str : OpR X (binaryOp .Mult) (fun x y H Q => ∃ z n, x = .str z ∧ y = .int n ∧ -(2 ^ 63) ≤ n ∧ n ≤ 4096 ∧ z.length ≤ 4096 ∧ Q (.str (repS z n)) H) := by
  intro pins s σ H x y v u Q I rx ry h
  obtain ⟨z, n, rfl, rfl, h0, h1, h2, q⟩ := h
  obtain ⟨t, rfl⟩ := rx
  obtain ⟨t', rfl⟩ := ry
  refine SB.mul (mulOk_of 4096 4096 h2 (by exact_mod_cast h1) h0 (by decide) (by decide)) fun t2 k => ?_
  rw [mul_rep]
  exact ⟨.str (repS z n), H, I.tok _, ⟨_, rfl⟩, q⟩
end
/-! ### chunks -/
def chunks {α : Type} (k : Nat) (t : List α) : List (List α) := (List.range ((t.length + (k - 1)) / k)).map fun i => (t.drop (i * k)).take k
theorem chunks_nil {α : Type} {k : Nat} (hk : 0 < k) : chunks k ([] : List α) = [] := by
  unfold chunks
  rw [show (([] : List α).length + (k - 1)) / k = 0 from Nat.div_eq_of_lt (by simp; omega)]
  rfl
theorem chunks_cons {α : Type} {k : Nat} (hk : 0 < k) {t : List α} (ht : t ≠ []) : chunks k t = t.take k :: chunks k (t.drop k) := by
  unfold chunks
  have hl : 0 < t.length := List.length_pos_iff.mpr ht
  have e : (t.length + (k - 1)) / k = ((t.drop k).length + (k - 1)) / k + 1 := by
    rw [List.length_drop]
    by_cases h : t.length ≤ k
    · rw [show t.length - k = 0 by omega, show (0 + (k - 1)) / k = 0 from Nat.div_eq_of_lt (by omega)]
      exact Nat.div_eq_of_lt_le (by omega) (by omega)
    · rw [show t.length + (k - 1) = (t.length - k + (k - 1)) + k by omega, Nat.add_div_right _ hk]
  rw [e, List.range_succ_eq_map, List.map_cons, List.map_map]
  congr 1
  · simp
  · refine List.map_congr_left fun i _ => ?_
    show (t.drop ((i + 1) * k)).take k = ((t.drop k).drop (i * k)).take k
    rw [List.drop_drop, Nat.succ_mul, Nat.add_comm]
/-! ### slices and ranges -/
theorem cutS_at (z : Str) (a b : Nat) : cutS z (some (a : Int)) (some (b : Int)) = ⟨((TL.tl z).drop a |>.take (b - a)).toArray⟩ := by
  unfold cutS
  rw [HT.sIx_nat, HT.sIx_nat]
  refine TL.ext_tl ?_
  show ((TL.tl z).drop (min a z.length)).take (min b z.length - min a z.length) = ((TL.tl z).drop a).take (b - a)
  have hz : z.length = (TL.tl z).length := TL.len_tl z
  rw [hz]
  generalize TL.tl z = l
  by_cases h : a ≤ l.length
  · rw [Nat.min_eq_left h]
    by_cases h2 : b ≤ l.length
    · rw [Nat.min_eq_left h2]
    · rw [Nat.min_eq_right (by omega), List.take_of_length_le (by rw [List.length_drop]; omega), List.take_of_length_le (by rw [List.length_drop]; omega)]
  · have h' : l.length ≤ a := by omega
    rw [Nat.min_eq_right h', List.drop_of_length_le (Nat.le_refl _), List.drop_of_length_le h']
    simp
theorem cutV_at (z : List V) (a b : Nat) : cutV z (some (a : Int)) (some (b : Int)) = (z.drop a).take (b - a) := by
  unfold cutV
  rw [HT.sIx_nat, HT.sIx_nat]
  by_cases h : a ≤ z.length
  · rw [Nat.min_eq_left h]
    by_cases h2 : b ≤ z.length
    · rw [Nat.min_eq_left h2]
    · rw [Nat.min_eq_right (by omega), List.take_of_length_le (by rw [List.length_drop]; omega), List.take_of_length_le (by rw [List.length_drop]; omega)]
  · have h' : z.length ≤ a := by omega
    rw [Nat.min_eq_right h', List.drop_of_length_le (Nat.le_refl _), List.drop_of_length_le h']
    simp
theorem cutV_to (z : List V) (b : Nat) : cutV z none (some (b : Int)) = z.take b := by
  unfold cutV
  rw [HT.sIx_nat, HT.sIx_none]
  by_cases h2 : b ≤ z.length
  · rw [Nat.min_eq_left h2]; simp
  · rw [Nat.min_eq_right (by omega), List.take_of_length_le (by simp), List.take_of_length_le (by omega)]; simp
theorem cutS_to (z : Str) (b : Nat) : cutS z none (some (b : Int)) = ⟨((TL.tl z).take b).toArray⟩ := by
  have := cutS_at z 0 b
  have e : cutS z none (some (b : Int)) = cutS z (some ((0 : Nat) : Int)) (some (b : Int)) := by
    unfold cutS
    rw [HT.sIx_none, HT.sIx_nat, HT.sIx_nat, Nat.zero_min]
  rw [e, this]
  simp
theorem cutS_from (z : Str) (a : Nat) : cutS z (some (a : Int)) none = ⟨((TL.tl z).drop a).toArray⟩ := by
  have e : cutS z (some (a : Int)) none = cutS z (some (a : Int)) (some ((z.length : Nat) : Int)) := by
    unfold cutS
    rw [HT.sIx_none, HT.sIx_nat, HT.sIx_nat]
    simp
  rw [e, cutS_at, TL.len_tl, List.take_of_length_le (by simp)]
theorem rgC (n k : Nat) (hk : 0 < k) (hk2 : k < 1000) (hn : n < 2 ^ 40) : RgC 0 (n : Int) (k : Int) ((n + (k - 1)) / k) := by
  refine ⟨by omega, by omega, ?_, ?_⟩
  · have e := rangeSize_pos (len := (n : Int)) (c := (k : Int)) (by omega) (by omega)
    have q : ((n : Int) + (k : Int) - 1) / (k : Int) ≤ (n : Int) + (k : Int) - 1 := Int.ediv_le_self _ (by omega)
    have q0 : 0 ≤ ((n : Int) + (k : Int) - 1) / (k : Int) := Int.ediv_nonneg (by omega) (by omega)
    unfold Builtin.Range.small
    rw [e]
    simp only [Builtin.Range.rangeFitsLong, Bool.and_eq_true, Bool.or_eq_true, decide_eq_true_eq, beq_iff_eq, show ((k : Int) > 0) by omega, if_true]
    have p1 : (0:Int) < 2 ^ 63 := by decide
    omega
  · rw [rangeSize_pos (by omega) (by omega)]
    rw [show (n : Int) + (k : Int) - 1 = ((n + (k - 1) : Nat) : Int) by omega]
    exact (Int.natCast_ediv _ _).symm
end LH
namespace LH
open PySem PySem.Spec PyProof.Rows L2
theorem walk_listF {K : PySem.W.Frag} {a : Addr} {xs : List V} : Walk (Itl K a) xs.length (fun H => SqL K H a xs) (YFn fun i => xs.getD i .non) :=
  walk_list.mono (fun _ h => h) fun i H x H' hi _ y => ⟨y.1, by show x = xs.getD i .non; rw [List.getD_eq_getElem?_getD, y.2]; rfl⟩
theorem walk_tupF {K : PySem.W.Frag} {a : Addr} {xs : List V} : Walk (Itt K a) xs.length (fun H => SqT K H a xs) (YFn fun i => xs.getD i .non) :=
  walk_tup.mono (fun _ h => h) fun i H x H' hi _ y => ⟨y.1, by show x = xs.getD i .non; rw [List.getD_eq_getElem?_getD, y.2]; rfl⟩
theorem getD_map_int (bs : List Int) (i : Nat) (h : i < bs.length) : (bs.map V.int).getD i .non = .int (bs.getD i 0) := by
  rw [List.getD_eq_getElem?_getD, List.getElem?_map, List.getElem?_eq_getElem h, List.getD_eq_getElem?_getD, List.getElem?_eq_getElem h]
  rfl
theorem range_getD {α : Type} (xs : List α) (d : α) : (List.range xs.length).map (fun i => xs.getD i d) = xs := by
  apply List.ext_getElem?
  intro i
  rw [List.getElem?_map]
  by_cases h : i < xs.length
  · rw [List.getElem?_range h]
    show some (xs.getD i d) = _
    rw [List.getD_eq_getElem?_getD, List.getElem?_eq_getElem h]
    rfl
  · rw [List.getElem?_eq_none (by rw [List.length_range]; omega), List.getElem?_eq_none (by omega)]
    rfl
section
variable {X : Cx}
theorem ixL (K : PySem.W.Frag) (h : X.K = K := by rfl) : IxR X (rIxL K) := h ▸ ix_list
theorem ixT (K : PySem.W.Frag) (h : X.K = K := by rfl) : IxR X (rIxT K) := h ▸ ix_tup
theorem slL (K : PySem.W.Frag) (h : X.K = K := by rfl) : SlR X (rSlL K) := h ▸ sl_list
theorem slT (K : PySem.W.Frag) (h : X.K = K := by rfl) : SlR X (rSlT K) := h ▸ sl_tup
theorem cIsi (K : PySem.W.Frag) (h : X.K = K := by rfl) : CallR X (.builtin "isinstance") (rIsi K) := h ▸ call_isi
def rLenS (K : PySem.W.Frag) : List V → Hp → VK → Prop := fun xs H Q => ∃ p ys, xs = [.ref p] ∧ (SqL K H p ys ∨ SqT K H p ys) ∧ Q (.int ys.length) H
theorem cLen (K : PySem.W.Frag) (h : X.K = K := by rfl) : CallR X (.builtin "len") (rLenS K) := h ▸ call_len_seq
theorem cAll (K : PySem.W.Frag) (h : X.K = K := by rfl) (hc : X.calm = true := by rfl) : CallR X (.builtin "all") (rAll K) := h ▸ cr_all hc
theorem cAny (K : PySem.W.Frag) (h : X.K = K := by rfl) (hc : X.calm = true := by rfl) : CallR X (.builtin "any") (rAny K) := h ▸ cr_any hc
theorem oIn (K : PySem.W.Frag) (h : X.K = K := by rfl) : OpR X (compareOp .In) (rIn K false) := h ▸ op_in_seq
theorem oNotIn (K : PySem.W.Frag) (h : X.K = K := by rfl) : OpR X (compareOp .NotIn) (rIn K true) := h ▸ op_notIn_seq
theorem oEqD (K : PySem.W.Frag) (hu : X.A.units + 64 < cLine) (h : X.K = K := by rfl) : OpR X (compareOp .Eq) (rEqD K) := h ▸ op_eqD hu
theorem oNeD (K : PySem.W.Frag) (hu : X.A.units + 64 < cLine) (h : X.K = K := by rfl) : OpR X (compareOp .NotEq) (rNeD K) := h ▸ op_neD hu
end
end LH
namespace LH
open PySem PySem.Spec PyProof.Rows L2
/-! ### data: flat lists compared -/
def OkS (x : Str) : Prop := ∀ c ∈ TL.tl x, c < 1114112
theorem strOk_of (x : Str) (h : OkS x) : PyData.strOk x = true := by
  unfold PyData.strOk
  rw [Array.all_eq_true']
  intro c hc
  exact decide_eq_true (h c (Array.mem_toList_iff.mpr hc))
theorem dpAll_ints {K : PySem.W.Frag} {H : Hp} : ∀ bs : List Int, DpAll K H (bs.map V.int) (bs.map PyData.int)
  | [] => .nil
  | b :: r => .cons (.int b) (dpAll_ints r)
theorem dpAll_strs {K : PySem.W.Frag} {H : Hp} : ∀ bs : List Str, DpAll K H (bs.map V.str) (bs.map PyData.str)
  | [] => .nil
  | b :: r => .cons (.str b) (dpAll_strs r)
theorem dp_ints {K : PySem.W.Frag} {H : Hp} {a : Addr} {bs : List Int} (h : SqL K H a (bs.map V.int)) : Dp K H (.ref a) (.list (bs.map PyData.int)) := .lst h (dpAll_ints bs)
theorem dp_strs {K : PySem.W.Frag} {H : Hp} {a : Addr} {bs : List Str} (h : SqL K H a (bs.map V.str)) : Dp K H (.ref a) (.list (bs.map PyData.str)) := .lst h (dpAll_strs bs)
theorem lay_strs : ∀ bs : List Str, (∀ x ∈ bs, OkS x) → PyData.canLayAll0 (bs.map PyData.str) = true
  | [], _ => by simp [PyData.canLayAll0]
  | b :: r, h => by simp [PyData.canLayAll0, PyData.canLay0, strOk_of b (h b (by simp)), lay_strs r fun x hx => h x (by simp [hx])]
theorem depth_strs : ∀ bs : List Str, PyData.depthAll (bs.map PyData.str) = 0
  | [] => rfl
  | _ :: r => by simp [PyData.depthAll, PyData.depth, depth_strs r]
theorem shaped_strs (bs : List Str) (h : ∀ x ∈ bs, OkS x) : SeqAt.shaped (.list (bs.map PyData.str)) = true := by
  simp [SeqAt.shaped, PyData.canLay0, PyData.depth, lay_strs bs h, depth_strs]
theorem shaped_intsL (bs : List Int) : SeqAt.shaped (.list (bs.map PyData.int)) = true := PySem.W.ke_shaped_ints bs
theorem eqv_ints : ∀ bs cs : List Int, PyData.eqvAll (bs.map PyData.int) (cs.map PyData.int) = decide (bs = cs)
  | [], [] => by simp [PyData.eqvAll]
  | [], _ :: _ => by simp [PyData.eqvAll]
  | _ :: _, [] => by simp [PyData.eqvAll]
  | b :: r, c :: q => by
    rw [List.map_cons, List.map_cons, PyData.eqvAll, PyData.eqv, eqv_ints r q]
    by_cases h : b = c <;> simp [h]
theorem eqv_strs : ∀ bs cs : List Str, PyData.eqvAll (bs.map PyData.str) (cs.map PyData.str) = decide (bs = cs)
  | [], [] => by simp [PyData.eqvAll]
  | [], _ :: _ => by simp [PyData.eqvAll]
  | _ :: _, [] => by simp [PyData.eqvAll]
  | b :: r, c :: q => by
    rw [List.map_cons, List.map_cons, PyData.eqvAll, PyData.eqv, eqv_strs r q]
    by_cases h : b = c <;> simp [h]
theorem eqv_intsL (bs cs : List Int) : PyData.eqv (.list (bs.map PyData.int)) (.list (cs.map PyData.int)) = decide (bs = cs) := by rw [PyData.eqv, eqv_ints]
theorem eqv_strsL (bs cs : List Str) : PyData.eqv (.list (bs.map PyData.str)) (.list (cs.map PyData.str)) = decide (bs = cs) := by rw [PyData.eqv, eqv_strs]
theorem map_true {α : Type} (l : List α) : (l.map fun _ => true).all id = true := by
  induction l with
  | nil => rfl
  | cons x r ih => simpa using ih
end LH

namespace LH
open PySem PySem.Spec PyProof.Rows L2
/-! ### the sum of a tuple of whole numbers; a slice of a tuple, the whole of it too -/
def rSumT (K : PySem.W.Frag) : List V → Hp → VK → Prop := fun vs H Q => ∃ (a : Addr) (ns : List Int), vs = [V.ref a] ∧ SqT K H a (ns.map V.int) ∧ Q (.int ns.sum) H
theorem cr_sumT {X : Cx} (hc : X.calm = true) : CallR X (.builtin "sum") (rSumT X.K) := by
  intro pins s σ H vs us Q I r h
  obtain ⟨a, ns, rfl, hs, q⟩ := h
  obtain ⟨its, rv, hl, _⟩ := I.tuple hs
  rw [Vals.ref1 r]
  obtain ⟨xs, e⟩ := rv.ints.allInts.items
  have hn : numsOf (intItems xs).toList = ns := by rw [← e]; exact rv.ints.numsOf
  rw [nums_intItems] at hn
  rw [e] at hl
  refine PySem.W.ktm_sumG (I.ok.hd hc) hl fun h' tk t' hk => ?_
  have : preSum (numAt xs) xs.size = ns.sum := by rw [preSum_eq, List.take_of_length_le (by simp), hn]
  rw [this]
  exact ⟨.int _, H, I.kept hk, ⟨_, rfl⟩, q⟩
theorem sumT (K : PySem.W.Frag) {X : Cx} (hc : X.calm = true) (h : X.K = K := by rfl) : CallR X (.builtin "sum") (rSumT K) := h ▸ cr_sumT hc
theorem slA (K : PySem.W.Frag) {X : Cx} (h : X.K = K := by rfl) : SlR X (rSlA K) := h ▸ sl_tupA
end LH

namespace LH
open PySem PySem.Spec PyProof.Rows L2 Builtin Builtin.Str PySem.StrLaws
/-! ### a text of which nothing is left when some signs are taken from its ends -/
theorem has_mem (y : Str) (c : Nat) : y.cps.contains c = decide (c ∈ TL.tl y) := by
  show y.cps.contains c = decide (c ∈ y.cps.toList)
  simp
theorem strip_none (x y : Str) : (Txt.stripChars x y = ⟨#[]⟩) ↔ (TL.tl x).all (fun c => decide (c ∈ TL.tl y)) = true := by
  have hl : x.cps.toList.length = x.length := by simp [Str.length]
  unfold Txt.stripChars
  rw [stripBy_eq]
  obtain ⟨l1, l2, l3⟩ := lo_facts y.cps.contains x
  obtain ⟨h1, h2, h3, h4⟩ := hi_facts y.cps.contains x (stripLo y.cps.contains true x) l1
  generalize stripLo y.cps.contains true x = lo at *
  generalize stripHi y.cps.contains true x lo = hi at *
  have hs : (strSub x lo hi).cps.toList = (x.cps.toList.drop lo).take (hi - lo) := strSub_toList ..
  have hg : ∀ k, k < x.length → (x.cps.getD k 0) ∈ x.cps.toList := fun k hk => by
    rw [← getD_list, List.getD_eq_getElem?_getD, List.getElem?_eq_getElem (by rw [hl]; exact hk)]
    exact List.getElem_mem _
  rw [List.all_eq_true]
  constructor
  · intro e c hc
    have e0 : (x.cps.toList.drop lo).take (hi - lo) = [] := by rw [← hs, e]
    have e1 : hi = lo := by
      have := congrArg List.length e0
      rw [List.length_take, List.length_drop, hl, List.length_nil] at this
      omega
    have hc' : c ∈ x.cps.toList := hc
    obtain ⟨k, hk, e2⟩ := List.getElem_of_mem hc'
    have ek : c = x.cps.getD k 0 := by
      rw [← getD_list, List.getD_eq_getElem?_getD, List.getElem?_eq_getElem hk, ← e2]; rfl
    rw [hl] at hk
    rw [← has_mem, ek]
    by_cases hkl : k < lo
    · exact l2 k hkl
    · exact h3 k (by omega) hk
  · intro ha
    have hb : ∀ k, k < x.length → y.cps.contains (x.cps.getD k 0) = true := fun k hk => by rw [has_mem]; exact ha _ (hg k hk)
    have : lo = x.length := by
      rcases l3 with h | h
      · exact h
      · by_cases hlt : lo < x.length
        · rw [hb lo hlt] at h; cases h
        · omega
    have e : (x.cps.toList.drop lo).take (hi - lo) = [] := by
      apply List.eq_nil_of_length_eq_zero
      rw [List.length_take, List.length_drop, hl]; omega
    apply TL.ext_tl
    show (strSub x lo hi).cps.toList = []
    rw [hs, e]
theorem strip_eq (x y : Str) : decide (V.str (Txt.stripChars x y) = V.str (Str.ofString "")) = (TL.tl x).all (fun c => decide (c ∈ TL.tl y)) := by
  have e0 : (Str.ofString "") = ⟨#[]⟩ := by decide +kernel
  rw [e0]
  by_cases h : (TL.tl x).all (fun c => decide (c ∈ TL.tl y)) = true
  · rw [h, decide_eq_true (congrArg V.str ((strip_none x y).mpr h))]
  · rw [Bool.not_eq_true] at h
    rw [h, decide_eq_false (fun e => by rw [(strip_none x y).mp (V.str.inj e)] at h; cases h)]
end LH

namespace LH
open PySem PySem.Spec PyProof.Rows L2
/-! ### a comprehension with a test -/
theorem lc_filt {J : It} {n : Nat} {G : Hp → Prop} {tt : TT} {te : TE} {c : Nat} {σ : L2.St} {H1 : Hp} {D : Addr} {Qd : Hp → Prop} (xs f : Nat → V) (b : Nat → Bool) (w : Walk J n G (YFn xs)) (hG : ∀ H, Same H1 H → G H) (hD : H1 D = none) (hn : n ≤ sizeLine)
    (ht : ∀ (i : Nat) (H : Hp) (Q : Bool → Hp → Prop), i < n → Same H1 H → (∀ H', Same H H' → Q (b i) H') → tt ((σ.set c none).set c (some (xs i))) H Q)
    (he : ∀ i H Q, i < n → Same H1 H → b i = true → Tell H (f i) Q → te ((σ.set c none).set c (some (xs i))) H Q)
    (hd : ∀ H, Same H1 H → H D = some (.lst (((List.range n).filter b).map f)) → Qd H) :
    ∃ W : Nat → Nat → Hp → Prop, (∃ m, W 0 m (upd H1 D (.lst []))) ∧ ∀ i m H, W i m H →
      (J.stop i H ∧ Qd H) ∨ (J.go i H ∧ ∃ Nx : Hp → Prop, (∀ H', Nx H' → ∃ m', m' < m ∧ W (i + 1) m' H') ∧ ∀ x H', J.yld i H x H' → gName c x (wipe σ [c]) H' fun σ2 H2 => wipe σ2 [c] = wipe σ [c] ∧ tt σ2 H2 fun b H3 =>
        if b = true then te σ2 H3 fun y H4 => ∃ acc, H4 D = some (.lst acc) ∧ acc.length < sizeLine ∧ Nx (upd H4 D (.lst (acc ++ [y]))) else Nx H3) := by
  refine lc_it w (fun i H => Same H1 H ∧ H D = some (.lst (((List.range i).filter b).map f))) ⟨same_upd hD, upd_same⟩ (fun i H _ h => hG H h.1) (fun i x H H' hi hP hy => ?_) (fun H h => hd H h.1 h.2)
  obtain ⟨sm, eD⟩ := hP
  obtain ⟨rfl, rfl⟩ := hy
  refine ⟨?_, ?_⟩
  rotate_left
  · refine ht i H' _ hi sm fun H2 s2 => ?_
    cases hb : b i with
    | true =>
      rw [if_pos rfl]
      refine he i H2 _ hi (sm.trans s2) hb fun H3 s3 => ⟨_, s3 _ _ (s2 _ _ eD), ?_, ?_, ?_⟩
      · rw [List.length_map]
        have := List.length_filter_le b (List.range i)
        rw [List.length_range] at this
        omega
      · intro b' o hb'
        rw [upd_ne (ne_of_none hb' hD)]
        exact s3 _ _ (s2 _ _ (sm _ _ hb'))
      · rw [upd_same, List.range_succ, List.filter_append, List.map_append]
        simp [hb]
    | false =>
      rw [if_neg Bool.false_ne_true]
      refine ⟨sm.trans s2, ?_⟩
      rw [s2 _ _ eD, List.range_succ, List.filter_append, List.map_append]
      simp [hb]
  · show (((σ.set c none).set c (some (xs i))).set c none) = σ.set c none
    rw [List.set_set, List.set_set]
/-! ### the signs of a text -/
theorem walk_strF {z : Str} : Walk (Its z) (TL.tl z).length (fun _ => True) (YFn fun i => .str ⟨#[(TL.tl z).getD i 0]⟩) := by
  have e : (TL.tl z).length = z.cps.size := Array.length_toList
  rw [e]
  refine walk_str.mono (fun _ h => h) fun i H x H' hi _ y => ⟨y.1, ?_⟩
  obtain ⟨_, c, hc, rfl⟩ := y
  show V.str ⟨#[c]⟩ = .str ⟨#[(TL.tl z).getD i 0]⟩
  have : (TL.tl z)[i]? = some c := by rw [← hc]; exact Array.getElem?_toList
  rw [List.getD_eq_getElem?_getD, this]
  rfl
theorem lall_range {α : Type} (l : List α) (d : α) (p : α → Bool) : ((List.range l.length).map fun i => p (l.getD i d)).all id = l.all p := by
  have e : ((List.range l.length).map fun i => p (l.getD i d)) = ((List.range l.length).map fun i => l.getD i d).map p := by rw [List.map_map]; rfl
  rw [e, range_getD, List.all_map]
  rfl
/-! ### one sign's split -/
def splitL (s : Nat) : List Nat → List (List Nat)
  | [] => [[]]
  | c :: r => if c = s then [] :: splitL s r else (c :: (splitL s r).headD []) :: (splitL s r).tail
theorem splitL_ne (s : Nat) (l : List Nat) : splitL s l ≠ [] := by
  cases l with
  | nil => simp [splitL]
  | cons c r => unfold splitL; split <;> simp
theorem splitL_eta (s : Nat) (l : List Nat) : splitL s l = (splitL s l).headD [] :: (splitL s l).tail := by
  cases h : splitL s l with
  | nil => exact absurd h (splitL_ne s l)
  | cons x r => rfl
theorem spl_one (s : Nat) : ∀ (l acc : List Nat), TL.spl [s] 0 acc l = (acc ++ (splitL s l).headD []) :: (splitL s l).tail
  | [], acc => by rw [TL.spl_nil]; simp [splitL]
  | c :: r, acc => by
    by_cases h : c = s
    · subst h
      rw [TL.spl_hit (show TL.pre [c] (c :: r) = true by simp [TL.pre])]
      show acc :: TL.spl [c] 0 [] r = _
      rw [spl_one c r []]
      have e : splitL c (c :: r) = [] :: splitL c r := by
        conv => lhs; unfold splitL
        rw [if_pos rfl]
      rw [e]
      simp only [List.headD_cons, List.tail_cons, List.append_nil, List.nil_append]
      rw [← splitL_eta]
    · rw [TL.spl_miss (show TL.pre [s] (c :: r) = false by simp [TL.pre]; exact h), spl_one s r]
      conv => rhs; unfold splitL
      rw [if_neg h]
      simp
theorem split_tl {x y : Str} {s : Nat} (hy : TL.tl y = [s]) (hs : s < 256) : (Txt.split x y).map TL.tl = splitL s (TL.tl x) := by
  rw [TL.split_spl x y (by rw [hy]; simp) (TL.kind_ok ?_), hy, spl_one, List.nil_append, ← splitL_eta]
  rw [Array.all_eq_true']
  intro c hc
  have : c ∈ TL.tl y := Array.mem_toList_iff.mpr hc
  rw [hy] at this
  exact decide_eq_true (by rw [List.mem_singleton.mp this]; exact hs)
theorem splitL_len (s : Nat) : ∀ l : List Nat, (splitL s l).length ≤ l.length + 1
  | [] => Nat.le_refl _
  | c :: r => by
    have ih := splitL_len s r
    unfold splitL
    split
    · simp only [List.length_cons]; omega
    · have := splitL_eta s r
      have h2 := congrArg List.length this
      simp only [List.length_cons] at h2 ⊢
      omega
theorem splitL_mem (s : Nat) : ∀ (l : List Nat) (w : List Nat), w ∈ splitL s l → ∀ c ∈ w, c ∈ l
  | [], w, h, c, hc => by
    simp [splitL] at h
    rw [h] at hc
    cases hc
  | d :: r, w, h, c, hc => by
    unfold splitL at h
    have e := splitL_eta s r
    split at h
    · rcases List.mem_cons.mp h with rfl | h
      · cases hc
      · exact List.mem_cons_of_mem _ (splitL_mem s r w h c hc)
    · rcases List.mem_cons.mp h with rfl | h
      · rcases List.mem_cons.mp hc with rfl | hc
        · exact List.mem_cons_self
        · exact List.mem_cons_of_mem _ (splitL_mem s r _ (by rw [e]; exact List.mem_cons_self) c hc)
      · exact List.mem_cons_of_mem _ (splitL_mem s r w (by rw [e]; exact List.mem_cons_of_mem _ h) c hc)
theorem splitL_le (s : Nat) : ∀ (l : List Nat) (w : List Nat), w ∈ splitL s l → w.length ≤ l.length
  | [], w, h => by
    simp [splitL] at h
    rw [h]
    exact Nat.le_refl _
  | d :: r, w, h => by
    unfold splitL at h
    have e := splitL_eta s r
    have mem1 : (splitL s r).headD [] ∈ splitL s r := by rw [e]; exact List.mem_cons_self
    have mem2 : ∀ x ∈ (splitL s r).tail, x ∈ splitL s r := fun x hx => by rw [e]; exact List.mem_cons_of_mem _ hx
    split at h
    · rcases List.mem_cons.mp h with rfl | h
      · exact Nat.zero_le _
      · exact Nat.le_succ_of_le (splitL_le s r w h)
    · rcases List.mem_cons.mp h with rfl | h
      · exact Nat.succ_le_succ (splitL_le s r _ mem1)
      · exact Nat.le_succ_of_le (splitL_le s r w (mem2 w h))
theorem mk_len (l : List Nat) : (⟨l.toArray⟩ : Str).length = l.length := by rw [TL.len_tl]
theorem str_eq_iff (x y : Str) : x = y ↔ TL.tl x = TL.tl y := ⟨fun h => by rw [h], TL.ext_tl⟩
end LH
namespace LH
open PySem PySem.Spec PyProof.Rows L2
/-! ### an empty part in a split: a sign at an end, or two side by side -/
def Gap (s : Nat) (l : List Nat) : Prop := ∃ i, l[i]? = some s ∧ (l[i + 1]? = none ∨ l[i + 1]? = some s)
theorem gap_nil (s : Nat) : ¬ Gap s [] := fun ⟨i, h, _⟩ => by simp at h
theorem gap_cons (s c : Nat) (r : List Nat) : Gap s (c :: r) ↔ (c = s ∧ (r = [] ∨ r[0]? = some s)) ∨ Gap s r := by
  constructor
  · rintro ⟨i, h1, h2⟩
    cases i with
    | zero =>
      left
      have : c = s := by simpa using h1
      refine ⟨this, ?_⟩
      rcases h2 with h2 | h2
      · left
        have : r[0]? = none := by simpa using h2
        cases r with
        | nil => rfl
        | cons x r => simp at this
      · right; simpa using h2
    | succ i => exact .inr ⟨i, by simpa using h1, by simpa using h2⟩
  · rintro (⟨rfl, h⟩ | ⟨i, h1, h2⟩)
    · refine ⟨0, by simp, ?_⟩
      rcases h with rfl | h
      · left; rfl
      · right; simpa using h
    · exact ⟨i + 1, by simpa using h1, by simpa using h2⟩
theorem split_head (s : Nat) (l : List Nat) : (splitL s l).headD [] = [] ↔ l = [] ∨ l[0]? = some s := by
  cases l with
  | nil => simp [splitL]
  | cons c r =>
    unfold splitL
    by_cases h : c = s
    · rw [if_pos h]; simp [h]
    · rw [if_neg h]; simp [h]
theorem split_tail (s : Nat) : ∀ l : List Nat, [] ∈ (splitL s l).tail ↔ Gap s l
  | [] => by simp [splitL, gap_nil]
  | c :: r => by
    rw [gap_cons, ← split_tail s r]
    by_cases h : c = s
    · have e : splitL s (c :: r) = [] :: splitL s r := by
        conv => lhs; unfold splitL
        rw [if_pos h]
      rw [e, List.tail_cons, splitL_eta s r, List.mem_cons, eq_comm, split_head]
      simp [h]
    · have e : splitL s (c :: r) = (c :: (splitL s r).headD []) :: (splitL s r).tail := by
        conv => lhs; unfold splitL
        rw [if_neg h]
      rw [e, List.tail_cons]
      simp [h]
theorem split_gap (s : Nat) (l : List Nat) : [] ∈ splitL s l ↔ l = [] ∨ l[0]? = some s ∨ Gap s l := by
  rw [splitL_eta s l, List.mem_cons, eq_comm, split_head, split_tail, or_assoc]
theorem joinL_nil (l : List (List Nat)) : TL.joinL [] l = l.flatten := by
  induction l with
  | nil => rfl
  | cons x r ih =>
    cases r with
    | nil => simp [TL.joinL]
    | cons y r => rw [TL.joinL, ih]; simp
theorem tl_empty : TL.tl (Str.ofString "") = [] := by decide +kernel
theorem tl_join0 (ys : List Str) : TL.tl (Txt.join (Str.ofString "") ys) = (ys.map TL.tl).flatten := by
  rw [TL.join_eq, TL.tl_join, tl_empty, joinL_nil]
theorem flatten_le {α : Type} {k : Nat} : ∀ l : List (List α), (∀ x ∈ l, x.length ≤ k) → l.flatten.length ≤ k * l.length
  | [], _ => Nat.le_refl _
  | x :: r, h => by
    have ih := flatten_le r fun y hy => h y (List.mem_cons_of_mem _ hy)
    have hx := h x (by simp)
    rw [List.flatten_cons, List.length_append, List.length_cons, Nat.mul_succ]
    omega
theorem chunks_len {α : Type} (k : Nat) (t : List α) : (chunks k t).length = (t.length + (k - 1)) / k := by
  unfold chunks
  rw [List.length_map, List.length_range]
theorem sum_len (ys : List Str) : (ys.map (·.length)).sum = ((ys.map TL.tl).flatten).length := by
  rw [List.length_flatten, List.map_map]
  rfl
/-! ### texts and their signs -/
theorem okS_app {x y : Str} (hx : OkS x) (hy : OkS y) : OkS (x ++ y) := fun c hc => by
  rw [TL.tl_append] at hc
  rcases List.mem_append.mp hc with h | h
  · exact hx c h
  · exact hy c h
theorem len_app (x y : Str) : (x ++ y).length = x.length + y.length := by
  rw [TL.len_tl, TL.tl_append, List.length_append, ← TL.len_tl, ← TL.len_tl]
theorem okS_cut {x : Str} (hx : OkS x) (lo hi : Option Int) : OkS (cutS x lo hi) := fun c hc => hx c (List.mem_of_mem_drop (List.mem_of_mem_take hc))
theorem okS_one {c : Nat} (h : c < 1114112) : OkS ⟨#[c]⟩ := fun d hd => by
  have : d = c := by simpa [TL.tl] using hd
  rw [this]; exact h
theorem joinL_mem (S : List Nat) : ∀ (ps : List (List Nat)) (c : Nat), c ∈ TL.joinL S ps → c ∈ S ∨ ∃ p ∈ ps, c ∈ p
  | [], c, h => by cases h
  | [p], c, h => .inr ⟨p, by simp, h⟩
  | p :: q :: r, c, h => by
    rw [TL.joinL] at h
    rcases List.mem_append.mp h with h | h
    · exact .inr ⟨p, by simp, h⟩
    · rcases List.mem_append.mp h with h | h
      · exact .inl h
      · rcases joinL_mem S (q :: r) c h with h | ⟨x, hx, hc⟩
        · exact .inl h
        · exact .inr ⟨x, List.mem_cons_of_mem _ hx, hc⟩
theorem joinL_len (S : List Nat) : ∀ (ps : List (List Nat)), (TL.joinL S ps).length ≤ (ps.map List.length).sum + ps.length * S.length
  | [] => by simp [TL.joinL]
  | [p] => by simp [TL.joinL]
  | p :: q :: r => by
    have ih := joinL_len S (q :: r)
    rw [TL.joinL, List.length_append, List.length_append, List.map_cons, List.sum_cons, List.length_cons, Nat.succ_mul]
    omega
theorem sum_le (k : Nat) : ∀ l : List Nat, (∀ x ∈ l, x ≤ k) → l.sum ≤ l.length * k
  | [], _ => by simp
  | x :: r, h => by
    have ih := sum_le k r fun y hy => h y (List.mem_cons_of_mem _ hy)
    have hx := h x (by simp)
    rw [List.sum_cons, List.length_cons, Nat.succ_mul]
    omega
theorem join_len_le {sep : Str} {ws : List Str} {k n : Nat} (hw : ∀ x ∈ ws, x.length ≤ k) (hn : ws.length ≤ n) : (ws.map (·.length)).sum + ws.length * sep.length ≤ n * (k + sep.length) := by
  have h1 := sum_le k (ws.map (·.length)) fun x hx => by
    obtain ⟨y, hy, rfl⟩ := List.mem_map.mp hx
    exact hw y hy
  rw [List.length_map] at h1
  calc (ws.map (·.length)).sum + ws.length * sep.length ≤ ws.length * k + ws.length * sep.length := Nat.add_le_add_right h1 _
    _ = ws.length * (k + sep.length) := (Nat.mul_add _ _ _).symm
    _ ≤ n * (k + sep.length) := Nat.mul_le_mul_right _ hn
theorem joined_len (sep : Str) (ws : List Str) : (Txt.join sep ws).length ≤ (ws.map (·.length)).sum + ws.length * sep.length := by
  rw [TL.len_tl, TL.join_eq, TL.tl_join]
  refine Nat.le_trans (joinL_len _ _) ?_
  rw [List.map_map, List.length_map, ← TL.len_tl]
  have : (ws.map (List.length ∘ TL.tl)) = ws.map (·.length) := List.map_congr_left fun x _ => (TL.len_tl x).symm
  rw [this]
  exact Nat.le_refl _
theorem okS_join {sep : Str} {ws : List Str} (hs : OkS sep) (hw : ∀ x ∈ ws, OkS x) : OkS (Txt.join sep ws) := fun c hc => by
  rw [TL.join_eq, TL.tl_join] at hc
  rcases joinL_mem _ _ c hc with h | ⟨p, hp, hc⟩
  · exact hs c h
  · obtain ⟨x, hx, rfl⟩ := List.mem_map.mp hp
    exact hw x hx c hc
/-- lists of truth values compared -/
theorem dpAll_bls {K : PySem.W.Frag} {H : Hp} : ∀ bs : List Bool, DpAll K H (bs.map V.bl) (bs.map PyData.bool)
  | [] => .nil
  | b :: r => .cons (.bl b) (dpAll_bls r)
theorem dp_bls {K : PySem.W.Frag} {H : Hp} {a : Addr} {bs : List Bool} (h : SqL K H a (bs.map V.bl)) : Dp K H (.ref a) (.list (bs.map PyData.bool)) := .lst h (dpAll_bls bs)
theorem lay_bls : ∀ bs : List Bool, PyData.canLayAll0 (bs.map PyData.bool) = true
  | [] => by simp [PyData.canLayAll0]
  | b :: r => by simp [PyData.canLayAll0, PyData.canLay0, lay_bls r]
theorem depth_bls : ∀ bs : List Bool, PyData.depthAll (bs.map PyData.bool) = 0
  | [] => rfl
  | _ :: r => by simp [PyData.depthAll, PyData.depth, depth_bls r]
theorem shaped_bls (bs : List Bool) : SeqAt.shaped (.list (bs.map PyData.bool)) = true := by
  simp [SeqAt.shaped, PyData.canLay0, PyData.depth, lay_bls bs, depth_bls]
theorem eqv_bls : ∀ bs cs : List Bool, PyData.eqvAll (bs.map PyData.bool) (cs.map PyData.bool) = decide (bs = cs)
  | [], [] => by simp [PyData.eqvAll]
  | [], _ :: _ => by simp [PyData.eqvAll]
  | _ :: _, [] => by simp [PyData.eqvAll]
  | b :: r, c :: q => by
    rw [List.map_cons, List.map_cons, PyData.eqvAll, PyData.eqv, eqv_bls r q]
    by_cases h : b = c <;> simp [h]
theorem eqv_blsL (bs cs : List Bool) : PyData.eqv (.list (bs.map PyData.bool)) (.list (cs.map PyData.bool)) = decide (bs = cs) := by rw [PyData.eqv, eqv_bls]
theorem lat_of {α : Type} {xs : List α} {z : Int} {j : Nat} {v : α} (e : z = (j : Int)) (h : xs[j]? = some v) : atI xs z = some v := by
  rw [e]
  exact atI_nat h
theorem getD_str (ws : List Str) (i : Nat) (hi : i < ws.length) : (ws.map V.str).getD i .non = .str (ws.getD i Str.empty) := by
  rw [List.getD_eq_getElem?_getD, List.getElem?_map, List.getElem?_eq_getElem hi, List.getD_eq_getElem?_getD, List.getElem?_eq_getElem hi]
  rfl
end LH
namespace LH
open PySem PySem.Spec PyProof.Rows L2
/-! ### and, or of values, each part told by its truth -/
theorem andV {ta tb : TE} {σ : L2.St} {H : Hp} {Q : VK} (c d : Bool) (ha : ∀ Q' : VK, Tell H (.bl c) Q' → ta σ H Q') (hb : c = true → ∀ (H1 : Hp) (Q' : VK), Same H H1 → Tell H1 (.bl d) Q' → tb σ H1 Q') (q : Tell H (.bl (c && d)) Q) : tAndV ta tb σ H Q := by
  refine ha _ fun H1 s1 => ⟨c, rfl, ?_⟩
  cases c with
  | true => exact iteT (hb rfl H1 Q s1 fun H2 s2 => q H2 (s1.trans s2))
  | false => exact iteF (q H1 s1)
theorem orV {ta tb : TE} {σ : L2.St} {H : Hp} {Q : VK} (c d : Bool) (ha : ∀ Q' : VK, Tell H (.bl c) Q' → ta σ H Q') (hb : c = false → ∀ (H1 : Hp) (Q' : VK), Same H H1 → Tell H1 (.bl d) Q' → tb σ H1 Q') (q : Tell H (.bl (c || d)) Q) : tOrV ta tb σ H Q := by
  refine ha _ fun H1 s1 => ⟨c, rfl, ?_⟩
  cases c with
  | true => exact iteT (q H1 s1)
  | false => exact iteF (hb rfl H1 Q s1 fun H2 s2 => q H2 (s1.trans s2))
/-- two blanks side by side -/
def dbl (s : Nat) (l : List Nat) : Bool := (List.range l.length).any fun i => decide (l[i]? = some s) && decide (l[i + 1]? = some s)
theorem dbl_iff (s : Nat) (l : List Nat) : dbl s l = true ↔ ∃ i, l[i]? = some s ∧ l[i + 1]? = some s := by
  unfold dbl
  rw [List.any_eq_true]
  constructor
  · rintro ⟨i, _, h⟩
    rw [Bool.and_eq_true, decide_eq_true_eq, decide_eq_true_eq] at h
    exact ⟨i, h⟩
  · rintro ⟨i, h1, h2⟩
    refine ⟨i, List.mem_range.mpr (List.getElem?_eq_some_iff.mp h1).1, ?_⟩
    rw [Bool.and_eq_true, decide_eq_true_eq, decide_eq_true_eq]
    exact ⟨h1, h2⟩
theorem take2 (s : Nat) : ∀ (l : List Nat) (i : Nat), (l.drop i).take 2 = [s, s] ↔ l[i]? = some s ∧ l[i + 1]? = some s
  | [], i => by simp
  | c :: r, 0 => by cases r <;> simp
  | c :: r, i + 1 => by simpa using take2 s r i
theorem in_two {x y : Str} {s : Nat} (hy : TL.tl y = [s, s]) : (!(Builtin.Str.occurrences x y 0 x.length 1).isEmpty) = dbl s (TL.tl x) := by
  rw [Bool.eq_iff_iff, PySem.StrLaws.found_iff, dbl_iff]
  have hyl : y.length = 2 := by rw [TL.len_tl, hy]; rfl
  constructor
  · rintro ⟨i, h1, h2⟩
    rw [PySem.StrLaws.subAt_eq, hyl] at h2
    exact ⟨i, (take2 s _ i).mp ((eq_of_beq h2).trans hy)⟩
  · rintro ⟨i, h⟩
    have hl := (List.getElem?_eq_some_iff.mp h.2).1
    refine ⟨i, by rw [hyl, TL.len_tl]; omega, ?_⟩
    rw [PySem.StrLaws.subAt_eq, hyl]
    refine beq_iff_eq.mpr ?_
    rw [show x.cps.toList = TL.tl x from rfl, (take2 s _ i).mpr h]
    exact hy.symm
theorem take1 (s : Nat) (l : List Nat) : l.take 1 = [s] ↔ l[0]? = some s := by cases l <;> simp
theorem dropL (s : Nat) (l : List Nat) : l.drop (l.length - 1) = [s] ↔ ∃ i, l[i]? = some s ∧ l[i + 1]? = none := by
  constructor
  · intro h
    refine ⟨l.length - 1, ?_, ?_⟩
    · have := congrArg (fun m : List Nat => m[0]?) h
      simpa using this
    · rw [List.getElem?_eq_none_iff]; omega
  · rintro ⟨i, h1, h2⟩
    obtain ⟨hl, e⟩ := List.getElem?_eq_some_iff.mp h1
    have hl2 := List.getElem?_eq_none_iff.mp h2
    have : i = l.length - 1 := by omega
    subst this
    rw [List.drop_eq_getElem_cons hl, e, List.drop_of_length_le (by omega)]
theorem blanks_iff (s : Nat) (l : List Nat) (h0 : l ≠ []) : (decide (l.take 1 = [s]) || (decide (l.drop (l.length - 1) = [s]) || dbl s l)) = decide ([] ∈ splitL s l) := by
  rw [Bool.eq_iff_iff, Bool.or_eq_true, Bool.or_eq_true, decide_eq_true_eq, decide_eq_true_eq, dbl_iff, decide_eq_true_eq, split_gap, take1, dropL]
  constructor
  · rintro (h | ⟨i, h1, h2⟩ | ⟨i, h1, h2⟩)
    · exact .inr (.inl h)
    · exact .inr (.inr ⟨i, h1, .inl h2⟩)
    · exact .inr (.inr ⟨i, h1, .inr h2⟩)
  · rintro (h | h | ⟨i, h1, h2 | h2⟩)
    · exact absurd h h0
    · exact .inl h
    · exact .inr (.inl ⟨i, h1, h2⟩)
    · exact .inr (.inr ⟨i, h1, h2⟩)
theorem cutS_last (z : Str) : TL.tl (cutS z (some (-1)) none) = (TL.tl z).drop ((TL.tl z).length - 1) := by
  unfold cutS
  rw [HT.sIx_none]
  have e : HT.sIx z.length 0 (some (-1)) = z.length - 1 := by
    show (if (-1 : Int) < 0 then (-1 + ((z.length : Nat) : Int)).toNat else min (-1 : Int).toNat z.length) = _
    rw [if_pos (by decide)]
    omega
  rw [e]
  show ((TL.tl z).drop (z.length - 1)).take (z.length - (z.length - 1)) = _
  rw [TL.len_tl]
  exact List.take_of_length_le (by rw [List.length_drop]; exact Nat.le_refl _)
end LH
namespace LH
open PySem PySem.Spec PyProof.Rows L2
theorem pickL {α : Type} (xs : List α) (m : Int) (h0 : 0 ≤ m) (h1 : m < xs.length) : ∃ x, x ∈ xs ∧ atI xs m = some x := by
  obtain ⟨j, rfl⟩ : ∃ j : Nat, m = (j : Int) := ⟨m.toNat, by omega⟩
  have hj : j < xs.length := by omega
  exact ⟨xs[j], List.getElem_mem hj, atI_nat (List.getElem?_eq_getElem hj)⟩
/-- a thing that is no text -/
def Odd (H : Hp) (x : V) : Prop := x = .non ∨ (∃ i, x = .int i) ∨ (∃ b, x = .bl b) ∨ ∃ a, x = .ref a ∧ ((∃ xs, H a = some (.lst xs)) ∨ (∃ xs, H a = some (.tup xs)) ∨ ∃ kvs, H a = some (.dK kvs))
theorem Odd.same {H H' : Hp} {x : V} (s : Same H H') (h : Odd H x) : Odd H' x := by
  rcases h with h | h | h | ⟨a, e, h⟩
  · exact .inl h
  · exact .inr (.inl h)
  · exact .inr (.inr (.inl h))
  · refine .inr (.inr (.inr ⟨a, e, ?_⟩))
    rcases h with ⟨xs, h⟩ | ⟨xs, h⟩ | ⟨xs, h⟩
    · exact .inl ⟨xs, s _ _ h⟩
    · exact .inr (.inl ⟨xs, s _ _ h⟩)
    · exact .inr (.inr ⟨xs, s _ _ h⟩)
theorem Odd.ty {K : PySem.W.Frag} {H : Hp} {x : V} (h : Odd H x) : ∃ t, TyX K H x t ∧ PySem.W.kitOne K t (.type "str") = some false := by
  rcases h with rfl | ⟨i, rfl⟩ | ⟨b, rfl⟩ | ⟨a, rfl, ⟨xs, h⟩ | ⟨xs, h⟩ | ⟨xs, h⟩⟩
  · exact ⟨_, .base .non, kit_ty (by decide +kernel)⟩
  · exact ⟨_, .base (.int i), kit_ty (by decide +kernel)⟩
  · exact ⟨_, .base (.bl b), kit_ty (by decide +kernel)⟩
  · exact ⟨_, .base (.lst h), kit_ty (by decide +kernel)⟩
  · exact ⟨_, .base (.tup h), kit_ty (by decide +kernel)⟩
  · exact ⟨_, .base (.dK h), kit_ty (by decide +kernel)⟩
end LH

namespace LH
open PySem PySem.Spec PySem.Calls PyProof.Rows L2 Builtin Builtin.Str Builtin.Int Builtin.Float
/-! ### a number by a written form -/
def FmtI (sp : Str) (i : Int) (y : Str) : Prop := ∀ (prog : Program) (w : World) (A : Around) (E : Value → Shared → Prop) (s : Shared) (t : Tok) (Q : Value → Shared → Prop), (∀ t' k, Q (.str y t') { s with toks := k }) → wpAny (model prog w) A (formatField (.int i t) sp) Q E s
def hexF : FormatSpec := { fill := 48, align := 61, width := some 2, type := some 88 }
def hexT (i : Int) : Str := intField' hexF (decide (i < 0)) [] ((Nat.toDigits 16 i.natAbs).map fun c => (if (88 : Nat) == 88 then c.toUpper else c).toNat) [] 4
theorem hex_parse : parseFormatSpec (Str.ofString "02X").cps.toList "int" 62 = .ok hexF := by kernel_rfl
def hexDig (n : Nat) : Nat := if n < 10 then 48 + n else 55 + n
theorem hexT_eq {b : Nat} (h : b < 256) : hexT (b : Nat) = ⟨#[hexDig (b / 16), hexDig (b % 16)]⟩ := by
  have : ∀ d : Fin 256, (hexT (d.val : Nat)).cps.toList = [hexDig (d.val / 16), hexDig (d.val % 16)] := by decide +kernel
  exact TL.ext_tl (this ⟨b, h⟩)
set_option maxHeartbeats 4000000 in
theorem fmt_hex {b : Nat} (h : b < 256) : FmtI (Str.ofString "02X") (b : Nat) ⟨#[hexDig (b / 16), hexDig (b % 16)]⟩ := by
  intro prog w A E s t Q q
  have hlen : (hexT (b : Nat)).length ≤ sizeLine := by rw [hexT_eq h, sizeLine_eq]; show 2 ≤ 16777216; decide
  rw [← hexT_eq h] at q
  refine PySem.W.KXf.field_int (spec' := Str.ofString "02X") (y := hexT (b : Nat)) rfl (by decide +kernel) (by decide +kernel) ?_ q
  intro _
  apply PySem.W.KPc.meets_of
  intro _ _ _ _ _ _ _
  unfold Builtin.«int.__format__»
  refine wpAny_bind (wpAny_of_eq (a := (_, _)) rfl ?_)
  refine wpAny_bind (wpAny_of_eq (a := _) rfl ?_)
  kxf_if
  refine wpAny_bind (wpAny_typeNameOf (T := "str") (typeIs_str _ _ _) (by decide) fun _ => ?_)
  refine wpAny_bind (wpAny_of_eq (a := some _) rfl ?_)
  kxf_if
  kxf_if
  refine wpAny_bind (wpAny_typeNameOfCut_int ?_)
  simp only [hex_parse, hexF]
  (repeat kxf_if)
  refine PySem.W.KXf.ret_text (T := hexT (b : Nat)) rfl hlen ?_
  assumption
/-! ### a number by figures, noughts ahead -/
def decF (k : Nat) : FormatSpec := { fill := 48, align := 61, width := some k, type := some 100 }
def decT (k : Nat) (i : Int) : Str := intField' (decF k) (decide (i < 0)) [] ((Nat.toDigits 10 i.natAbs).map fun c => (if (100 : Nat) == 88 then c.toUpper else c).toNat) [] 3
theorem dec2_parse : parseFormatSpec (Str.ofString "02d").cps.toList "int" 62 = .ok (decF 2) := by kernel_rfl
theorem dec4_parse : parseFormatSpec (Str.ofString "04d").cps.toList "int" 62 = .ok (decF 4) := by kernel_rfl
theorem dec2_eq {b : Nat} (h : b < 100) : decT 2 (b : Nat) = ⟨#[48 + b / 10, 48 + b % 10]⟩ := by
  have : ∀ d : Fin 100, (decT 2 (d.val : Nat)).cps.toList = [48 + d.val / 10, 48 + d.val % 10] := by decide +kernel
  exact TL.ext_tl (this ⟨b, h⟩)
section
variable {X : Cx}
def tFmtS (te : TE) (sp : Str) : TE := fun σ H Q => te σ H fun x H1 => ∃ i y, x = .int i ∧ FmtI sp i y ∧ Q (.str y) H1
theorem pe_fmtS {e spec : Expr} {te : TE} {sp : Str} {pos : Pos} (he : PE X e te) (hs : PE X spec (tC (.str sp))) : PE X (.FormattedValue e (-1) (some spec) pos) (tFmtS te sp) := by
  refine ⟨fun pins s σ H Q I h => ?_⟩
  refine wpAny_FormattedValue_spec (thn (he.run pins s σ H _ I h) fun v s1 hv => ?_)
  obtain ⟨x, H1, I1, r1, i, y, rfl, hf, q⟩ := hv
  obtain ⟨t, rfl⟩ := r1
  refine thn (hs.run pins s1 σ H1 (fun z H2 => z = .str sp ∧ Q (.str y) H2) I1 ⟨rfl, q⟩) fun v2 s2 hv => ?_
  obtain ⟨z, H2, I2, r2, rfl, q2⟩ := hv
  obtain ⟨t2, rfl⟩ := r2
  exact ⟨sp, t2, rfl, hf _ _ _ _ _ _ _ fun t' k => ⟨.str y, H2, I2.tok _, ⟨_, rfl⟩, q2⟩⟩
end
end LH

namespace LH
open PySem PySem.Spec PySem.Calls PyProof.Rows L2
/-! ### enumerate(text) -/
/-- the signs of x, each in a new pair with its number -/
def ItES (x : Str) : It :=
  ⟨fun i _ => i < x.cps.size, fun i H v H' => ∃ T c, v = .ref T ∧ H T = none ∧ H' = upd H T (.tup [.int (i : Nat), .str ⟨#[c]⟩]) ∧ x.cps[i]? = some c, fun i _ => x.cps.size = i⟩
theorem turn_enumS {P : Program} {w : World} {K : PySem.W.Frag} {elts : List Expr} {kk : Nat} {tpos : Pos} (x : Str) (t : Tok) (e it : Addr) :
    Turn P w K (.Tuple elts kk tpos) (ItES x) [e, it] e (fun i h => (∃ old, IsEnum h e it ((i : Nat) : Int) old) ∧ h.IsStrIter it (strIterType x) x t i ∧ e ≠ it) where
  mem := by simp
  obj := fun i h st b hb => by
    obtain ⟨⟨old, he⟩, ⟨o, ho, hc, hd⟩, _⟩ := st
    have e' : b = e ∨ b = it := by simpa using hb
    rcases e' with z | z
    · rw [z]; exact ⟨_, he, fun v q => nomatch q⟩
    · rw [z]; exact ⟨o, ho, fun v q => by rw [hd] at q; cases q⟩
  keep := fun i h h' st k => let ⟨⟨old, he⟩, ⟨o, ho, r⟩, hne⟩ := st; ⟨⟨old, k e (by simp) _ he⟩, ⟨o, k it (by simp) o ho, r⟩, hne⟩
  item := by
    intro X hP hw hK hc i pins s σ H E I hf st hg
    subst hP hw hK
    obtain ⟨⟨old, he⟩, hit, hne⟩ := st
    have hel : e < s.heap.objs.size := Heap.lt_size he
    have hil : it < s.heap.objs.size := by obtain ⟨_, q, _⟩ := hit; exact Heap.lt_size q
    refine wpAny_pyNext_enum_itemD (Draws.text (A := X.A.in1) (I.ok.hd hc) it x t) he hit hg hne (by simpa using hne) fun v h' tk hv ho hit' hT hsz hk => ?_
    obtain ⟨c, u, hcx, rfl⟩ := hv
    refine ⟨_, rfl, wpAny_letOwnedTupleGo_enum (s := { s with heap := h', toks := tk + 1 }) ho fun h'' he' sb => ?_⟩
    have hT2 : h''.get? s.heap.objs.size = some { cls := .type "tuple", data := .seq #[.int i tk, .str ⟨#[c]⟩ u] } := (sb.2 _ (Nat.ne_of_gt hel)).trans hT
    have new : ObjOk X.prog X.w (upd H s.heap.objs.size (.tup [.int (i : Nat), .str ⟨#[c]⟩])) h'' s.heap.objs.size (.tup [.int (i : Nat), .str ⟨#[c]⟩]) :=
      ⟨by show 2 ≤ sizeLine; decide, [.int i tk, .str ⟨#[c]⟩ u], .cons ⟨_, rfl⟩ (.cons ⟨_, rfl⟩ .nil), ⟨_, hT2, rfl, _, rfl⟩⟩
    have I1 : Inv X pins σ (upd H s.heap.objs.size (.tup [.int (i : Nat), .str ⟨#[c]⟩])) { s with heap := h'', toks := tk + 1 } :=
      I.turnedNew (ch := [e, it]) (fun b ob hb q => (sb.2 b (fun z => hb (by simp [z]))).trans (hk b ob (fun z => hb (by simp [z])) (fun z => hb (by simp [z])) q)) hf (Nat.le_refl _) new
    refine ⟨.ref s.heap.objs.size, _, I1, rfl, ⟨_, c, rfl, I.hok.fresh (Nat.le_refl _), rfl, hcx⟩, ⟨⟨.str ⟨#[c]⟩ u, ?_⟩, ?_, hne⟩, fun b hb => ?_⟩
    · have e1 : ((i + 1 : Nat) : Int) = (i : Int) + 1 := by omega
      rw [e1]; exact he'
    · obtain ⟨o, ho', r⟩ := hit'
      exact ⟨o, (sb.2 it (Ne.symm hne)).trans ho', r⟩
    · have hb' : b < s.heap.objs.size := by
        have e' : b = e ∨ b = it := by simpa using hb
        rcases e' with z | z
        · rw [z]; exact hel
        · rw [z]; exact hil
      rw [upd_ne (Nat.ne_of_lt hb')]
      exact (hf b hb).1
  done := by
    intro X hP hw hK hc i pins s σ H E I hf st hg
    subst hP hw hK
    obtain ⟨⟨old, he⟩, hit, hne⟩ := st
    obtain ⟨f0, f1, f2, f3, f4, f5⟩ := hf it (by simp)
    have heq : x.cps.size = i := hg
    subst heq
    exact wpAny_pyNext_enum_endD (Draws.text (A := X.A.in1) (I.ok.hd hc) it x t) he hit fun h' eb => ⟨rfl, I.turned (t' := s.toks) (fun b o hb q => eb b o hb q) f0 f1 f3 f4 f5⟩
  self := fun A i s Q E st h => let ⟨⟨_, he⟩, _⟩ := st; wpAny_pyIter_enum he h
def iEnumS (ta : TA) : TI := fun σ H R => ta σ H fun vs H1 => ∃ x, vs = [.str x] ∧ R (ItES x) H1
theorem pi_enumS {X : Cx} {e : Expr} {ta : TA} {p pos tpos : Pos} {elts : List Expr} {kk : Nat} (hg : Gl X "enumerate") (hm : X.mg "enumerate" = none) (ha : PA X [e] ta) (hs : starEach [e] X.env = [(false, eval e X.env)] := by rfl) :
    PI X (.Tuple elts kk tpos) (.Call (.Name "enumerate" p) [e] [] pos) (iEnumS ta) := by
  refine ⟨fun pins s σ H R I h => ?_⟩
  refine Call_ (ld_blt I hg hm boot_enumerate (PyProof.Rows.callWith_type1 (thn (ha.run pos pins s σ H _ I h) fun us s1 ⟨vs, H1, I1, r1, q1⟩ => ?_) hs rfl))
  obtain ⟨x, ex, q⟩ := q1
  subst ex
  cases r1 with
  | cons r rr =>
    cases rr
    obtain ⟨t, rfl⟩ := r
    refine call_enumerate_str fun h' he hit hsz hk => wpAny_pyIter_enum he ?_
    have I2 : Inv X pins σ H1 { s1 with heap := h' } := I1.kept (t' := s1.toks) hk
    refine ⟨s1.heap.objs.size + 1, [s1.heap.objs.size + 1, s1.heap.objs.size], _, _, H1, rfl, I2, turn_enumS x t (s1.heap.objs.size + 1) s1.heap.objs.size, ⟨⟨.none, he⟩, hit, Nat.succ_ne_self _⟩, fun b hb => ?_, q⟩
    have e' : b = s1.heap.objs.size + 1 ∨ b = s1.heap.objs.size := by simpa using hb
    have hle : s1.heap.objs.size ≤ b := by
      rcases e' with z | z
      · rw [z]; exact Nat.le_add_right _ _
      · rw [z]; exact Nat.le_refl _
    exact I1.fpOk hle (I1.hok.fresh hle)
theorem walk_enumS {x : Str} : Walk (ItES x) (TL.tl x).length (fun _ => True) (YPair (fun i => some (.int (i : Nat))) (fun i => some (.str ⟨#[(TL.tl x).getD i 0]⟩))) := by
  have e : (TL.tl x).length = x.cps.size := Array.length_toList
  rw [e]
  refine ⟨fun i _ hi q => hi, fun _ q => rfl, fun i H v H' _ q y => ?_⟩
  obtain ⟨T, c, h1, h2, h3, h4⟩ := y
  have : (TL.tl x)[i]? = some c := by rw [← h4]; exact Array.getElem?_toList
  exact ⟨T, .int (i : Nat), .str ⟨#[c]⟩, h1, h2, h3, rfl, by show some (V.str ⟨#[(TL.tl x).getD i 0]⟩) = _; rw [List.getD_eq_getElem?_getD, this]; rfl⟩
end LH

namespace LH
open PySem PySem.Spec PyProof.Rows L2
/-! ### o[i] op= e of a list -/
def rGetL (K : PySem.W.Frag) : V → V → Hp → VK → Prop := fun o i H Q => ∃ p xs k v, o = .ref p ∧ i = .int k ∧ SqL K H p xs ∧ atI xs k = some v ∧ Q v H
theorem get_list {X : Cx} : PGet X (rGetL X.K) := by
  intro pins s σ H x y v u Q I rx ry h
  obtain ⟨p, xs, i, z, rfl, rfl, hq, he, q⟩ := h
  cases rx
  obtain ⟨t, rfl⟩ := ry
  obtain ⟨its, r, pl, hz⟩ := I.list hq
  obtain ⟨j, h1, h2, h3, h4, h5⟩ := atI_get he
  obtain ⟨w, ew, rw'⟩ := r.get h2
  have hl := r.length
  have hn := line63
  have fin : EP X pins σ Q w s := ⟨z, H, I, rw', q⟩
  by_cases h0 : 0 ≤ i
  · have hj : i.toNat = j := by
      rw [seqIndex_of h0 h5] at h1
      exact Option.some.inj h1
    exact wpAny_getItem_list pl.isList h0 (by omega) (by rw [hj]; simpa using ew) fin
  · have hj : (i + (its.toArray.size : Int)).toNat = j := by
      rw [seqIndex_neg (by omega) h4] at h1
      rw [List.size_toArray, ← hl]
      exact Option.some.inj h1
    exact wpAny_getItem_list_neg pl.isList (by omega) (by rw [List.size_toArray] <;> omega) (by omega) (by rw [hj]; simpa using ew) fin
theorem get_listK {X : Cx} (K : PySem.W.Frag) (h : X.K = K := by rfl) : PGet X (rGetL K) := h ▸ get_list
theorem ixN_last {α : Type} (xs : List α) (v : α) : ixN (xs ++ [v]).length (-1) = some xs.length := by
  have hl : (xs ++ [v]).length = xs.length + 1 := by simp
  unfold ixN
  rw [hl, if_neg (by decide), if_pos (by omega)]
  congr 1
  omega
theorem set_last {α : Type} (xs : List α) (v u : α) : (xs ++ [v]).set xs.length u = xs ++ [u] := by
  rw [List.set_append_right _ _ (Nat.le_refl _), Nat.sub_self]
  rfl
/-! ### small letters made great -/
def Sm (l : List Nat) : Prop := ∀ c ∈ l, 97 ≤ c ∧ c ≤ 122
def cap : List Nat → List Nat
  | [] => []
  | c :: r => (c - 32) :: r
theorem title_small {c : Nat} (h : 97 ≤ c ∧ c ≤ 122) : Unicode.titleOf c = [c - 32] := by
  have : ∀ d : Fin 26, Unicode.titleOf (97 + d.val) = [97 + d.val - 32] := by decide +kernel
  have e := this ⟨c - 97, by omega⟩
  rwa [show 97 + (c - 97) = c by omega] at e
theorem upper_small {c : Nat} (h : 97 ≤ c ∧ c ≤ 122) : Unicode.upperOf c = [c - 32] := by
  have : ∀ d : Fin 26, Unicode.upperOf (97 + d.val) = [97 + d.val - 32] := by decide +kernel
  have e := this ⟨c - 97, by omega⟩
  rwa [show 97 + (c - 97) = c by omega] at e
theorem lower_small {c : Nat} (h : 97 ≤ c ∧ c ≤ 122) : Unicode.lowerOf c = [c] := by
  have : ∀ d : Fin 26, Unicode.lowerOf (97 + d.val) = [97 + d.val] := by decide +kernel
  have e := this ⟨c - 97, by omega⟩
  rwa [show 97 + (c - 97) = c by omega] at e
theorem tl_placed (x : Str) (f : Nat → Nat → List Nat) : TL.tl ⟨placed x f⟩ = ((TL.tl x).mapIdx f).flatten := by
  unfold placed TL.tl
  simp only [Array.toList_flatten, Array.toList_mapIdx]
  congr 1
  apply List.ext_getElem?
  intro i
  rw [List.getElem?_map, List.getElem?_mapIdx, List.getElem?_mapIdx]
  cases x.cps.toList[i]? <;> rfl
theorem mapIdx_same {f g : Nat → Nat → List Nat} : ∀ l : List Nat, (∀ i c, l[i]? = some c → f i c = g i c) → l.mapIdx f = l.mapIdx g := fun l h => by
  apply List.ext_getElem?
  intro i
  rw [List.getElem?_mapIdx, List.getElem?_mapIdx]
  cases e : l[i]? with
  | none => rfl
  | some c => exact congrArg some (h i c e)
theorem flat_one : ∀ l : List Nat, (l.mapIdx fun _ c => [c]).flatten = l := by
  intro l
  rw [List.mapIdx_eq_zipIdx_map]
  induction l with
  | nil => rfl
  | cons c r ih =>
    have : ∀ (l : List Nat) (n : Nat), ((l.zipIdx n).map fun (p : Nat × Nat) => [p.1]).flatten = l := by
      intro l
      induction l with
      | nil => intro n; rfl
      | cons c r ih => intro n; rw [List.zipIdx_cons, List.map_cons, List.flatten_cons, ih]; rfl
    exact this _ 0
theorem cap_eq (x : Str) (h : Sm (TL.tl x)) : TL.tl (Txt.capitalize x) = cap (TL.tl x) := by
  unfold Txt.capitalize
  by_cases h0 : (x.length == 0) = true
  · rw [if_pos h0]
    have : TL.tl x = [] := by
      have e := eq_of_beq h0
      rw [TL.len_tl] at e
      exact List.length_eq_zero_iff.mp e
    rw [this]
    rfl
  · rw [if_neg h0]
    unfold Txt.capitalized
    rw [tl_placed, mapIdx_same (g := fun i c => if i = 0 then [c - 32] else [c]) _ fun i c hc => ?_]
    · cases e : TL.tl x with
      | nil => rfl
      | cons c r =>
        rw [List.mapIdx_cons, List.flatten_cons]
        show [c - 32] ++ _ = (c - 32) :: r
        have : (r.mapIdx fun i c => if i + 1 = 0 then [c - 32] else [c]) = r.mapIdx fun _ c => [c] := mapIdx_same r fun i c _ => if_neg (by omega)
        rw [this, flat_one]
        rfl
    · have hm := h c (List.mem_of_getElem? hc)
      by_cases hi : i = 0
      · subst hi
        exact title_small hm
      · have hb : (i == 0) = false := by simpa using hi
        rw [if_neg hi]
        show (if (i == 0) = true then Unicode.titleOf c else Unicode.lowerAt x.cps i) = [c]
        rw [hb, if_neg Bool.false_ne_true]
        unfold Unicode.lowerAt
        have ec : x.cps[i]? = some c := by rw [← hc]; exact Array.getElem?_toList.symm
        rw [ec]
        show (if (c == 0x3A3 && Unicode.endsWord x.cps i) = true then [0x3C2] else Unicode.lowerOf c) = [c]
        have hb2 : (c == 0x3A3) = false := by simp; omega
        rw [hb2, Bool.false_and, if_neg Bool.false_ne_true]
        exact lower_small hm
theorem upper_eq (x : Str) (h : Sm (TL.tl x)) : TL.tl (Txt.upper x) = (TL.tl x).map fun c => c - 32 := by
  unfold Txt.upper
  rw [tl_placed, mapIdx_same (g := fun _ c => [c - 32]) _ fun i c hc => upper_small (h c (List.mem_of_getElem? hc))]
  generalize TL.tl x = l
  have : (l.mapIdx fun _ c => [c - 32]) = (l.map fun c => c - 32).mapIdx fun _ c => [c] := by
    apply List.ext_getElem?
    intro i
    rw [List.getElem?_mapIdx, List.getElem?_mapIdx, List.getElem?_map]
    cases l[i]? <;> rfl
  rw [this, flat_one]
theorem upper_cap (x : Str) (h : Sm (TL.tl x)) : TL.tl (Txt.upper (cutS x none (some 1)) ++ cutS x (some 1) none) = cap (TL.tl x) := by
  have e1 : TL.tl (cutS x none (some 1)) = (TL.tl x).take 1 := by rw [show (1 : Int) = ((1 : Nat) : Int) from rfl, cutS_to]
  have e2 : TL.tl (cutS x (some 1) none) = (TL.tl x).drop 1 := by rw [show (1 : Int) = ((1 : Nat) : Int) from rfl, cutS_from]
  rw [TL.tl_append, upper_eq _ (by rw [e1]; exact fun c hc => h c (List.mem_of_mem_take hc)), e1, e2]
  cases TL.tl x with
  | nil => rfl
  | cons c r => simp [cap]
theorem cap_len (l : List Nat) : (cap l).length = l.length := by cases l <;> rfl
/-! ### words of a text -/
/-- a word's signs: none of them a blank -/
def WordL (l : List Nat) : Prop := l ≠ [] ∧ ∀ c ∈ l, 33 ≤ c ∧ c ≤ 126 ∧ c ≠ 37
theorem space_no {c : Nat} (h : 33 ≤ c ∧ c ≤ 126) : Unicode.isSpace c = false := by
  have : ∀ d : Fin 94, Unicode.isSpace (33 + d.val) = false := by decide +kernel
  have e := this ⟨c - 33, by omega⟩
  rwa [show 33 + (c - 33) = c by omega] at e
theorem words_join (ws : List Str) (h : ∀ x ∈ ws, WordL (TL.tl x)) (sp : Str) (hs : TL.tl sp = [32]) : Txt.words (Txt.join sp ws) = ws := by
  refine TL.map_tl_inj ?_
  rw [TL.words_tl, TL.join_eq, TL.tl_join, hs]
  cases ws with
  | nil => rfl
  | cons x r =>
    rw [TL.wfold_join _ _ (by simp) fun p hp => ?_, List.nil_append]
    obtain ⟨y, hy, rfl⟩ := List.mem_map.mp hp
    exact ⟨(h y hy).1, fun c hc => space_no ⟨((h y hy).2 c hc).1, ((h y hy).2 c hc).2.1⟩⟩
/-! ### joined by a sign and split there again -/
theorem splitL_app (s : Nat) (w r : List Nat) (hw : s ∉ w) : splitL s (w ++ s :: r) = w :: splitL s r := by
  induction w with
  | nil => simp [splitL]
  | cons c w ih =>
    have hc : c ≠ s := fun h => hw (by rw [h]; exact List.mem_cons_self)
    have ih' := ih fun h => hw (List.mem_cons_of_mem _ h)
    show splitL s (c :: (w ++ s :: r)) = _
    rw [splitL, if_neg hc, ih']
    rfl
theorem splitL_self (s : Nat) (w : List Nat) (hw : s ∉ w) : splitL s w = [w] := by
  induction w with
  | nil => rfl
  | cons c w ih =>
    have hc : c ≠ s := fun h => hw (by rw [h]; exact List.mem_cons_self)
    rw [splitL, if_neg hc, ih fun h => hw (List.mem_cons_of_mem _ h)]
    rfl
theorem splitL_join (s : Nat) : ∀ ps : List (List Nat), ps ≠ [] → (∀ p ∈ ps, s ∉ p) → splitL s (TL.joinL [s] ps) = ps
  | [], h, _ => absurd rfl h
  | [p], _, h => splitL_self s p (h p (by simp))
  | p :: q :: r, _, h => by
    rw [TL.joinL]
    show splitL s (p ++ s :: TL.joinL [s] (q :: r)) = _
    rw [splitL_app s p _ (h p (by simp)), splitL_join s (q :: r) (by simp) fun x hx => h x (List.mem_cons_of_mem _ hx)]
/-! ### a header's rows -/
def hstep (st : List (List Nat) × List Nat) (w : List Nat) : List (List Nat) × List Nat :=
  if 60 < st.2.length + 1 + w.length then (st.1 ++ [st.2], 32 :: w) else (st.1, st.2 ++ 32 :: w)
def great (l : List Nat) : List Nat := TL.joinL [45] ((splitL 45 l).map cap)
def hfold (l : List Nat) (ws : List (List Nat)) : List (List Nat) × List Nat := ws.foldl hstep ([], great l ++ [58])
def hrows (l : List Nat) (ws : List (List Nat)) : List (List Nat) := (hfold l ws).1 ++ [(hfold l ws).2]
def strL (ls : List (List Nat)) : List Str := ls.map fun l => ⟨l.toArray⟩
theorem strL_app (a b : List (List Nat)) : strL (a ++ b) = strL a ++ strL b := by unfold strL; rw [List.map_append]
theorem hfold_snoc (l : List Nat) (ws : List (List Nat)) (w : List Nat) : hfold l (ws ++ [w]) = hstep (hfold l ws) w := by
  unfold hfold
  rw [List.foldl_append]
  rfl
theorem foldl_rev_ind {P : List (List Nat) → Prop} (h0 : P []) (hs : ∀ ws w, P ws → P (ws ++ [w])) : ∀ ws, P ws := by
  intro ws
  have key : ∀ r : List (List Nat), P r.reverse := by
    intro r
    induction r with
    | nil => exact h0
    | cons w r ih => rw [List.reverse_cons]; exact hs _ _ ih
  have := key ws.reverse
  rwa [List.reverse_reverse] at this
theorem hfold_len (l : List Nat) (hl : (great l).length ≤ 59) : ∀ ws : List (List Nat), (∀ w ∈ ws, w.length ≤ 59) → (hfold l ws).2.length ≤ 60 ∧ (∀ r ∈ (hfold l ws).1, r.length ≤ 60) ∧ (hfold l ws).1.length ≤ ws.length := by
  refine foldl_rev_ind (P := fun ws => (∀ w ∈ ws, w.length ≤ 59) → (hfold l ws).2.length ≤ 60 ∧ (∀ r ∈ (hfold l ws).1, r.length ≤ 60) ∧ (hfold l ws).1.length ≤ ws.length) ?_ ?_
  · intro _
    refine ⟨?_, (fun r hr => by cases hr), Nat.le_refl _⟩
    show (great l ++ [58]).length ≤ 60
    rw [List.length_append, List.length_singleton]
    omega
  · intro ws w ih h
    obtain ⟨h1, h2, h3⟩ := ih fun x hx => h x (by simp [hx])
    have hw := h w (by simp)
    rw [hfold_snoc]
    unfold hstep
    split
    · refine ⟨by simp only [List.length_cons]; omega, fun r hr => ?_, by simp only [List.length_append, List.length_singleton]; omega⟩
      rcases List.mem_append.mp hr with hr | hr
      · exact h2 r hr
      · rw [List.mem_singleton.mp hr]; exact h1
    · refine ⟨by simp only [List.length_append, List.length_cons]; omega, h2, by simp only [List.length_append, List.length_singleton]; omega⟩
theorem hfold_ok (l : List Nat) (hl : ∀ c ∈ great l, c < 1114112) : ∀ ws : List (List Nat), (∀ w ∈ ws, ∀ c ∈ w, c < 1114112) → (∀ c ∈ (hfold l ws).2, c < 1114112) ∧ ∀ r ∈ (hfold l ws).1, ∀ c ∈ r, c < 1114112 := by
  refine foldl_rev_ind (P := fun ws => (∀ w ∈ ws, ∀ c ∈ w, c < 1114112) → (∀ c ∈ (hfold l ws).2, c < 1114112) ∧ ∀ r ∈ (hfold l ws).1, ∀ c ∈ r, c < 1114112) ?_ ?_
  · intro _
    refine ⟨fun c hc => ?_, fun r hr => by cases hr⟩
    rcases List.mem_append.mp (show c ∈ great l ++ [58] from hc) with h | h
    · exact hl c h
    · rw [List.mem_singleton.mp h]; decide
  · intro ws w ih h
    obtain ⟨h1, h2⟩ := ih fun x hx => h x (by simp [hx])
    have hw := h w (by simp)
    have hw' : ∀ c ∈ 32 :: w, c < 1114112 := fun c hc => by
      rcases List.mem_cons.mp hc with rfl | hc
      · decide
      · exact hw c hc
    rw [hfold_snoc]
    unfold hstep
    split
    · refine ⟨hw', fun r hr => ?_⟩
      rcases List.mem_append.mp hr with hr | hr
      · exact h2 r hr
      · rw [List.mem_singleton.mp hr]; exact h1
    · refine ⟨fun c hc => ?_, h2⟩
      rcases List.mem_append.mp hc with h | h
      · exact h1 c h
      · exact hw' c h
end LH

namespace LH
open PySem PySem.Spec PySem.Calls PyProof.Rows L2
/-! ### a thing in a tuple of data -/
def rInT (K : PySem.W.Frag) : R2 := fun x y H Q => ∃ d ds, Dp K H x d ∧ Dp K H y (.tuple ds) ∧ SeqAt.shaped d = true ∧ SeqAt.shaped (.tuple ds) = true ∧ Q (.bl (ds.any fun z => PyData.eqv z d)) H
theorem op_inT {X : Cx} (K : PySem.W.Frag) (hu : X.A.units + 65 < cLine) (hK : X.K = K := by rfl) : OpR X (compareOp .In) (rInT K) := by
  subst hK
  intro pins s σ H x y v u Q I rx ry h
  obtain ⟨d, ds, hd, he, sd, se, q⟩ := h
  obtain ⟨as, r1⟩ := Dp.reads I d x v hd rx
  obtain ⟨bs, r2⟩ := Dp.reads I (.tuple ds) y u he ry
  exact SeqAt.in_tuple_reads r2 r1 (SeqAt.canLay_of_shaped se) (SeqAt.canLay_of_shaped sd) (room_in_shaped sd hu) ⟨.bl _, H, I, rfl, q⟩
theorem unit1 {k : Nat} {A : Around} (hr : Room k A) : A.units + 1 < cLine := by have := hr.un; omega
theorem room65 {k : Nat} {A : Around} (hr : Room (k + 1) A) : A.units + 65 < cLine := by have := hr.un; omega
end LH

namespace LH
open PySem PySem.Spec PyProof.Rows L2
/-! ### tests told by their truth; an if by its two branches -/
def TellB (H : Hp) (c : Bool) (k : Bool → Hp → Prop) : Prop := ∀ H1, Same H H1 → k c H1
section
variable {t u : TT} {σ : L2.St} {H : Hp} {k : Bool → Hp → Prop}
theorem orT (c d : Bool) (ha : ∀ k', TellB H c k' → t σ H k') (hb : c = false → ∀ H1 k', Same H H1 → TellB H1 d k' → u σ H1 k') (q : TellB H (c || d) k) : tOr t u σ H k := by
  refine ha _ fun H1 s1 => ?_
  cases c with
  | true => exact iteT (q H1 s1)
  | false => exact iteF (hb rfl H1 k s1 fun H2 s2 => q H2 (s1.trans s2))
theorem andT (c d : Bool) (ha : ∀ k', TellB H c k' → t σ H k') (hb : c = true → ∀ H1 k', Same H H1 → TellB H1 d k' → u σ H1 k') (q : TellB H (c && d) k) : tAnd t u σ H k := by
  refine ha _ fun H1 s1 => ?_
  cases c with
  | true => exact iteT (hb rfl H1 k s1 fun H2 s2 => q H2 (s1.trans s2))
  | false => exact iteF (q H1 s1)
theorem notT (c : Bool) (ha : ∀ k', TellB H c k' → t σ H k') (q : TellB H (!c) k) : tNot t σ H k := ha _ fun H1 s1 => q H1 s1
theorem ifT {tc : TT} {t u : TS} {D : Ends} (c : Bool) (hc : ∀ k', TellB H c k' → tc σ H k') (ht : c = true → ∀ H1, Same H H1 → t D σ H1) (hf : c = false → ∀ H1, Same H H1 → u D σ H1) : tIfS tc t u D σ H := by
  refine hc _ fun H1 s1 => ?_
  cases c with
  | true => exact iteT (ht rfl H1 s1)
  | false => exact iteF (hf rfl H1 s1)
theorem ifK {tc : TT} {t u : TS} {D : Ends} (G : ∀ D' : Ends, D' = D → tIfS tc t u D' σ H) : tIfS tc t u D σ H := G D rfl
theorem TellB.eq {c d : Bool} (h : c = d) (q : TellB H d k) : TellB H c k := h ▸ q
end
/-! ### lengths and signs of slices -/
theorem cutTo_len (z : Str) (p : Nat) : (cutS z none (some (p : Int))).length = min p z.length := by rw [cutS_to, mk_len, List.length_take, ← TL.len_tl]
theorem cutFrom_len (z : Str) (p : Nat) : (cutS z (some (p : Int)) none).length = z.length - p := by rw [cutS_from, mk_len, List.length_drop, ← TL.len_tl]
theorem mem_cut {z : Str} {lo hi : Option Int} {c : Nat} (h : c ∈ TL.tl (cutS z lo hi)) : c ∈ TL.tl z := List.mem_of_mem_drop (List.mem_of_mem_take h)
theorem cutV_from (z : List V) (a : Nat) : cutV z (some (a : Int)) none = z.drop a := by
  have e : cutV z (some (a : Int)) none = cutV z (some (a : Int)) (some ((z.length : Nat) : Int)) := by
    unfold cutV
    rw [HT.sIx_none, HT.sIx_nat, HT.sIx_nat]
    simp
  rw [e, cutV_at, List.take_of_length_le (by simp)]
theorem vint_dec (a b : Int) : decide (V.int a = V.int b) = decide (a = b) := decide_eq_decide.mpr ⟨V.int.inj, congrArg _⟩
theorem vstr_dec (a b : Str) : decide (V.str a = V.str b) = decide (a = b) := decide_eq_decide.mpr ⟨V.str.inj, congrArg _⟩
theorem or_false' {a b : Bool} (h : (a || b) = false) : a = false ∧ b = false := by cases a <;> cases b <;> simp_all
end LH
namespace LH
open PySem PySem.Spec PyProof.Rows L2
/-! ### while, its test told by its truth -/
theorem whileT {c : TT} {tb : TS} {D : Ends} {σ : L2.St} {H : Hp} (Pv : L2.St → Hp → Prop) (μ : L2.St → Hp → Nat) (h0 : Pv σ H)
    (hs : ∀ σ H, Pv σ H → ∃ b : Bool, (∀ k, TellB H b k → c σ H k) ∧ (b = true → ∀ H1, Same H H1 → tb { D with nx := fun σ' H' => Pv σ' H' ∧ μ σ' H' < μ σ H, ct := fun σ' H' => Pv σ' H' ∧ μ σ' H' < μ σ H, bk := D.nx } σ H1) ∧ (b = false → ∀ H1, Same H H1 → D.nx σ H1)) : tWhile c tb D σ H := by
  refine ⟨fun m σ H => m = μ σ H ∧ Pv σ H, ⟨_, rfl, h0⟩, ?_⟩
  rintro m σ H ⟨rfl, p⟩
  obtain ⟨b, ht, h1, h2⟩ := hs σ H p
  refine ht _ fun H1 s1 => ?_
  cases b with
  | true => exact ⟨_, fun σ' H' ⟨p', l⟩ => ⟨_, l, rfl, p'⟩, h1 rfl H1 s1⟩
  | false => exact h2 rfl H1 s1
end LH

set_option maxHeartbeats 2000000
namespace LH
open PySem PySem.Spec PySem.Calls PyProof.Rows L2 Builtin Builtin.Str Builtin.Int Builtin.Float
/-! ### a number by two or four figures -/
theorem dig_char : ∀ d : Fin 10, (Nat.digitChar d.val).toNat = 48 + d.val := by decide
def digs (n : Nat) : List Nat := (Nat.toDigits 10 n).map fun c => (if (100 : Nat) == 88 then c.toUpper else c).toNat
theorem digs_lt {n : Nat} (h : n < 10) : digs n = [48 + n] := by
  unfold digs
  rw [Nat.toDigits_of_lt_base h]
  exact congrArg (fun x => [x]) (dig_char ⟨n, h⟩)
theorem digs_ge {n : Nat} (h : 10 ≤ n) : digs n = digs (n / 10) ++ [48 + n % 10] := by
  unfold digs
  rw [Nat.toDigits_of_base_le (by decide) h, List.map_append]
  exact congrArg (fun x => _ ++ [x]) (dig_char ⟨n % 10, Nat.mod_lt _ (by decide)⟩)
theorem dec4_eq {n : Nat} (h : n < 10000) : decT 4 ((n : Nat) : Int) = ⟨#[48 + n / 1000, 48 + n / 100 % 10, 48 + n / 10 % 10, 48 + n % 10]⟩ := by
  have key : ∀ a b c d : Nat, digs n = [d] ∧ a = 48 ∧ b = 48 ∧ c = 48 ∨ digs n = [c, d] ∧ a = 48 ∧ b = 48 ∨ digs n = [b, c, d] ∧ a = 48 ∨ digs n = [a, b, c, d] → decT 4 ((n : Nat) : Int) = ⟨#[a, b, c, d]⟩ := by
    intro a b c d hk
    unfold decT
    rw [show decide (((n : Nat) : Int) < 0) = false from decide_eq_false (by omega), show ((n : Nat) : Int).natAbs = n from rfl]
    show intField' (decF 4) false [] (digs n) [] 3 = _
    rcases hk with ⟨h, rfl, rfl, rfl⟩ | ⟨h, rfl, rfl⟩ | ⟨h, rfl⟩ | h <;> rw [h] <;> rfl
  refine key _ _ _ _ ?_
  by_cases h1 : n < 10
  · exact .inl ⟨by rw [digs_lt h1, show n % 10 = n by omega], by omega, by omega, by omega⟩
  · by_cases h2 : n < 100
    · exact .inr (.inl ⟨by rw [digs_ge (by omega), digs_lt (by omega)]; simp; omega, by omega, by omega⟩)
    · by_cases h3 : n < 1000
      · refine .inr (.inr (.inl ⟨?_, by omega⟩))
        rw [digs_ge (by omega), digs_ge (by omega), digs_lt (by omega)]
        simp
        omega
      · refine .inr (.inr (.inr ?_))
        rw [digs_ge (by omega), digs_ge (by omega), digs_ge (by omega), digs_lt (by omega)]
        simp
        omega
set_option maxHeartbeats 4000000 in
theorem fmt_dec2 {n : Nat} (h : n < 100) : FmtI (Str.ofString "02d") ((n : Nat) : Int) ⟨#[48 + n / 10, 48 + n % 10]⟩ := by
  intro prog w A E s t Q q
  have hlen : (decT 2 ((n : Nat) : Int)).length ≤ sizeLine := by rw [dec2_eq h, sizeLine_eq]; show 2 ≤ 16777216; decide
  rw [← dec2_eq h] at q
  refine PySem.W.KXf.field_int (spec' := Str.ofString "02d") (y := decT 2 ((n : Nat) : Int)) rfl (by decide +kernel) (by decide +kernel) ?_ q
  intro _
  apply PySem.W.KPc.meets_of
  intro _ _ _ _ _ _ _
  unfold Builtin.«int.__format__»
  refine wpAny_bind (wpAny_of_eq (a := (_, _)) rfl ?_)
  refine wpAny_bind (wpAny_of_eq (a := _) rfl ?_)
  kxf_if
  refine wpAny_bind (wpAny_typeNameOf (T := "str") (typeIs_str _ _ _) (by decide) fun _ => ?_)
  refine wpAny_bind (wpAny_of_eq (a := some _) rfl ?_)
  kxf_if
  kxf_if
  refine wpAny_bind (wpAny_typeNameOfCut_int ?_)
  simp only [dec2_parse, decF]
  (repeat kxf_if)
  have hlog : ((n : Nat) : Int).natAbs.log2 < 1920 := by
    rw [Int.natAbs_natCast]
    by_cases h0 : n = 0
    · rw [h0]; decide
    · have : n.log2 < 20 := (Nat.log2_lt h0).mpr (by omega)
      omega
  refine wpAny_bind (m := Builtin.overDigitLimit? ((n : Nat) : Int)) (wpAny_of_eq (PySem.overDigitLimit_small hlog) ?_)
  refine PySem.W.KXf.ret_text (T := decT 2 ((n : Nat) : Int)) rfl hlen ?_
  assumption
set_option maxHeartbeats 4000000 in
theorem fmt_dec4 {n : Nat} (h : n < 10000) : FmtI (Str.ofString "04d") ((n : Nat) : Int) ⟨#[48 + n / 1000, 48 + n / 100 % 10, 48 + n / 10 % 10, 48 + n % 10]⟩ := by
  intro prog w A E s t Q q
  have hlen : (decT 4 ((n : Nat) : Int)).length ≤ sizeLine := by rw [dec4_eq h, sizeLine_eq]; show 4 ≤ 16777216; decide
  rw [← dec4_eq h] at q
  refine PySem.W.KXf.field_int (spec' := Str.ofString "04d") (y := decT 4 ((n : Nat) : Int)) rfl (by decide +kernel) (by decide +kernel) ?_ q
  intro _
  apply PySem.W.KPc.meets_of
  intro _ _ _ _ _ _ _
  unfold Builtin.«int.__format__»
  refine wpAny_bind (wpAny_of_eq (a := (_, _)) rfl ?_)
  refine wpAny_bind (wpAny_of_eq (a := _) rfl ?_)
  kxf_if
  refine wpAny_bind (wpAny_typeNameOf (T := "str") (typeIs_str _ _ _) (by decide) fun _ => ?_)
  refine wpAny_bind (wpAny_of_eq (a := some _) rfl ?_)
  kxf_if
  kxf_if
  refine wpAny_bind (wpAny_typeNameOfCut_int ?_)
  simp only [dec4_parse, decF]
  (repeat kxf_if)
  have hlog : ((n : Nat) : Int).natAbs.log2 < 1920 := by
    rw [Int.natAbs_natCast]
    by_cases h0 : n = 0
    · rw [h0]; decide
    · have : n.log2 < 20 := (Nat.log2_lt h0).mpr (by omega)
      omega
  refine wpAny_bind (m := Builtin.overDigitLimit? ((n : Nat) : Int)) (wpAny_of_eq (PySem.overDigitLimit_small hlog) ?_)
  refine PySem.W.KXf.ret_text (T := decT 4 ((n : Nat) : Int)) rfl hlen ?_
  assumption
/-! ### x in a text or a list -/
def rInBoth (K : PySem.W.Frag) : R2 := fun x y H Q => (∃ (c : Nat) (z : Str), x = .str ⟨#[c]⟩ ∧ y = .str z ∧ Q (.bl (decide (c ∈ z.cps.toList))) H) ∨ rIn K false x y H Q
theorem op_inBoth {X : Cx} (K : PySem.W.Frag) (hK : X.K = K := by rfl) : OpR X (compareOp .In) (rInBoth K) := fun pins s σ H x y v u Q I rx ry h => h.elim (fun h => op_in_sign pins s σ H x y v u Q I rx ry h) (fun h => oIn K hK pins s σ H x y v u Q I rx ry h)
/-- a method as its callers see it -/
structure DefM (P : Program) (w : World) (K : PySem.W.Frag) (mg : Str → Option Value) (base : Heap) (C : Addr) (m : Str) (k : Nat) (f : Addr) (fd : FuncData) (ps : List Str) (sp : Sp) : Prop where
  c : Cls K C
  hm : Meth K C m f
  ok : FnOk P w K mg base CX0 k f fd ps sp
  bd : Binds K fd ps []
/-- a class that is called -/
structure DefC (P : Program) (w : World) (K : PySem.W.Frag) (mg : Str → Option Value) (base : Heap) (x : Str) (C : Addr) (k : Nat) (f : Addr) (fd : FuncData) (ps : List Str) (sp : Sp) : Prop where
  make : Mk K C f
  ok : FnOk P w K mg base CX0 k f fd ps sp
  mg : mg x = some (.ref C)
  bd : Binds K fd ps []
/-- all but the object at a stays -/
def SameBut (a : Addr) (H H' : Hp) : Prop := ∀ b o, b ≠ a → H b = some o → H' b = some o
theorem SameBut.refl (a : Addr) (H : Hp) : SameBut a H H := fun _ _ _ e => e
theorem SameBut.trans {a : Addr} {H H' H2 : Hp} (h : SameBut a H H') (g : SameBut a H' H2) : SameBut a H H2 := fun b o hb e => g b o hb (h b o hb e)
theorem SameBut.of {a : Addr} {H H' : Hp} (h : Same H H') : SameBut a H H' := fun b o _ e => h b o e
theorem SameBut.upd (a : Addr) (H : Hp) (o : HO) : SameBut a H (upd H a o) := fun b u hb e => by rw [upd_ne hb]; exact e
end LH

set_option maxHeartbeats 2000000
namespace LH
open PySem PySem.Spec PyProof.Rows L2
/-! ### an exception that is caught and held as a value -/
/-- the exception object at a: its class, its own dict -/
def ExH (cls : Value) (d : Option Addr) (a : Addr) : HO := .ext fun h => ∃ (oe : Obj) (fv : Array Value), h.get? a = some oe ∧ (oe.cls = cls ∧ oe.dict = d) ∧ oe.data = .fields fv
section
variable {X : Cx} {pins : List (Addr × Obj)} {σ : L2.St} {H : Hp} {s : Shared}
theorem hold_inv {a : Addr} {oe : Obj} {fv : Array Value} {cls : Value} {d : Option Addr} (I : Inv X pins σ H s) (ha : s.heap.get? a = some oe) (hz : Zc cls d oe) (hd : oe.data = .fields fv) (na : H a = none) (nL : a ≠ X.env.locals)
    (n0 : X.s_0.heap.get? a = none) (np : ∀ p ∈ X.pn ++ pins, p.1 ≠ a) : Inv X pins σ (upd H a (ExH cls d a)) s := by
  have far : ∀ {b : Addr} {u : HO}, H b = some u → b ≠ a := fun e => ne_of_none e na
  have old : ∀ {b : Addr} {o : Obj}, X.s_0.heap.get? b = some o → b ≠ a := fun {b o} e z => by
    subst z
    rw [n0] at e
    exact nomatch e
  have noCell : ∀ {y : Str} {c : Addr}, X.env.cells.lookup y = some c → c ≠ a := fun {y c} e z => by
    obtain ⟨v, o, ho, hv⟩ := I.cell y c e
    subst z
    rw [ha] at ho
    cases ho
    rw [hd] at hv
    exact nomatch hv
  have keepU : ∀ {b : Addr} {u : HO}, H b = some u → upd H a (ExH cls d a) b = some u := fun e => (upd_ne (far e)).trans e
  have base' : Un X.fs X.ex X.H_0 (upd H a (ExH cls d a)) X.s_0.heap s.heap :=
    { keep := I.base.keep, slot := I.base.slot, there := I.base.there, free := fun b o e n hx => (upd_ne (old e)).trans (I.base.free b o e n hx), tups := fun b xs e => keepU (I.base.tups b xs e), frzs := fun b o u e => keepU (I.base.frzs b o u e),
      tbls := fun b ps e => (I.base.tbls b ps e).imp fun _ q => keepU q }
  have hok' : HOk X.prog X.w (upd H a (ExH cls d a)) s.heap := fun b ob e => by
    by_cases hb : b = a
    · subst hb
      rw [upd_same] at e
      cases e
      exact ⟨⟨oe, fv, ha, hz, hd⟩, ⟨oe, ha⟩, fun _ _ ⟨o, v, q, r⟩ k => ⟨o, v, k o q, r⟩⟩
    · rw [upd_ne hb] at e
      exact (I.hok b ob e).stay (fun _ _ _ q => q) (fun _ q => keepU q) fun _ _ q => keepU q
  exact { ok := I.ok, os := I.os, bare := I.bare, base := base', loc := I.loc, cell := I.cell, free := (upd_ne (Ne.symm nL)).trans I.free, freeC := fun y c e => (upd_ne (noCell e)).trans (I.freeC y c e),
          pin := fun p hp => ⟨(I.pin p hp).1, (upd_ne (np p hp)).trans (I.pin p hp).2.1, (I.pin p hp).2.2⟩, hok := hok', len := I.len }
/-- what such a clause wishes of the body's exception: it is of the class, and the suite's end stands with the object held -/
def wHold (K : PySem.W.Frag) (c : Value) (i : Nat) (ts : TS) (D : Ends) : WX := fun cls d σ H =>
  PySem.W.exmOne K cls c = some true ∧ ∀ a, H a = none → ts { nx := fun σ' H' => H' a = none → D.nx (σ'.set i none) (upd H' a (ExH cls d a)), rt := fun _ _ => False, bk := fun _ _ => False, ct := fun _ _ => False } (σ.set i (some (.ref a))) H
theorem ps_try_hold {x n : Str} {c : Value} {i : Nat} {body rest : List Stmt} {b0 : Stmt} {np pos pos' : Pos} {tb : WX → TS} {ts : TS} (hs : X.stack = X.env :: X.outer) (hf : X.env.frame = some X.env.locals) (hx : X.ex = []) (hN : X.N.Nodup) (hi : X.N[i]? = some n)
    (hln : X.env.kindOf n = some .local) (hc : Names X x c) (hb : ∀ (W : WX) (pn : List (Addr × Obj)) (xe : Value → Shared → Prop), Takes (X.tr pn xe) W → PassesOwn (model X.prog X.w) X.A X.env xe → PSs (X.tr pn xe) body (tb W))
    (hsu : ∀ (a : Addr) (oe : Obj) (pn : List (Addr × Obj)), PSs (X.suite a ((a, oe) :: pn)) (b0 :: rest) ts) :
    PS X (.Try body [.ExceptHandler (some (.Name x np)) (some n) (b0 :: rest) pos'] [] [] pos) (fun D σ H => tb (wHold X.K c i ts D) D σ H) := by
  constructor
  intro pins s σ H D I h
  have hok := I.ok
  have hframes : X.A.frames = some (X.env :: X.outer) := hok.frames.trans (by rw [hs])
  apply wpAny_Try_except
  refine wpAny_mono (PSs.run (hb (wHold X.K c i ts D) (X.pn ++ pins) _ (fun u s' air => ?_) PassesOwn.looking) [] s σ H D (I.toTry _) h) (fun f s1 done => ?_) (fun _ _ z => z)
  · -- an exception is in the air
    obtain ⟨a, B, sI, pins', σ1, H1, cls, d, rfl, J1, nb, up, sky, na, os, ag, fits, wish⟩ := air
    have J : Inv X pins σ1 H1 sI := Inv.ofTry J1 hok
    refine Sky.land (Z := Zc cls d) Zc.steady hframes hf (by rw [hs] at sky; exact sky) fun g fly upg => ?_
    have Jg : Inv X pins σ1 H1 { s' with heap := g } := Inv.landed J nb fly.1 (Heap.UpToSlots.trans up upg) os ag
    obtain ⟨og, fg, hog, zg, dg⟩ := HandSPX.FlyingZ.there fly
    have offFrames : a ∉ frs (X.env :: X.outer) := fun hm => by
      obtain ⟨_, o', e', hno⟩ := fly.2.2.1.mem hm
      rw [hog] at e'
      cases e'
      exact hno _ dg
    have offLocals : a ≠ X.env.locals := fun z => offFrames (List.mem_filterMap.mpr ⟨X.env, by simp, by rw [hf, z]⟩)
    have offFs : a ∉ X.fs := fun hm => by
      obtain ⟨ev, hev, q⟩ := List.mem_filterMap.mp hm
      exact offFrames (List.mem_filterMap.mpr ⟨ev, List.mem_cons_of_mem _ hev, q⟩)
    have gone : sI.heap.get? a = none := by
      cases e : sI.heap.get? a with
      | none => rfl
      | some o => exact absurd ((nb a o e (by rw [hs]; exact offFrames)).symm.trans fly.2.1) (fun z => nomatch z)
    have new0 : X.s_0.heap.get? a = none := by
      cases e : X.s_0.heap.get? a with
      | none => rfl
      | some o =>
        obtain ⟨o', e'⟩ := J.base.there a o e (by rw [hx]; exact List.not_mem_nil)
        rw [gone] at e'
        exact nomatch e'
    have offPins : ∀ p ∈ X.pn ++ pins, p.1 ≠ a := fun p hp z => by
      have e' := (J.pin p hp).1
      rw [z, gone] at e'
      exact nomatch e'
    have Sg := Inv.suite Jg hog dg na offLocals offFs
    refine wpAny_handleBy_cons (codeAny_handlers_test ?_) (fun q => nomatch q)
    have seen := PySem.W.exm_one (M := model X.prog X.w) Jg.kIn (fun A' Q' E' t k q => wpAny_typeOf_ref (k _ _ hog) (by rw [zg.1]; exact q)) fits
    have named : ∀ {Q : Value → Shared → Prop} {E : Value → Shared → Prop}, Q c { s' with heap := g } → wpAny (model X.prog X.w) (X.A.mark (some (.ref a))) (eval (.Name x np) X.env) Q E { s' with heap := g } := fun {Q E} q => by
      rcases hc with ⟨hg, hdbg, hm | ⟨hm, hv, hnn⟩⟩
      · exact ld_glob (X := X.suite a ((a, og) :: (X.pn ++ pins))) Sg hg hm q hdbg
      · exact ld_blt (X := X.suite a ((a, og) :: (X.pn ++ pins))) Sg hg hm hv q hnn hdbg
    refine named (seen.here (codeAny_handlers_suite_as (HandSPX.lands_againZ fly fun k flk upk => ?_)))
    have Jk : Inv X pins σ1 H1 { s' with heap := k } := Inv.landed J nb flk.1 (Heap.UpToSlots.trans (Heap.UpToSlots.trans up upg) upk) os ag
    obtain ⟨ok', fk, hok4, zk, dk⟩ := HandSPX.FlyingZ.there flk
    have Sk := Inv.suite Jk hok4 dk na offLocals offFs
    refine store_ok (X := X.suite a ((a, ok') :: (X.pn ++ pins))) (v := .ref a) Sk hN hi (.inl hln) rfl (fun t St' => ?_) (.inr hln)
    refine wpAny_mono ((hsu a ok' (X.pn ++ pins)).run [] t _ H1 _ St' (wish a na)) (fun fl t1 end1 => ?_) (fun _ _ z => z.elim)
    cases fl with
    | next =>
      obtain ⟨σ2, H2, S2, q2⟩ := end1
      refine gone_ok (X := X.suite a ((a, ok') :: (X.pn ++ pins))) S2 hN hi hln fun t2 S3 => ?_
      obtain ⟨e3, n3, _⟩ := S3.pin (a, ok') (by simp)
      exact ⟨_, _, hold_inv (Inv.unsuite S3 hok) e3 zk dk n3 offLocals new0 offPins, q2 n3⟩
    | brk => obtain ⟨_, _, _, q2⟩ := end1; exact q2.elim
    | cont => obtain ⟨_, _, _, q2⟩ := end1; exact q2.elim
    | ret u => obtain ⟨_, _, _, _, _, q2⟩ := end1; exact q2.elim
  · -- nothing was raised
    cases f with
    | next => obtain ⟨σ1, H1, J1, q⟩ := done; exact wpAny_execs_nil ⟨σ1, H1, Inv.ofTry J1 hok, q⟩
    | brk => obtain ⟨σ1, H1, J1, q⟩ := done; exact ⟨σ1, H1, Inv.ofTry J1 hok, q⟩
    | cont => obtain ⟨σ1, H1, J1, q⟩ := done; exact ⟨σ1, H1, Inv.ofTry J1 hok, q⟩
    | ret u => obtain ⟨v, σ1, H1, J1, r, q⟩ := done; exact ⟨v, σ1, H1, Inv.ofTry J1 hok, r, q⟩
end
end LH
namespace LH
open PySem PySem.Spec PyProof.Rows L2
/-! ### isinstance of a held exception; a walk over pairs -/
theorem getD_app_l {α : Type} (xs ys : List α) (d : α) {i : Nat} (h : i < xs.length) : (xs ++ ys).getD i d = xs.getD i d := by
  rw [List.getD_eq_getElem?_getD, List.getD_eq_getElem?_getD, List.getElem?_append_left h]
theorem getD_app_r {α : Type} (xs ys : List α) (d : α) {i : Nat} (h : xs.length ≤ i) : (xs ++ ys).getD i d = ys.getD (i - xs.length) d := by
  rw [List.getD_eq_getElem?_getD, List.getD_eq_getElem?_getD, List.getElem?_append_right h]
/-- isinstance(e, c), e a held exception of the class at D without an own dict -/
def rIsH (K : PySem.W.Frag) : List V → Hp → VK → Prop := fun xs H Q => ∃ (a D : Addr) (c : V) (cv : Value) (b : Bool), xs = [.ref a, c] ∧ H a = some (ExH (.ref D) none a) ∧ ExcC K D ∧ (∀ u, RelV c u → u = cv) ∧ PySem.W.kitOne K (.ref D) cv = some b ∧ Q (.bl b) H
theorem call_isH {X : Cx} : CallR X (.builtin "isinstance") (rIsH X.K) := by
  intro pins s σ H xs us Q I r h
  obtain ⟨a, D, c, cv, b, rfl, ha, C, hcv, e, q⟩ := h
  obtain ⟨u1, u2, rfl, r1, r2⟩ := vals2 r
  cases (show u1 = Value.ref a from r1)
  obtain rfl := hcv _ r2
  obtain ⟨⟨oe, fv, hget, ⟨h1, h2⟩, h3⟩, _, _⟩ := (show ObjOk X.prog X.w H s.heap a (ExH (.ref D) none a) from I.hok a _ ha)
  have J : PySem.W.InstAt s.heap a oe D none := by
    obtain ⟨oc, od, oda, osl⟩ := oe
    dsimp only at h1 h2 h3
    subst h1 h2 h3
    exact ⟨hget, rfl, rfl, trivial⟩
  exact PySem.W.kia_one (PySem.W.handS_kitx_exc C.hg C.hk C.hs C.hd C.ha C.hn C.ht C.hm) I.kIn J e (fun z => nomatch z) fun tk => ⟨.bl b, H, I.kept (t' := tk) fun _ _ z => z, rfl, q⟩
theorem cIsH {X : Cx} (K : PySem.W.Frag) (h : X.K = K := by rfl) : CallR X (.builtin "isinstance") (rIsH K) := h ▸ call_isH
/-- a comprehension with a test over a list of pairs (tuples that stand), its element f i -/
theorem lc_pairs {K : PySem.W.Frag} {a : Addr} {ts : List Addr} {ps : Nat → V × V} {tt : TT} {te : TE} {c1 c2 : Nat} {σ : L2.St} {H1 : Hp} {D : Addr} {Qd : Hp → Prop} (f : Nat → V) (b : Nat → Bool) (hne : c1 ≠ c2) (hL : SqL K H1 a (ts.map V.ref)) (hT : ∀ i, i < ts.length → SqT K H1 (ts.getD i 0) [(ps i).1, (ps i).2])
    (hD : H1 D = none) (hn : ts.length ≤ sizeLine)
    (ht : ∀ (i : Nat) (H : Hp) (Q : Bool → Hp → Prop), i < ts.length → Same H1 H → (∀ H', Same H H' → Q (b i) H') → tt ((((σ.set c2 none).set c1 none).set c1 (some (ps i).1)).set c2 (some (ps i).2)) H Q)
    (he : ∀ i H Q, i < ts.length → Same H1 H → b i = true → Tell H (f i) Q → te ((((σ.set c2 none).set c1 none).set c1 (some (ps i).1)).set c2 (some (ps i).2)) H Q)
    (hd : ∀ H, Same H1 H → H D = some (.lst (((List.range ts.length).filter b).map f)) → Qd H) :
    ∃ W : Nat → Nat → Hp → Prop, (∃ m, W 0 m (upd H1 D (.lst []))) ∧ ∀ i m H, W i m H →
      ((Itl K a).stop i H ∧ Qd H) ∨ ((Itl K a).go i H ∧ ∃ Nx : Hp → Prop, (∀ H', Nx H' → ∃ m', m' < m ∧ W (i + 1) m' H') ∧ ∀ x H', (Itl K a).yld i H x H' → gTup K 2 (gCons (gName c1) (gCons (gName c2) gNil)) x (wipe σ [c1, c2]) H' fun σ2 H2 => wipe σ2 [c1, c2] = wipe σ [c1, c2] ∧ tt σ2 H2 fun b H3 =>
        if b = true then te σ2 H3 fun y H4 => ∃ acc, H4 D = some (.lst acc) ∧ acc.length < sizeLine ∧ Nx (upd H4 D (.lst (acc ++ [y]))) else Nx H3) := by
  have hm : (ts.map V.ref).length = ts.length := List.length_map ..
  refine lc_it walk_list (fun i H => Same H1 H ∧ H D = some (.lst (((List.range i).filter b).map f))) ⟨same_upd hD, upd_same⟩ (fun i H _ h => h.1.seq hL) (fun i x H H' hi hP hy => ?_) (fun H h => hd H h.1 (by rw [← hm]; exact h.2))
  obtain ⟨sm, eD⟩ := hP
  obtain ⟨rfl, hx⟩ := hy
  rw [hm] at hi
  rw [List.getElem?_map, List.getElem?_eq_getElem hi] at hx
  obtain rfl := Option.some.inj hx
  have hTi := hT i hi
  rw [List.getD_eq_getElem?_getD, List.getElem?_eq_getElem hi] at hTi
  refine ⟨ts[i], _, rfl, seqT sm hTi, rfl, _, _, rfl, _, _, rfl, rfl, ?_, ?_⟩
  · show (((((σ.set c2 none).set c1 none).set c1 (some (ps i).1)).set c2 (some (ps i).2)).set c2 none).set c1 none = (σ.set c2 none).set c1 none
    rw [List.set_set, List.set_set, List.set_comm _ _ hne, List.set_set, List.set_comm _ _ hne.symm, List.set_comm _ _ hne, List.set_set]
  · refine ht i H' _ hi sm fun H2 s2 => ?_
    cases hb : b i with
    | true =>
      rw [if_pos rfl]
      refine he i H2 _ hi (sm.trans s2) hb fun H3 s3 => ⟨_, s3 _ _ (s2 _ _ eD), ?_, ?_, ?_⟩
      · rw [List.length_map]
        have := List.length_filter_le b (List.range i)
        rw [List.length_range] at this
        omega
      · intro b' o hb'
        rw [upd_ne (ne_of_none hb' hD)]
        exact s3 _ _ (s2 _ _ (sm _ _ hb'))
      · rw [upd_same, List.range_succ, List.filter_append, List.map_append]
        simp [hb]
    | false =>
      rw [if_neg Bool.false_ne_true]
      refine ⟨sm.trans s2, ?_⟩
      rw [s2 _ _ eD, List.range_succ, List.filter_append, List.map_append]
      simp [hb]
end LH
namespace LH
open PySem PySem.Spec PyProof.Rows L2
section
variable {P : Program} {w : World} {K : PySem.W.Frag} {mg : Str → Option Value} {base : Heap} {k : Nat} {f : Addr} {fd : FuncData} {ps : List Str} {sp sp' : Sp} {CX : CXT}
/-- what lets nothing out may stand where something may be let out -/
theorem fn_toX (F : FnOk P w K mg base CX0 k f fd ps sp) : FnOk P w K mg base CX k f fd ps sp :=
  ⟨F.len, fun A outer s H args us vs Q E hr he hb hv hs => codeAny_mono (F.run A outer s H args us vs Q E hr he hb hv hs) fun r s' h => by
    cases r with
    | ok r => cases r <;> exact h
    | error e => exact h.elim⟩
/-- two promises of one def -/
theorem fn_or (F : FnOk P w K mg base CX k f fd ps sp) (G : FnOk P w K mg base CX k f fd ps sp') : FnOk P w K mg base CX k f fd ps (fun vs H Q E => sp vs H Q E ∨ sp' vs H Q E) :=
  ⟨fun vs H Q E h => h.elim (F.len vs H Q E) (G.len vs H Q E), fun A outer s H args us vs Q E hr he hb hv hs => hs.elim (F.run A outer s H args us vs Q E hr he hb hv) (G.run A outer s H args us vs Q E hr he hb hv)⟩
end
end LH

namespace LH
open PySem PySem.Spec PyProof.Rows L2
/-! ### small letters of great ones -/
def lowC (c : Nat) : Nat := if 65 ≤ c ∧ c ≤ 90 then c + 32 else c
theorem lower_C {c : Nat} (h : c < 128) : Unicode.lowerOf c = [lowC c] := by
  have : ∀ d : Fin 128, Unicode.lowerOf d.val = [lowC d.val] := by decide +kernel
  exact this ⟨c, h⟩
theorem lower_eq (x : Str) (h : ∀ c ∈ TL.tl x, c < 128) : TL.tl (Txt.lower x) = (TL.tl x).map lowC := by
  unfold Txt.lower
  rw [tl_placed, mapIdx_same (g := fun _ c => [lowC c]) _ fun i c hc => ?_]
  · generalize TL.tl x = l
    have : (l.mapIdx fun _ c => [lowC c]) = (l.map lowC).mapIdx fun _ c => [c] := by
      apply List.ext_getElem?
      intro i
      rw [List.getElem?_mapIdx, List.getElem?_mapIdx, List.getElem?_map]
      cases l[i]? <;> rfl
    rw [this, flat_one]
  · have hm := h c (List.mem_of_getElem? hc)
    unfold Unicode.lowerAt
    have ec : x.cps[i]? = some c := by rw [← hc]; exact Array.getElem?_toList.symm
    rw [ec]
    show (if (c == 0x3A3 && Unicode.endsWord x.cps i) = true then [0x3C2] else Unicode.lowerOf c) = [lowC c]
    have hb2 : (c == 0x3A3) = false := by simp; omega
    rw [hb2, Bool.false_and, if_neg Bool.false_ne_true]
    exact lower_C hm
theorem low_small {c : Nat} (h : 97 ≤ c ∧ c ≤ 122) : lowC c = c := by
  unfold lowC
  rw [if_neg (by omega)]
theorem low_cap : ∀ l : List Nat, Sm l → (cap l).map lowC = l
  | [], _ => rfl
  | c :: r, h => by
    have hc := h c (by simp)
    show lowC (c - 32) :: r.map lowC = c :: r
    have e : lowC (c - 32) = c := by unfold lowC; rw [if_pos (by omega)]; omega
    have er : r.map lowC = r := by
      have : ∀ l : List Nat, Sm l → l.map lowC = l := by
        intro l
        induction l with
        | nil => intro _; rfl
        | cons d r ih => intro h; rw [List.map_cons, low_small (h d (by simp)), ih fun x hx => h x (by simp [hx])]
      exact this r fun x hx => h x (by simp [hx])
    rw [e, er]
theorem joinL_map (f : Nat → Nat) (S : List Nat) : ∀ ps : List (List Nat), (TL.joinL S ps).map f = TL.joinL (S.map f) (ps.map fun p => p.map f)
  | [] => rfl
  | [p] => rfl
  | p :: q :: r => by
    have ih := joinL_map f S (q :: r)
    rw [TL.joinL, List.map_append, List.map_append, ih]
    rfl
theorem joinL_split (s : Nat) : ∀ l : List Nat, TL.joinL [s] (splitL s l) = l
  | [] => rfl
  | c :: r => by
    have ih := joinL_split s r
    have e := splitL_eta s r
    unfold splitL
    by_cases h : c = s
    · rw [if_pos h]
      generalize splitL s r = w at *
      cases w with
      | nil => exact nomatch e
      | cons x t =>
        rw [TL.joinL, ih, h]
        rfl
    · rw [if_neg h]
      generalize splitL s r = w at *
      cases w with
      | nil => exact nomatch e
      | cons x t =>
        show TL.joinL [s] ((c :: x) :: t) = c :: r
        rw [← ih]
        cases t with
        | nil => rfl
        | cons y t => rw [TL.joinL, TL.joinL]; rfl
theorem low_great {l : List Nat} (h : ∀ x ∈ splitL 45 l, Sm x) : (great l).map lowC = l := by
  unfold great
  rw [joinL_map, List.map_map]
  have e : (splitL 45 l).map ((fun p => p.map lowC) ∘ cap) = splitL 45 l := by
    have : ∀ ws : List (List Nat), (∀ x ∈ ws, Sm x) → ws.map ((fun p => p.map lowC) ∘ cap) = ws := by
      intro ws
      induction ws with
      | nil => intro _; rfl
      | cons x r ih => intro h; rw [List.map_cons, ih fun y hy => h y (by simp [hy])]; exact congrArg (· :: r) (low_cap x (h x (by simp)))
    exact this _ h
  rw [e]
  exact joinL_split 45 l
theorem great_length {l : List Nat} (h : ∀ x ∈ splitL 45 l, Sm x) : (great l).length = l.length := by
  have := congrArg List.length (low_great h)
  rwa [List.length_map] at this
/-! ### the beginning of a row that may be a name -/
def isLet (c : Nat) : Bool := (decide (97 ≤ c) && decide (c ≤ 122)) || (decide (65 ≤ c) && decide (c ≤ 90))
def nsig : Nat → Nat → List Nat → Nat
  | _, _, [] => 0
  | w, k, c :: r => if c = 45 ∧ 0 < k ∧ w < 3 then 1 + nsig (w + 1) 0 r else if isLet c = true ∧ k < 8 then 1 + nsig w (k + 1) r else 0
theorem let_no_dash {c : Nat} (h : isLet c = true) : c ≠ 45 ∧ c ≠ 58 ∧ c < 128 := by
  unfold isLet at h
  simp only [Bool.or_eq_true, Bool.and_eq_true, decide_eq_true_eq] at h
  omega
theorem nsig_word : ∀ (p r : List Nat) (w k : Nat), (∀ c ∈ p, isLet c = true) → k + p.length ≤ 8 → nsig w k (p ++ r) = p.length + nsig w (k + p.length) r
  | [], r, w, k, _, _ => by simp
  | c :: p, r, w, k, h, hl => by
    have hc := h c (by simp)
    have hd := let_no_dash hc
    rw [List.length_cons] at hl
    rw [List.cons_append, nsig, if_neg (fun z => hd.1 z.1), if_pos ⟨hc, by omega⟩, nsig_word p r w (k + 1) (fun x hx => h x (by simp [hx])) (by omega), List.length_cons, show k + 1 + p.length = k + (p.length + 1) by omega]
    omega
theorem nsig_join (r : List Nat) : ∀ (ps : List (List Nat)) (w : Nat), ps ≠ [] → w + ps.length ≤ 4 → (∀ p ∈ ps, (∀ c ∈ p, isLet c = true) ∧ 1 ≤ p.length ∧ p.length ≤ 8) → nsig w 0 (TL.joinL [45] ps ++ 58 :: r) = (TL.joinL [45] ps).length
  | [], _, h, _, _ => absurd rfl h
  | [p], w, _, _, h => by
    have hp := h p (by simp)
    show nsig w 0 (p ++ 58 :: r) = p.length
    rw [nsig_word p _ w 0 hp.1 (by omega), nsig, if_neg (fun z => absurd z.1 (by decide)), if_neg (fun z => absurd z.1 (by decide))]
    rfl
  | p :: q :: t, w, _, hl, h => by
    have hp := h p (by simp)
    rw [List.length_cons, List.length_cons] at hl
    have ih := nsig_join r (q :: t) (w + 1) (by simp) (by rw [List.length_cons]; omega) fun x hx => h x (List.mem_cons_of_mem _ hx)
    rw [TL.joinL, List.append_assoc, nsig_word p _ w 0 hp.1 (by omega)]
    show p.length + nsig w (0 + p.length) (45 :: (TL.joinL [45] (q :: t) ++ 58 :: r)) = (p ++ 45 :: TL.joinL [45] (q :: t)).length
    rw [nsig, if_pos ⟨rfl, by omega, by omega⟩, ih, List.length_append, List.length_cons]
    omega
/-! ### words each behind a blank -/
def spw (us : List (List Nat)) : List Nat := (us.map fun u => 32 :: u).flatten
theorem spw_app (a b : List (List Nat)) : spw (a ++ b) = spw a ++ spw b := by unfold spw; rw [List.map_append, List.flatten_append]
theorem spw_join (u : List Nat) : ∀ us : List (List Nat), spw (u :: us) = 32 :: TL.joinL [32] (u :: us)
  | [] => by simp [spw, TL.joinL]
  | v :: us => by
    have ih := spw_join v us
    have e : spw (u :: v :: us) = (32 :: u) ++ spw (v :: us) := by unfold spw; rw [List.map_cons, List.flatten_cons]
    rw [e, ih, TL.joinL]
    rfl
theorem words_spw (x : Str) (us : List (List Nat)) (hx : TL.tl x = spw us) (h : ∀ u ∈ us, WordL u) : (Txt.words x).map TL.tl = us := by
  rw [TL.words_tl, hx]
  cases us with
  | nil => rfl
  | cons u us =>
    rw [spw_join, List.foldl_cons]
    have e : TL.wstep ([], []) 32 = ([], []) := by
      unfold TL.wstep
      rw [if_pos (by decide +kernel), if_pos rfl]
    rw [e, TL.wfold_join _ _ (by simp) fun p hp => ⟨(h p hp).1, fun c hc => space_no ⟨((h p hp).2 c hc).1, ((h p hp).2 c hc).2.1⟩⟩, List.nil_append]
/-! ### a header's rows by their words -/
/-- the rows of a header: its first words behind the name, then rows of at least one word -/
def rowsBy (l : List Nat) (us0 : List (List Nat)) (uss : List (List (List Nat))) : List (List Nat) := (great l ++ 58 :: spw us0) :: uss.map spw
theorem hrows_by (l : List Nat) : ∀ ws : List (List Nat), ∃ us0 uss, hrows l ws = rowsBy l us0 uss ∧ us0 ++ uss.flatten = ws ∧ ∀ us ∈ uss, us ≠ [] := by
  refine foldl_rev_ind (P := fun ws => ∃ us0 uss, hrows l ws = rowsBy l us0 uss ∧ us0 ++ uss.flatten = ws ∧ ∀ us ∈ uss, us ≠ []) ⟨[], [], rfl, rfl, fun _ h => by cases h⟩ ?_
  rintro ws w ⟨us0, uss, e, ew, hne⟩
  unfold hrows at e ⊢
  rw [hfold_snoc]
  generalize hfold l ws = st at *
  obtain ⟨d, c⟩ := st
  unfold hstep
  by_cases h : 60 < c.length + 1 + w.length
  · rw [if_pos h]
    refine ⟨us0, uss ++ [[w]], ?_, ?_, ?_⟩
    · show (d ++ [c]) ++ [32 :: w] = _
      have e' : d ++ [c] = rowsBy l us0 uss := e
      rw [e']
      unfold rowsBy
      rw [List.map_append]
      simp [spw]
    · rw [List.flatten_append, ← List.append_assoc, ew]; simp
    · intro us hus
      rcases List.mem_append.mp hus with h | h
      · exact hne us h
      · rw [List.mem_singleton.mp h]; simp
  · rw [if_neg h]
    have e' : d ++ [c] = rowsBy l us0 uss := e
    rcases List.eq_nil_or_concat uss with rfl | ⟨t, u, rfl⟩
    · refine ⟨us0 ++ [w], [], ?_, ?_, fun _ h => by cases h⟩
      · show d ++ [c ++ 32 :: w] = _
        unfold rowsBy at e' ⊢
        have hd : d = [] := by
          cases d with
          | nil => rfl
          | cons x r => have := congrArg List.length e'; simp at this
        subst hd
        have hc : c = great l ++ 58 :: spw us0 := by simpa using e'
        rw [hc, spw_app]
        simp [spw]
      · rw [← ew]; simp
    · refine ⟨us0, t ++ [u ++ [w]], ?_, ?_, ?_⟩
      · show d ++ [c ++ 32 :: w] = _
        unfold rowsBy at e' ⊢
        rw [List.concat_eq_append, List.map_append, List.map_singleton, ← List.cons_append] at e'
        have h1 := List.append_inj' e' rfl
        have hc : c = spw u := by simpa using h1.2
        rw [List.map_append, List.map_singleton, ← List.cons_append, ← h1.1, hc, spw_app]
        simp [spw]
      · rw [← ew]; simp
      · intro us hus
        rcases List.mem_append.mp hus with h | h
        · exact hne us (by simp [h])
        · rw [List.mem_singleton.mp h]; simp
/-! ### one sign at a text's head -/
theorem starts_one (x y : Str) (s : Nat) (hy : TL.tl y = [s]) : Txt.startswith x y = decide ((TL.tl x)[0]? = some s) := by
  unfold Txt.startswith
  have hyl : y.length = 1 := by rw [TL.len_tl, hy]; rfl
  rw [PySem.StrLaws.subAt_eq, hyl, Bool.eq_iff_iff, Bool.and_eq_true, decide_eq_true_eq, decide_eq_true_eq]
  rw [show x.cps.toList = TL.tl x from rfl, show y.cps.toList = TL.tl y from rfl, hy, List.drop_zero, TL.len_tl]
  cases TL.tl x with
  | nil => simp
  | cons c r => simp
end LH

namespace LH
open PySem PySem.Spec PyProof.Rows L2
/-! ### the beginnings of a header's first row: sign by sign, and by words -/
theorem splitL_dash (s : Nat) : ∀ l : List Nat, splitL s (l ++ [s]) = splitL s l ++ [[]]
  | [] => by simp [splitL]
  | c :: r => by
    have ih := splitL_dash s r
    have e := splitL_eta s r
    show splitL s (c :: (r ++ [s])) = _
    unfold splitL
    by_cases h : c = s
    · rw [if_pos h, if_pos h, ih]
      rfl
    · rw [if_neg h, if_neg h, ih, e]
      rfl
theorem splitL_more (s c : Nat) (hc : c ≠ s) : ∀ l : List Nat, splitL s (l ++ [c]) = (splitL s l).dropLast ++ [(splitL s l).getLastD [] ++ [c]]
  | [] => by simp [splitL, hc]
  | d :: r => by
    have ih := splitL_more s c hc r
    have e := splitL_eta s r
    show splitL s (d :: (r ++ [c])) = _
    unfold splitL
    generalize splitL s r = w at *
    cases w with
    | nil => exact nomatch e
    | cons x t =>
      by_cases h : d = s
      · rw [if_pos h, if_pos h, ih]
        simp [List.dropLast, List.getLastD]
      · rw [if_neg h, if_neg h, ih]
        cases t with
        | nil => simp [List.dropLast, List.getLastD]
        | cons y t => simp [List.dropLast, List.getLastD]
/-- the state behind some signs: how many words, letters in the last, whether the colon has come -/
def bstep : Option (Nat × Nat × Bool) → Nat → Option (Nat × Nat × Bool)
  | none, _ => none
  | some (w, k, true), _ => some (w, k, true)
  | some (w, k, false), c => if c = 45 ∧ 0 < k ∧ w < 3 then some (w + 1, 0, false) else if isLet c = true ∧ k < 8 then some (w, k + 1, false) else if c = 58 ∧ 0 < k then some (w, k, true) else none
def bst (w k : Nat) (l : List Nat) : Option (Nat × Nat × Bool) := l.foldl bstep (some (w, k, false))
theorem bst_none : ∀ l : List Nat, l.foldl bstep none = none
  | [] => rfl
  | c :: r => bst_none r
theorem bst_true (w k : Nat) : ∀ l : List Nat, l.foldl bstep (some (w, k, true)) = some (w, k, true)
  | [] => rfl
  | c :: r => bst_true w k r
/-- nsig is how far the state goes on without the colon -/
theorem nsig_state : ∀ (l : List Nat) (w k : Nat), (∀ j, j ≤ nsig w k l → ∃ w' k', bst w k (l.take j) = some (w', k', false)) ∧
    (∀ c, l[nsig w k l]? = some c → ∀ w' k', bst w k (l.take (nsig w k l)) = some (w', k', false) → bst w k (l.take (nsig w k l + 1)) = if c = 58 ∧ 0 < k' then some (w', k', true) else none)
  | [], w, k => ⟨fun j _ => ⟨w, k, by simp [bst]⟩, fun c h => by simp at h⟩
  | c :: r, w, k => by
    by_cases h1 : c = 45 ∧ 0 < k ∧ w < 3
    · have ih := nsig_state r (w + 1) 0
      have e : nsig w k (c :: r) = nsig (w + 1) 0 r + 1 := by rw [nsig, if_pos h1]; omega
      have eb : ∀ j, bst w k ((c :: r).take (j + 1)) = bst (w + 1) 0 (r.take j) := fun j => by
        show ((c :: r.take j).foldl bstep (some (w, k, false))) = _
        rw [List.foldl_cons, bstep, if_pos h1]
        rfl
      rw [e]
      refine ⟨fun j hj => ?_, fun d hd w' k' => ?_⟩
      · cases j with
        | zero => exact ⟨w, k, by simp [bst]⟩
        | succ j => rw [eb]; exact ih.1 j (by omega)
      · rw [eb, eb]
        exact ih.2 d (by simpa using hd) w' k'
    · by_cases h2 : isLet c = true ∧ k < 8
      · have ih := nsig_state r w (k + 1)
        have e : nsig w k (c :: r) = nsig w (k + 1) r + 1 := by rw [nsig, if_neg h1, if_pos h2]; omega
        have eb : ∀ j, bst w k ((c :: r).take (j + 1)) = bst w (k + 1) (r.take j) := fun j => by
          show ((c :: r.take j).foldl bstep (some (w, k, false))) = _
          rw [List.foldl_cons, bstep, if_neg h1, if_pos h2]
          rfl
        rw [e]
        refine ⟨fun j hj => ?_, fun d hd w' k' => ?_⟩
        · cases j with
          | zero => exact ⟨w, k, by simp [bst]⟩
          | succ j => rw [eb]; exact ih.1 j (by omega)
        · rw [eb, eb]
          exact ih.2 d (by simpa using hd) w' k'
      · have e : nsig w k (c :: r) = 0 := by rw [nsig, if_neg h1, if_neg h2]
        rw [e]
        refine ⟨fun j hj => ⟨w, k, by rw [Nat.le_zero.mp hj]; simp [bst]⟩, fun d hd w' k' hs => ?_⟩
        have : c = d := by simpa using hd
        subst this
        have hs' : some (w, k, false) = some (w', k', false) := by simpa [bst] using hs
        obtain ⟨rfl, rfl, _⟩ : w = w' ∧ k = k' ∧ True := by simpa using hs'
        show ((c :: r.take 0).foldl bstep (some (w, k, false))) = _
        rw [List.take_zero, List.foldl_cons, bstep, if_neg h1, if_neg h2]
        rfl
end LH

namespace LH
open PySem PySem.Spec PyProof.Rows L2
/-! ### whether a thing is in a list of data -/
theorem inD (K : PySem.W.Frag) {X : Cx} (hu : X.A.units + 65 < cLine) (h : X.K = K := by rfl) : OpR X (compareOp .In) (rInD K) := h ▸ op_inD hu
end LH

namespace LH
open PySem PySem.Spec PyProof.Rows L2
/-! ### a comprehension over two clauses, the second one over a new list that the first one's item leads to -/
theorem lc_two {K : PySem.W.Frag} {J : It} {n : Nat} {G : Hp → Prop} {wi1 : TI} {te : TE} {c c1 : Nat} {σ : L2.St} {H1 : Hp} {D : Addr} {Qd : Hp → Prop} (xs : Nat → V) (ys : Nat → List V) (f : Nat → Nat → V) (hne : c ≠ c1) (w : Walk J n G (YFn xs)) (hG : ∀ H, Same H1 H → G H) (hD : H1 D = none)
    (hn : ∀ i, i ≤ n → (((List.range i).map fun i => (List.range (ys i).length).map (f i)).flatten).length ≤ sizeLine)
    (hi : ∀ i H (R : It → Hp → Prop), i < n → Same H1 H → (∀ H' p, Same H H' → H p = none → H' p = some (.lst (ys i)) → R (Itl K p) H') → wi1 (((σ.set c1 none).set c none).set c (some (xs i))) H R)
    (he : ∀ i j H Q, i < n → j < (ys i).length → Same H1 H → Tell H (f i j) Q → te (((((σ.set c1 none).set c none).set c (some (xs i))).set c1 none).set c1 (some ((ys i).getD j .non))) H Q)
    (hd : ∀ H, Same H1 H → H D = some (.lst (((List.range n).map fun i => (List.range (ys i).length).map (f i)).flatten)) → Qd H) :
    ∃ W : Nat → Nat → Hp → Prop, (∃ m, W 0 m (upd H1 D (.lst []))) ∧ ∀ i m H, W i m H →
      (J.stop i H ∧ Qd H) ∨ (J.go i H ∧ ∃ Nx : Hp → Prop, (∀ H', Nx H' → ∃ m', m' < m ∧ W (i + 1) m' H') ∧ ∀ x H', J.yld i H x H' → gName c x (wipe σ [c, c1]) H' fun σ2 H2 => wipe σ2 [c, c1] = wipe σ [c, c1] ∧ tYes σ2 H2 fun b H3 =>
        if b = true then wi1 σ2 H3 fun J1 H4 => ∃ W1 : Nat → Nat → Hp → Prop, (∃ m, W1 0 m H4) ∧ ∀ j k H, W1 j k H →
          (J1.stop j H ∧ Nx H) ∨ (J1.go j H ∧ ∃ Nx1 : Hp → Prop, (∀ H', Nx1 H' → ∃ k', k' < k ∧ W1 (j + 1) k' H') ∧ ∀ x H', J1.yld j H x H' → gName c1 x (wipe σ2 [c1]) H' fun σ3 H5 => wipe σ3 [c1] = wipe σ2 [c1] ∧ tYes σ3 H5 fun b H6 =>
            if b = true then te σ3 H6 fun y H7 => ∃ acc, H7 D = some (.lst acc) ∧ acc.length < sizeLine ∧ Nx1 (upd H7 D (.lst (acc ++ [y]))) else Nx1 H6)
        else Nx H3) := by
  let A : Nat → List V := fun i => ((List.range i).map fun i => (List.range (ys i).length).map (f i)).flatten
  have hA : ∀ i, A (i + 1) = A i ++ (List.range (ys i).length).map (f i) := fun i => by
    show ((List.range (i + 1)).map _).flatten = _
    rw [List.range_succ, List.map_append, List.flatten_append]
    simp [A]
  refine ⟨fun i m H => m = n - i ∧ i ≤ n ∧ Same H1 H ∧ H D = some (.lst (A i)), ⟨n, by simp, Nat.zero_le _, same_upd hD, upd_same⟩, ?_⟩
  rintro i m H ⟨rfl, hin, sm, eD⟩
  have q := hG H sm
  by_cases hlt : i < n
  · refine .inr ⟨w.goes i H hlt q, fun H' => Same H1 H' ∧ H' D = some (.lst (A (i + 1))), fun H' p' => ⟨n - (i + 1), by omega, rfl, hlt, p'⟩, fun x H' y => ?_⟩
    obtain ⟨rfl, rfl⟩ := w.yields i H x H' hlt q y
    refine ⟨?_, ?_⟩
    · show (((((σ.set c1 none).set c none).set c (some (xs i))).set c1 none).set c none) = (σ.set c1 none).set c none
      rw [List.set_set, List.set_comm _ _ hne]
      simp only [List.set_set]
    · unfold tYes
      dsimp only
      rw [if_pos rfl]
      refine hi i H' _ hlt sm fun H4 p s4 np ep => ?_
      have hpD : p ≠ D := fun e => by rw [e, eD] at np; exact nomatch np
      have hl := hn (i + 1) hlt
      refine ⟨fun j k H => k = (ys i).length - j ∧ j ≤ (ys i).length ∧ Same H1 H ∧ H p = some (.lst (ys i)) ∧ H D = some (.lst (A i ++ ((List.range j).map (f i)))), ⟨(ys i).length, by simp, Nat.zero_le _, sm.trans s4, ep, by simpa using s4 _ _ eD⟩, ?_⟩
      rintro j k H5 ⟨rfl, hj, s5, e5, eD5⟩
      by_cases hjl : j < (ys i).length
      · refine .inr ⟨⟨ys i, (ys i)[j], .inl (.inl e5), by simp [hjl]⟩, fun H' => Same H1 H' ∧ H' p = some (.lst (ys i)) ∧ H' D = some (.lst (A i ++ ((List.range (j + 1)).map (f i)))), fun H' p' => ⟨(ys i).length - (j + 1), by omega, rfl, hjl, p'⟩, fun x H6 y => ?_⟩
        obtain ⟨rfl, hx⟩ := y
        have hx := hx (ys i) (.inl (.inl e5))
        have ex : x = (ys i).getD j .non := by rw [List.getD_eq_getElem?_getD, hx]; rfl
        subst ex
        refine ⟨?_, ?_⟩
        · show (((((((σ.set c1 none).set c none).set c (some (xs i))).set c1 none).set c1 (some ((ys i).getD j .non)))).set c1 none) = (((σ.set c1 none).set c none).set c (some (xs i))).set c1 none
          rw [List.set_set, List.set_set]
        · rw [if_pos rfl]
          refine he i j H6 _ hlt hjl s5 fun H7 s7 => ⟨_, s7 _ _ eD5, ?_, ?_, ?_, ?_⟩
          · have e1 : (A (i + 1)).length ≤ sizeLine := hl
            rw [hA, List.length_append, List.length_map, List.length_range] at e1
            rw [List.length_append, List.length_map, List.length_range]
            omega
          · intro b o hb
            rw [upd_ne (ne_of_none hb hD)]
            exact s7 _ _ (s5 _ _ hb)
          · rw [upd_ne hpD]
            exact s7 _ _ e5
          · rw [upd_same, List.range_succ, List.map_append, List.append_assoc]
            rfl
      · have hj2 : j = (ys i).length := by omega
        subst hj2
        refine .inl ⟨⟨ys i, .inl (.inl e5), Nat.le_refl _⟩, s5, ?_⟩
        rw [hA]
        exact eD5
  · have e : i = n := by omega
    subst e
    exact .inl ⟨w.stops H q, hd H sm eD⟩
end LH
namespace LH
open PySem PySem.Spec PyProof.Rows L2
theorem cutV_last (z : List V) : cutV z (some (-1)) none = z.drop (z.length - 1) := by
  unfold cutV
  rw [HT.sIx_none]
  have e : HT.sIx z.length 0 (some (-1)) = z.length - 1 := by
    show (if (-1 : Int) < 0 then (-1 + (z.length : Int)).toNat else min (-1 : Int).toNat z.length) = _
    rw [if_pos (by decide)]
    omega
  rw [e, List.take_of_length_le]
  rw [List.length_drop]
  exact Nat.le_refl _
theorem drop_last_eq {α : Type} (l : List α) (x : α) : l.drop (l.length - 1) = [x] ↔ l.getLast? = some x := by
  rcases List.eq_nil_or_concat l with h | ⟨L, y, h⟩
  · subst h; simp
  · rw [List.concat_eq_append] at h
    subst h
    rw [List.length_append, List.length_singleton, Nat.add_sub_cancel, List.drop_left, List.getLast?_concat]
    simp
end LH
namespace LH
open PySem PySem.Spec PyProof.Rows L2
theorem pi_listK {X : Cx} {tg e : Expr} {te : TE} (K : PySem.W.Frag) (he : PE X e te) (h : X.K = K := by rfl) : PI X tg e (iList K te) := h ▸ pi_list he
end LH

namespace LH
open PySem PySem.Spec PyProof.Rows L2
/-! ### a text parted at a sign -/
theorem part_at (x y : Str) (c : Nat) (p r : List Nat) (hy : TL.tl y = [c]) (hx : TL.tl x = p ++ c :: r) (hp : c ∉ p) : TL.tl (Txt.partition x y).1 = p ∧ TL.tl (Txt.partition x y).2.2 = r := by
  obtain rfl : y = ⟨#[c]⟩ := TL.ext_tl hy
  have hm0 : x.cps.toList[p.length]? = some c := by
    show (TL.tl x)[p.length]? = some c
    rw [hx]; simp
  have hn0 : ∀ k, k < p.length → x.cps.toList[k]? ≠ some c := fun k hk e => by
    have e' : (TL.tl x)[k]? = some c := e
    rw [hx, List.getElem?_append_left hk] at e'
    exact hp (List.mem_of_getElem? e')
  have hlen : x.length = p.length + (r.length + 1) := by rw [TL.len_tl, hx, List.length_append, List.length_cons]
  unfold Txt.partition
  rcases StrLaws.occ_head x ⟨#[c]⟩ 1 (Nat.le_refl 1) with ⟨h0, hn⟩ | ⟨i, q, h0, hi, hn⟩
  · exact absurd ((StrLaws.subAt_one x c p.length).mpr hm0) (hn _)
  · rw [h0]
    have hm := (StrLaws.subAt_one x c i).mp hi
    have e : i = p.length := by
      rcases Nat.lt_trichotomy i p.length with h | h | h
      · exact absurd hm (hn0 i h)
      · exact h
      · exact absurd ((StrLaws.subAt_one x c p.length).mpr hm0) (hn _ h)
    subst e
    constructor
    · show (Builtin.Str.strSub x 0 p.length).cps.toList = p
      rw [StrLaws.strSub_toList]
      show ((TL.tl x).drop 0).take (p.length - 0) = p
      rw [hx]; simp
    · show (Builtin.Str.strSub x (p.length + 1) x.length).cps.toList = r
      rw [StrLaws.strSub_toList]
      show ((TL.tl x).drop (p.length + 1)).take (x.length - (p.length + 1)) = r
      rw [hx, hlen, show p.length + 1 = p.length + 1 from rfl, List.drop_append, List.drop_of_length_le (by omega)]
      simp
      rw [List.take_of_length_le (by omega)]
theorem part_lens (x y : Str) : (Txt.partition x y).1.length ≤ x.length ∧ (Txt.partition x y).2.2.length ≤ x.length := ⟨(fact_partition x y).1, (fact_partition x y).2.2⟩
/-- str.join inside a comprehension's block -/
theorem pe_joinK {X : Cx} {o e : Expr} {to te : TE} (K : PySem.W.Frag) {apos pos : Pos} (ho : PE X o to) (he : PE X e te) (h : X.K = K := by rfl) (hs : starEach [e] X.env = [(false, eval e X.env)] := by rfl) (hbase : attributeBase o "join" X.env (eval o X.env) = eval o X.env := by rfl) (hline : (apos.endLine == pos.line) = true := by rfl) :
    PE X (.Call (.Attribute o "join" apos) [e] [] pos) (tM1 (fun x xs H Q => ∃ a p, ∃ ys : List Str, x = .str a ∧ xs = [.ref p] ∧ (SqL K H p (ys.map V.str) ∨ SqT K H p (ys.map V.str)) ∧
      (ys.map (·.length)).sum + ys.length * a.length ≤ 16777216 ∧ Q (.str (Txt.join a ys)) H) to te) := by
  subst h
  exact pe_join ho he hs hbase hline
/-! ### a comprehension over a list of pairs that tells a new tuple of each -/
theorem lc_tups {K : PySem.W.Frag} {a : Addr} {ts : List Addr} {ps : Nat → V × V} {te : TE} {c1 c2 : Nat} {σ : L2.St} {H1 : Hp} {D : Addr} {Qd : Hp → Prop} (g : Nat → List V) (hne : c1 ≠ c2) (hL : SqL K H1 a (ts.map V.ref)) (hT : ∀ i, i < ts.length → SqT K H1 (ts.getD i 0) [(ps i).1, (ps i).2])
    (hD : H1 D = none) (hn : ts.length ≤ sizeLine)
    (he : ∀ i H Q, i < ts.length → Same H1 H → (∀ p H', Same H H' → H p = none → H' p = some (.tup (g i)) → Q (.ref p) H') → te ((((σ.set c2 none).set c1 none).set c1 (some (ps i).1)).set c2 (some (ps i).2)) H Q)
    (hd : ∀ H (us : List Addr), Same H1 H → us.length = ts.length → (∀ i, i < ts.length → H (us.getD i 0) = some (.tup (g i))) → H D = some (.lst (us.map V.ref)) → Qd H) :
    ∃ W : Nat → Nat → Hp → Prop, (∃ m, W 0 m (upd H1 D (.lst []))) ∧ ∀ i m H, W i m H →
      ((Itl K a).stop i H ∧ Qd H) ∨ ((Itl K a).go i H ∧ ∃ Nx : Hp → Prop, (∀ H', Nx H' → ∃ m', m' < m ∧ W (i + 1) m' H') ∧ ∀ x H', (Itl K a).yld i H x H' → gTup K 2 (gCons (gName c1) (gCons (gName c2) gNil)) x (wipe σ [c1, c2]) H' fun σ2 H2 => wipe σ2 [c1, c2] = wipe σ [c1, c2] ∧ tYes σ2 H2 fun b H3 =>
        if b = true then te σ2 H3 fun y H4 => ∃ acc, H4 D = some (.lst acc) ∧ acc.length < sizeLine ∧ Nx (upd H4 D (.lst (acc ++ [y]))) else Nx H3) := by
  have hm : (ts.map V.ref).length = ts.length := List.length_map ..
  refine lc_it walk_list (fun i H => Same H1 H ∧ ∃ us : List Addr, us.length = i ∧ (∀ j, j < i → H (us.getD j 0) = some (.tup (g j))) ∧ H D = some (.lst (us.map V.ref))) ⟨same_upd hD, [], rfl, fun j hj => absurd hj (Nat.not_lt_zero j), upd_same⟩ (fun i H _ h => h.1.seq hL) (fun i x H H' hi hP hy => ?_) (fun H h => by
    obtain ⟨sm, us, hl, hu, e⟩ := h
    rw [hm] at hl hu
    exact hd H us sm hl hu e)
  obtain ⟨sm, us, hl, hu, eD⟩ := hP
  obtain ⟨rfl, hx⟩ := hy
  rw [hm] at hi
  rw [List.getElem?_map, List.getElem?_eq_getElem hi] at hx
  obtain rfl := Option.some.inj hx
  have hTi := hT i hi
  rw [List.getD_eq_getElem?_getD, List.getElem?_eq_getElem hi] at hTi
  refine ⟨ts[i], _, rfl, seqT sm hTi, rfl, _, _, rfl, _, _, rfl, rfl, ?_, ?_⟩
  · show (((((σ.set c2 none).set c1 none).set c1 (some (ps i).1)).set c2 (some (ps i).2)).set c2 none).set c1 none = (σ.set c2 none).set c1 none
    rw [List.set_set, List.set_set, List.set_comm _ _ hne, List.set_set, List.set_comm _ _ hne.symm, List.set_comm _ _ hne, List.set_set]
  · refine he i H' _ hi sm fun p H3 s3 np e3 => ⟨_, s3 _ _ eD, ?_, ?_, us ++ [p], ?_, ?_, ?_⟩
    · rw [List.length_map]; omega
    · intro b' o hb'
      rw [upd_ne (ne_of_none hb' hD)]
      exact s3 _ _ (sm _ _ hb')
    · rw [List.length_append, hl]; rfl
    · intro j hj
      have hDt : ∀ q xs, H3 q = some (.tup xs) → q ≠ D := fun q xs e z => by
        rw [z, s3 _ _ eD] at e
        exact nomatch e
      by_cases hj2 : j < i
      · rw [getD_app_l _ _ _ (by omega)]
        have e4 := s3 _ _ (hu j hj2)
        rw [upd_ne (hDt _ _ e4)]
        exact e4
      · have : j = i := by omega
        subst this
        rw [getD_app_r _ _ _ (by omega), hl, Nat.sub_self]
        show upd H3 D _ p = _
        rw [upd_ne (hDt _ _ e3)]
        exact e3
    · rw [upd_same, List.map_append]
      rfl
end LH

namespace LH
open PySem PySem.Spec PyProof.Rows L2
/-! ### a comprehension whose elements are new lists; one over two clauses, the second over lists that stand -/
theorem lc_two2 {K : PySem.W.Frag} {J : It} {n : Nat} {G : Hp → Prop} {wi1 : TI} {te : TE} {c c1 : Nat} {σ : L2.St} {H1 : Hp} {D : Addr} {Qd : Hp → Prop} (xs : Nat → V) (ys : Nat → List V) (f : Nat → Nat → V) (hne : c ≠ c1) (w : Walk J n G (YFn xs)) (hG : ∀ H, Same H1 H → G H) (hD : H1 D = none)
    (hn : ∀ i, i ≤ n → (((List.range i).map fun i => (List.range (ys i).length).map (f i)).flatten).length ≤ sizeLine)
    (hi : ∀ i H (R : It → Hp → Prop), i < n → Same H1 H → (∀ H' p, Same H H' → p ≠ D → H' p = some (.lst (ys i)) → R (Itl K p) H') → wi1 (((σ.set c1 none).set c none).set c (some (xs i))) H R)
    (he : ∀ i j H Q, i < n → j < (ys i).length → Same H1 H → Tell H (f i j) Q → te (((((σ.set c1 none).set c none).set c (some (xs i))).set c1 none).set c1 (some ((ys i).getD j .non))) H Q)
    (hd : ∀ H, Same H1 H → H D = some (.lst (((List.range n).map fun i => (List.range (ys i).length).map (f i)).flatten)) → Qd H) :
    ∃ W : Nat → Nat → Hp → Prop, (∃ m, W 0 m (upd H1 D (.lst []))) ∧ ∀ i m H, W i m H →
      (J.stop i H ∧ Qd H) ∨ (J.go i H ∧ ∃ Nx : Hp → Prop, (∀ H', Nx H' → ∃ m', m' < m ∧ W (i + 1) m' H') ∧ ∀ x H', J.yld i H x H' → gName c x (wipe σ [c, c1]) H' fun σ2 H2 => wipe σ2 [c, c1] = wipe σ [c, c1] ∧ tYes σ2 H2 fun b H3 =>
        if b = true then wi1 σ2 H3 fun J1 H4 => ∃ W1 : Nat → Nat → Hp → Prop, (∃ m, W1 0 m H4) ∧ ∀ j k H, W1 j k H →
          (J1.stop j H ∧ Nx H) ∨ (J1.go j H ∧ ∃ Nx1 : Hp → Prop, (∀ H', Nx1 H' → ∃ k', k' < k ∧ W1 (j + 1) k' H') ∧ ∀ x H', J1.yld j H x H' → gName c1 x (wipe σ2 [c1]) H' fun σ3 H5 => wipe σ3 [c1] = wipe σ2 [c1] ∧ tYes σ3 H5 fun b H6 =>
            if b = true then te σ3 H6 fun y H7 => ∃ acc, H7 D = some (.lst acc) ∧ acc.length < sizeLine ∧ Nx1 (upd H7 D (.lst (acc ++ [y]))) else Nx1 H6)
        else Nx H3) := by
  let A : Nat → List V := fun i => ((List.range i).map fun i => (List.range (ys i).length).map (f i)).flatten
  have hA : ∀ i, A (i + 1) = A i ++ (List.range (ys i).length).map (f i) := fun i => by
    show ((List.range (i + 1)).map _).flatten = _
    rw [List.range_succ, List.map_append, List.flatten_append]
    simp [A]
  refine ⟨fun i m H => m = n - i ∧ i ≤ n ∧ Same H1 H ∧ H D = some (.lst (A i)), ⟨n, by simp, Nat.zero_le _, same_upd hD, upd_same⟩, ?_⟩
  rintro i m H ⟨rfl, hin, sm, eD⟩
  have q := hG H sm
  by_cases hlt : i < n
  · refine .inr ⟨w.goes i H hlt q, fun H' => Same H1 H' ∧ H' D = some (.lst (A (i + 1))), fun H' p' => ⟨n - (i + 1), by omega, rfl, hlt, p'⟩, fun x H' y => ?_⟩
    obtain ⟨rfl, rfl⟩ := w.yields i H x H' hlt q y
    refine ⟨?_, ?_⟩
    · show (((((σ.set c1 none).set c none).set c (some (xs i))).set c1 none).set c none) = (σ.set c1 none).set c none
      rw [List.set_set, List.set_comm _ _ hne]
      simp only [List.set_set]
    · unfold tYes
      dsimp only
      rw [if_pos rfl]
      refine hi i H' _ hlt sm fun H4 p s4 hpD ep => ?_
      have hl := hn (i + 1) hlt
      refine ⟨fun j k H => k = (ys i).length - j ∧ j ≤ (ys i).length ∧ Same H1 H ∧ H p = some (.lst (ys i)) ∧ H D = some (.lst (A i ++ ((List.range j).map (f i)))), ⟨(ys i).length, by simp, Nat.zero_le _, sm.trans s4, ep, by simpa using s4 _ _ eD⟩, ?_⟩
      rintro j k H5 ⟨rfl, hj, s5, e5, eD5⟩
      by_cases hjl : j < (ys i).length
      · refine .inr ⟨⟨ys i, (ys i)[j], .inl (.inl e5), by simp [hjl]⟩, fun H' => Same H1 H' ∧ H' p = some (.lst (ys i)) ∧ H' D = some (.lst (A i ++ ((List.range (j + 1)).map (f i)))), fun H' p' => ⟨(ys i).length - (j + 1), by omega, rfl, hjl, p'⟩, fun x H6 y => ?_⟩
        obtain ⟨rfl, hx⟩ := y
        have hx := hx (ys i) (.inl (.inl e5))
        have ex : x = (ys i).getD j .non := by rw [List.getD_eq_getElem?_getD, hx]; rfl
        subst ex
        refine ⟨?_, ?_⟩
        · show (((((((σ.set c1 none).set c none).set c (some (xs i))).set c1 none).set c1 (some ((ys i).getD j .non)))).set c1 none) = (((σ.set c1 none).set c none).set c (some (xs i))).set c1 none
          rw [List.set_set, List.set_set]
        · rw [if_pos rfl]
          refine he i j H6 _ hlt hjl s5 fun H7 s7 => ⟨_, s7 _ _ eD5, ?_, ?_, ?_, ?_⟩
          · have e1 : (A (i + 1)).length ≤ sizeLine := hl
            rw [hA, List.length_append, List.length_map, List.length_range] at e1
            rw [List.length_append, List.length_map, List.length_range]
            omega
          · intro b o hb
            rw [upd_ne (ne_of_none hb hD)]
            exact s7 _ _ (s5 _ _ hb)
          · rw [upd_ne hpD]
            exact s7 _ _ e5
          · rw [upd_same, List.range_succ, List.map_append, List.append_assoc]
            rfl
      · have hj2 : j = (ys i).length := by omega
        subst hj2
        refine .inl ⟨⟨ys i, .inl (.inl e5), Nat.le_refl _⟩, s5, ?_⟩
        rw [hA]
        exact eD5
  · have e : i = n := by omega
    subst e
    exact .inl ⟨w.stops H q, hd H sm eD⟩
theorem lc_news {J : It} {n : Nat} {G : Hp → Prop} {te : TE} {c : Nat} {σ : L2.St} {H1 : Hp} {D : Addr} {Qd : Hp → Prop} (xs : Nat → V) (ys : Nat → List V) (w : Walk J n G (YFn xs)) (hG : ∀ H, Same H1 H → G H) (hD : H1 D = none) (hn : n ≤ sizeLine)
    (he : ∀ i H Q, i < n → Same H1 H → New H (ys i) Q → te ((σ.set c none).set c (some (xs i))) H Q)
    (hd : ∀ H (us : List Addr), Same H1 H → us.length = n → (∀ i, i < n → us.getD i 0 ≠ D ∧ H (us.getD i 0) = some (.lst (ys i))) → H D = some (.lst (us.map V.ref)) → Qd H) :
    ∃ W : Nat → Nat → Hp → Prop, (∃ m, W 0 m (upd H1 D (.lst []))) ∧ ∀ i m H, W i m H →
      (J.stop i H ∧ Qd H) ∨ (J.go i H ∧ ∃ Nx : Hp → Prop, (∀ H', Nx H' → ∃ m', m' < m ∧ W (i + 1) m' H') ∧ ∀ x H', J.yld i H x H' → gName c x (wipe σ [c]) H' fun σ2 H2 => wipe σ2 [c] = wipe σ [c] ∧ tYes σ2 H2 fun b H3 =>
        if b = true then te σ2 H3 fun y H4 => ∃ acc, H4 D = some (.lst acc) ∧ acc.length < sizeLine ∧ Nx (upd H4 D (.lst (acc ++ [y]))) else Nx H3) := by
  refine lc_it w (fun i H => Same H1 H ∧ ∃ us : List Addr, us.length = i ∧ (∀ j, j < i → us.getD j 0 ≠ D ∧ H (us.getD j 0) = some (.lst (ys j))) ∧ H D = some (.lst (us.map V.ref))) ⟨same_upd hD, [], rfl, fun j hj => absurd hj (Nat.not_lt_zero j), upd_same⟩ (fun i H _ h => hG H h.1) (fun i x H H' hi hP hy => ?_) (fun H h => by
    obtain ⟨sm, us, hl, hu, e⟩ := h
    exact hd H us sm hl hu e)
  obtain ⟨sm, us, hl, hu, eD⟩ := hP
  obtain ⟨rfl, rfl⟩ := hy
  refine ⟨?_, ?_⟩
  rotate_left
  · unfold tYes
    dsimp only
    rw [if_pos rfl]
    refine he i H' _ hi sm fun H3 p s3 np e3 => ⟨_, s3 _ _ eD, ?_, ?_, us ++ [p], ?_, ?_, ?_⟩
    · rw [List.length_map]; omega
    · intro b' o hb'
      rw [upd_ne (ne_of_none hb' hD)]
      exact s3 _ _ (sm _ _ hb')
    · rw [List.length_append, hl]; rfl
    · intro j hj
      by_cases hj2 : j < i
      · rw [getD_app_l _ _ _ (by omega)]
        refine ⟨(hu j hj2).1, ?_⟩
        rw [upd_ne (hu j hj2).1]
        exact s3 _ _ (hu j hj2).2
      · have : j = i := by omega
        subst this
        rw [getD_app_r _ _ _ (by omega), hl, Nat.sub_self]
        have hpD : p ≠ D := fun e => by rw [e, eD] at np; exact nomatch np
        refine ⟨hpD, ?_⟩
        show upd H3 D _ p = _
        rw [upd_ne hpD]
        exact e3
    · rw [upd_same, List.map_append]
      rfl
  · show (((σ.set c none).set c (some (xs i))).set c none) = σ.set c none
    rw [List.set_set, List.set_set]
/-! ### lists of lists of ints as data -/
def dLists (ls : List (List Int)) : List PyData := ls.map fun b => .list (b.map PyData.int)
theorem lay_ints (b : List Int) : PyData.canLayAll0 (b.map PyData.int) = true := by
  induction b with
  | nil => simp [PyData.canLayAll0]
  | cons x r ih => simp [PyData.canLayAll0, PyData.canLay0, ih]
theorem depth_ints (b : List Int) : PyData.depthAll (b.map PyData.int) = 0 := by
  induction b with
  | nil => rfl
  | cons x r ih => simp [PyData.depthAll, PyData.depth, ih]
theorem lay_lists (ls : List (List Int)) : PyData.canLayAll0 (dLists ls) = true := by
  induction ls with
  | nil => simp [dLists, PyData.canLayAll0]
  | cons x r ih =>
    show PyData.canLayAll0 (.list (x.map PyData.int) :: dLists r) = true
    simp [PyData.canLayAll0, PyData.canLay0, lay_ints, ih]
theorem depth_lists (ls : List (List Int)) : PyData.depthAll (dLists ls) ≤ 1 := by
  induction ls with
  | nil => simp [dLists, PyData.depthAll]
  | cons x r ih =>
    show PyData.depthAll (.list (x.map PyData.int) :: dLists r) ≤ 1
    simp [PyData.depthAll, PyData.depth, depth_ints]
    omega
theorem shaped_lists (ls : List (List Int)) : SeqAt.shaped (.list (dLists ls)) = true := by
  have := depth_lists ls
  simp [SeqAt.shaped, PyData.canLay0, PyData.depth, lay_lists]
  omega
theorem any_none (ls : List (List Int)) : ((dLists ls).any fun z => PyData.eqv z .none) = false := by
  induction ls with
  | nil => rfl
  | cons x r ih =>
    show (PyData.eqv (.list (x.map PyData.int)) .none || ((dLists r).any fun z => PyData.eqv z .none)) = false
    rw [ih]
    simp [PyData.eqv]
theorem dpAll_refs {K : PySem.W.Frag} {H : Hp} : ∀ (us : List Addr) (ls : List (List Int)), us.length = ls.length → (∀ i, i < us.length → H (us.getD i 0) = some (.lst ((ls.getD i []).map V.int))) → DpAll K H (us.map V.ref) (dLists ls)
  | [], [], _, _ => .nil
  | u :: us, l :: ls, hl, h => .cons (dp_ints (.inl (.inl (h 0 (Nat.zero_lt_succ _))))) (dpAll_refs us ls (Nat.succ.inj hl) fun i hi => h (i + 1) (Nat.succ_lt_succ hi))
  | [], _ :: _, hl, _ => nomatch hl
  | _ :: _, [], hl, _ => nomatch hl
/-- a list of None -/
def dNones (n : Nat) : List PyData := List.replicate n .none
theorem dpAll_nones {K : PySem.W.Frag} {H : Hp} : ∀ n : Nat, DpAll K H (List.replicate n V.non) (dNones n)
  | 0 => .nil
  | n + 1 => .cons .non (dpAll_nones n)
theorem lay_nones (n : Nat) : PyData.canLayAll0 (dNones n) = true := by
  induction n with
  | zero => simp [dNones, PyData.canLayAll0]
  | succ n ih =>
    show PyData.canLayAll0 (.none :: dNones n) = true
    simp [PyData.canLayAll0, PyData.canLay0, ih]
theorem depth_nones (n : Nat) : PyData.depthAll (dNones n) = 0 := by
  induction n with
  | zero => simp [dNones, PyData.depthAll]
  | succ n ih =>
    show PyData.depthAll (.none :: dNones n) = 0
    simp [PyData.depthAll, PyData.depth, ih]
theorem shaped_nones (n : Nat) : SeqAt.shaped (.list (dNones n)) = true := by
  simp [SeqAt.shaped, PyData.canLay0, PyData.depth, lay_nones, depth_nones]
theorem any_nones (n : Nat) : ((dNones n).any fun z => PyData.eqv z .none) = decide (n ≠ 0) := by
  cases n with
  | zero => rfl
  | succ n =>
    show (PyData.eqv .none .none || _) = _
    simp [PyData.eqv]
end LH

namespace LH
open PySem PySem.Spec PyProof.Rows L2
/-! ### x not in a tuple of lists; a comprehension over enumerate(list) -/
def rNotInTD (K : PySem.W.Frag) : R2 := fun x y H Q => ∃ d ds, Dp K H x d ∧ Dp K H y (.tuple ds) ∧ SeqAt.shaped d = true ∧ PyData.canLayAll0 ds = true ∧ Q (.bl (!ds.any fun z => PyData.eqv z d)) H
theorem notInTD (K : PySem.W.Frag) {X : Cx} (hu : X.A.units + 65 < cLine) (h : X.K = K := by rfl) : OpR X (compareOp .NotIn) (rNotInTD K) := by
  subst h
  intro pins s σ H x y v u Q I rx ry h
  obtain ⟨d, ds, hd, he, sd, se, q⟩ := h
  obtain ⟨as, r1⟩ := Dp.reads I d x v hd rx
  obtain ⟨bs, r2⟩ := Dp.reads I (.tuple ds) y u he ry
  exact SeqAt.notIn_tuple_reads r2 r1 se (SeqAt.canLay_of_shaped sd) (room_in_shaped sd hu) ⟨.bl _, H, I, rfl, q⟩
theorem lc_enumF {K : PySem.W.Frag} {a : Addr} {tt : TT} {te : TE} {c1 c2 : Nat} {σ : L2.St} {H1 : Hp} {D : Addr} {Qd : Hp → Prop} (xs : List V) (f : Nat → V) (b : Nat → Bool) (hne : c1 ≠ c2) (hL : SqL K H1 a xs) (hD : H1 D = none) (hn : xs.length ≤ sizeLine)
    (ht : ∀ (i : Nat) (H : Hp) (Q : Bool → Hp → Prop), i < xs.length → Same H1 H → (∀ H', Same H H' → Q (b i) H') → tt ((((σ.set c2 none).set c1 none).set c1 (some (.int (i : Nat)))).set c2 (some (xs.getD i .non))) H Q)
    (he : ∀ i H Q, i < xs.length → Same H1 H → b i = true → Tell H (f i) Q → te ((((σ.set c2 none).set c1 none).set c1 (some (.int (i : Nat)))).set c2 (some (xs.getD i .non))) H Q)
    (hd : ∀ H, Same H1 H → H D = some (.lst (((List.range xs.length).filter b).map f)) → Qd H) :
    ∃ W : Nat → Nat → Hp → Prop, (∃ m, W 0 m (upd H1 D (.lst []))) ∧ ∀ i m H, W i m H →
      ((Ite K a).stop i H ∧ Qd H) ∨ ((Ite K a).go i H ∧ ∃ Nx : Hp → Prop, (∀ H', Nx H' → ∃ m', m' < m ∧ W (i + 1) m' H') ∧ ∀ x H', (Ite K a).yld i H x H' → gTup K 2 (gCons (gName c1) (gCons (gName c2) gNil)) x (wipe σ [c1, c2]) H' fun σ2 H2 => wipe σ2 [c1, c2] = wipe σ [c1, c2] ∧ tt σ2 H2 fun b H3 =>
        if b = true then te σ2 H3 fun y H4 => ∃ acc, H4 D = some (.lst acc) ∧ acc.length < sizeLine ∧ Nx (upd H4 D (.lst (acc ++ [y]))) else Nx H3) := by
  refine lc_it walk_enum (fun i H => Same H1 H ∧ H D = some (.lst (((List.range i).filter b).map f))) ⟨same_upd hD, upd_same⟩ (fun i H _ h => h.1.seq hL) (fun i x H H' hi hP hy => ?_) (fun H h => hd H h.1 h.2)
  obtain ⟨sm, eD⟩ := hP
  obtain ⟨T, x1, x2, rfl, nT, rfl, f1, f2⟩ := hy
  obtain rfl := Option.some.inj f1
  have f2 : xs[i]? = some x2 := f2
  have ex : x2 = xs.getD i .non := by rw [List.getD_eq_getElem?_getD, f2]; rfl
  subst ex
  have sT := same_upd (o := .tup [.int (i : Nat), xs.getD i .non]) nT
  refine ⟨T, _, rfl, .inl (.inl upd_same), rfl, _, _, rfl, _, _, rfl, rfl, ?_, ?_⟩
  · show (((((σ.set c2 none).set c1 none).set c1 (some (.int (i : Nat)))).set c2 (some (xs.getD i .non))).set c2 none).set c1 none = (σ.set c2 none).set c1 none
    rw [List.set_set, List.set_set, List.set_comm _ _ hne, List.set_set, List.set_comm _ _ hne.symm, List.set_comm _ _ hne, List.set_set]
  · refine ht i _ _ hi (sm.trans sT) fun H2 s2 => ?_
    have s2 := sT.trans s2
    cases hb : b i with
    | true =>
      rw [if_pos rfl]
      refine he i H2 _ hi (sm.trans s2) hb fun H3 s3 => ⟨_, s3 _ _ (s2 _ _ eD), ?_, ?_, ?_⟩
      · rw [List.length_map]
        have := List.length_filter_le b (List.range i)
        rw [List.length_range] at this
        omega
      · intro b' o hb'
        rw [upd_ne (ne_of_none hb' hD)]
        exact s3 _ _ (s2 _ _ (sm _ _ hb'))
      · rw [upd_same, List.range_succ, List.filter_append, List.map_append]
        simp [hb]
    | false =>
      rw [if_neg Bool.false_ne_true]
      refine ⟨sm.trans s2, ?_⟩
      rw [s2 _ _ eD, List.range_succ, List.filter_append, List.map_append]
      simp [hb]
/-- 'abc'[k].replace(' ', ''): the written text's own token is out by then -/
theorem pe_replIx {X : Cx} {r : R2} {c y z : Str} {b : Expr} {tb : TE} {j j0 k : Nat} {c0 c1 p0 p1 apos pos : Pos} (hr : IxR X r) (hb : PE X b tb) (hs : PlainIx b) (hyz : (y == z) = false := by decide)
    (hst : starEach [.Constant (.str y) j c0, .Constant (.str z) k c1] X.env = [(false, eval (.Constant (.str y) j c0) X.env), (false, eval (.Constant (.str z) k c1) X.env)] := by rfl)
    (hbase : attributeBase (.Subscript (.Constant (.str c) j0 p0) b p1) "replace" X.env (eval (.Subscript (.Constant (.str c) j0 p0) b p1) X.env) = eval (.Subscript (.Constant (.str c) j0 p0) b p1) X.env := by rfl) (hline : (apos.endLine == pos.line) = true := by rfl) :
    PE X (.Call (.Attribute (.Subscript (.Constant (.str c) j0 p0) b p1) "replace" apos) [.Constant (.str y) j c0, .Constant (.str z) k c1] [] pos) (CwR.tReplC (tOp r (tC (.str c)) tb) y z) := by
  refine ⟨fun pins s σ H Q I h => ?_⟩
  refine PySem.Call_method2 hbase hst hline (Subscript_ (Calls.Constant_str ?_))
  refine wpAny_mono (PySem.wpAny_toks_of (n := 1) (by show 1 ≤ s.toks + 1; omega) (hb.run pins _ σ H _ (I.tok _) h)) (fun u s2 q => ?_) fun _ _ x => x.2
  obtain ⟨hk, yv, H2, I2, r2, q2⟩ := q
  refine wpAny_mono (PySem.wpAny_toks_of hk (hr _ _ pins s2 σ H2 (.str c) yv _ u _ I2 ⟨_, rfl⟩ r2 q2 (hs _ _))) (fun v s3 q => ?_) fun _ _ x => x.2
  obtain ⟨hk3, v', H3, I3, r3, x, e1, hb3, q⟩ := q
  subst e1
  obtain ⟨tx, rfl⟩ := r3
  refine ⟨"str", _, PySem.F.plainAttrs_str, PySem.F.slot_str_replace, PySem.F.type_str_replace, typeIs_str _ _ _, (fun _ e => nomatch e), Calls.callWith_builtin rfl (Calls.evalArgs_plain (Calls.spliced_cons (Calls.Constant_str (Calls.spliced_cons (Calls.Constant_str (Calls.spliced_nil ?_))))))⟩
  exact PySem.SC.replace (by show s3.toks ≠ 0; omega) (by show s3.toks + 1 ≠ 0; omega) (by show s3.toks ≠ s3.toks + 1; omega) hyz hb3 fun t' k => ⟨.str (Txt.replace x y z), H3, I3.tok k, ⟨t', rfl⟩, q⟩
end LH

namespace LH
open PySem PySem.Spec PyProof.Rows L2 Builtin Builtin.Str PySem.StrLaws
/-! ### one sign: where it is found, how often it stands, whether it ends a text, a text without it at its end -/
theorem find_hit (x : Str) (c : Nat) (p r : List Nat) (hx : TL.tl x = p ++ c :: r) (hp : c ∉ p) : Txt.find x ⟨#[c]⟩ = (p.length : Int) ∧ ∃ rest, occurrences x ⟨#[c]⟩ 0 x.length 1 = p.length :: rest := by
  have hm0 : x.cps.toList[p.length]? = some c := by
    show (TL.tl x)[p.length]? = some c
    rw [hx]; simp
  have hn0 : ∀ k, k < p.length → x.cps.toList[k]? ≠ some c := fun k hk e => by
    have e' : (TL.tl x)[k]? = some c := e
    rw [hx, List.getElem?_append_left hk] at e'
    exact hp (List.mem_of_getElem? e')
  unfold Txt.find
  rcases occ_head x ⟨#[c]⟩ 1 (Nat.le_refl 1) with ⟨h0, hn⟩ | ⟨i, q, h0, hi, hn⟩
  · exact absurd ((subAt_one x c p.length).mpr hm0) (hn _)
  · have hm := (subAt_one x c i).mp hi
    have e : i = p.length := by
      rcases Nat.lt_trichotomy i p.length with h | h | h
      · exact absurd hm (hn0 i h)
      · exact h
      · exact absurd ((subAt_one x c p.length).mpr hm0) (hn _ h)
    subst e
    rw [h0]
    exact ⟨rfl, q, rfl⟩
theorem find_miss (x : Str) (c : Nat) (h : c ∉ TL.tl x) : Txt.find x ⟨#[c]⟩ = -1 := by
  unfold Txt.find
  rcases occ_head x ⟨#[c]⟩ 1 (Nat.le_refl 1) with ⟨h0, hn⟩ | ⟨i, q, h0, hi, hn⟩
  · rw [h0]
  · exact absurd (List.mem_of_getElem? ((subAt_one x c i).mp hi)) h
/-- the place of a sign in a text of unlike signs -/
theorem find_at (x : Str) (i : Nat) (h : i < (TL.tl x).length) (hd : (TL.tl x).Nodup) : Txt.find x ⟨#[(TL.tl x)[i]]⟩ = (i : Int) ∧ ∃ rest, occurrences x ⟨#[(TL.tl x)[i]]⟩ 0 x.length 1 = i :: rest := by
  have e : TL.tl x = (TL.tl x).take i ++ (TL.tl x)[i] :: (TL.tl x).drop (i + 1) := by
    rw [← List.drop_eq_getElem_cons h, List.take_append_drop]
  have hl : ((TL.tl x).take i).length = i := by rw [List.length_take]; omega
  have hn : (TL.tl x)[i] ∉ (TL.tl x).take i := fun hm => by
    obtain ⟨j, hj, ej⟩ := List.mem_iff_getElem.mp hm
    rw [hl] at hj
    rw [List.getElem_take] at ej
    exact List.pairwise_iff_getElem.mp hd j i (by omega) h hj ej
  have := find_hit x (TL.tl x)[i] _ _ e hn
  rw [hl] at this
  exact this
theorem count_one (x : Str) (c : Nat) : Txt.count x ⟨#[c]⟩ = ((TL.tl x).count c : Nat) := by
  have hsub : ∀ i, (i + (⟨#[c]⟩ : Str).length ≤ x.length ∧ subAt x ⟨#[c]⟩ i = true) ↔ (TL.tl x)[i]? = some c := fun i => subAt_one x c i
  have key : ∀ (n lo : Nat) (st : Array Nat × Nat), lo + n = x.length + 1 → st.1.size ≤ lo → st.2 ≤ lo → (forIn (List.range' lo n) st (occBody x ⟨#[c]⟩ x.length (x.length + 1))).run.1.size = st.1.size + ((TL.tl x).drop lo).count c := by
    intro n
    induction n with
    | zero =>
      intro lo st h1 h2 h3
      have : (TL.tl x).drop lo = [] := List.drop_of_length_le (by rw [← TL.len_tl]; omega)
      rw [this]
      simp
    | succ n ih =>
      intro lo st h1 h2 h3
      rw [List.range'_succ, List.forIn_cons]
      unfold occBody
      by_cases hc : (TL.tl x)[lo]? = some c
      · have hs := (hsub lo).mpr hc
        rw [if_pos ⟨⟨⟨by omega, h3⟩, hs.1⟩, hs.2⟩]
        have hlt := (List.getElem?_eq_some_iff.mp hc).1
        have hd : (TL.tl x).drop lo = c :: (TL.tl x).drop (lo + 1) := by
          rw [List.drop_eq_getElem_cons hlt, (List.getElem?_eq_some_iff.mp hc).2]
        have := ih (lo + 1) (st.1.push lo, lo + (⟨#[c]⟩ : Str).length) (by omega) (by rw [Array.size_push]; omega) (by show lo + 1 ≤ lo + 1; omega)
        simp only [pure_bind]
        refine Eq.trans this ?_
        show (st.1.push lo).size + _ = _
        rw [Array.size_push, hd, List.count_cons_self]
        omega
      · rw [if_neg (fun h => hc ((hsub lo).mp ⟨h.1.2, h.2⟩))]
        have := ih (lo + 1) (st.1, st.2) (by omega) (by show st.1.size ≤ lo + 1; omega) (by show st.2 ≤ lo + 1; omega)
        simp only [pure_bind]
        refine Eq.trans this ?_
        have hd : ((TL.tl x).drop lo).count c = ((TL.tl x).drop (lo + 1)).count c := by
          by_cases hlt : lo < (TL.tl x).length
          · rw [List.drop_eq_getElem_cons hlt]
            rw [List.getElem?_eq_getElem hlt] at hc
            have : (TL.tl x)[lo] ≠ c := fun e => hc (congrArg some e)
            exact List.count_cons_of_ne this
          · rw [List.drop_of_length_le (by omega), List.drop_of_length_le (by omega)]
        rw [hd]
  unfold Txt.count
  rw [occ_eq, Array.length_toList, Nat.sub_zero, key (x.length + 1) 0 (#[], 0) (by omega) (Nat.zero_le _) (Nat.zero_le _)]
  simp
theorem ends_one (x y : Str) (c : Nat) (hy : TL.tl y = [c]) : Txt.endswith x y = decide ((TL.tl x).getLast? = some c) := by
  obtain rfl : y = ⟨#[c]⟩ := TL.ext_tl hy
  unfold Txt.endswith
  rw [Bool.eq_iff_iff, Bool.and_eq_true, decide_eq_true_eq, decide_eq_true_eq]
  have hl : x.length = (TL.tl x).length := TL.len_tl x
  have h1 : (⟨#[c]⟩ : Str).length = 1 := rfl
  constructor
  · rintro ⟨h2, h3⟩
    have := (subAt_one x c (x.length - 1)).mp ⟨by rw [h1] at *; omega, h3⟩
    have e : (TL.tl x)[(TL.tl x).length - 1]? = some c := by rw [← hl]; exact this
    rw [List.getLast?_eq_getElem?]
    exact e
  · intro h
    rw [List.getLast?_eq_getElem?] at h
    have hlt := (List.getElem?_eq_some_iff.mp h).1
    have := (subAt_one x c (x.length - 1)).mpr (by rw [hl]; exact h)
    exact ⟨by rw [h1]; omega, this.2⟩
theorem rstrip_app (x y : Str) (c : Nat) (b : List Nat) (k : Nat) (hy : TL.tl y = [c]) (hx : TL.tl x = b ++ List.replicate k c) (hb : b.getLast? ≠ some c) : TL.tl (Txt.rstripChars x y) = b := by
  obtain rfl : y = ⟨#[c]⟩ := TL.ext_tl hy
  have hl : x.length = b.length + k := by rw [TL.len_tl, hx, List.length_append, List.length_replicate]
  have htw : ((x.cps.toList.drop 0).reverse.takeWhile (⟨#[c]⟩ : Str).cps.contains).length = k := by
    rw [List.drop_zero, show x.cps.toList = TL.tl x from rfl, hx, List.reverse_append, List.reverse_replicate]
    have hc : ∀ d, (⟨#[c]⟩ : Str).cps.contains d = decide (d = c) := fun d => by
      show (#[c] : Array Nat).contains d = _
      simp
    rw [List.takeWhile_append_of_pos (by intro d hd; rw [hc]; exact decide_eq_true (List.mem_replicate.mp hd).2)]
    rw [List.length_append, List.length_replicate]
    have : (b.reverse.takeWhile (⟨#[c]⟩ : Str).cps.contains) = [] := by
      rcases List.eq_nil_or_concat b with h | ⟨B, d, h⟩
      · rw [h]; rfl
      · rw [List.concat_eq_append] at h
        rw [h] at hb ⊢
        rw [List.getLast?_concat] at hb
        rw [List.reverse_append]
        show List.takeWhile _ (d :: B.reverse) = []
        rw [List.takeWhile_cons, hc, decide_eq_false (fun e => hb (congrArg some e))]
        rfl
    rw [this]
    rfl
  unfold Txt.rstripChars Txt.stripBy
  have hlo : stripLo (⟨#[c]⟩ : Str).cps.contains false x = 0 := rfl
  have hhi : stripHi (⟨#[c]⟩ : Str).cps.contains true x 0 = b.length := by
    unfold stripHi
    rw [if_pos rfl, htw, hl]
    omega
  split
  · rename_i h
    unfold stripSame at h
    rw [hlo, hhi, hl] at h
    simp only [beq_self_eq_true, Bool.true_and, beq_iff_eq] at h
    have : k = 0 := by omega
    rw [hx, this]
    simp
  · unfold stripped
    rw [hlo, hhi]
    show (strSub x 0 b.length).cps.toList = b
    rw [strSub_toList, show x.cps.toList = TL.tl x from rfl, hx]
    simp
end LH

namespace LH
open PySem PySem.Spec PySem.Calls PyProof.Rows L2
/-! ### a call of what a parameter holds -/
/-- at f stands a def of the promise sp -/
def FnV (P : Program) (w : World) (K : PySem.W.Frag) (mg : Str → Option Value) (base : Heap) (k : Nat) (f : Addr) (sp : Sp) : Prop := ∃ (fd : FuncData) (ps : List Str), FnOk P w K mg base CX0 k f fd ps sp ∧ PySem.W.keepIn K (.ref f) = true ∧ Binds K fd ps []
def tCallV (P : Program) (w : World) (K : PySem.W.Frag) (mg : Str → Option Value) (base : Heap) (k : Nat) (tv : TE) (t : TA) : TE := fun σ H Q => tv σ H fun v H1 => ∃ (f : Addr) (sp : Sp), v = .ref f ∧ FnV P w K mg base k f sp ∧ t σ H1 fun vs H2 => sp vs H2 Q E0
theorem pe_callV {X : Cx} {x : Str} {k : Nat} {e : Expr} {es : List Expr} {tv : TE} {t : TA} {p pos : Pos} (hr : Room k X.A) (hv : PE X (.Name x p) tv) (ha : PA X (e :: es) t) (he : starEach (e :: es) X.env = (false, eval e X.env) :: starEach es X.env := by rfl) (hpl : (backTo pos (starEach es X.env)).any (·.1) = false := by rfl) :
    PE X (.Call (.Name x p) (e :: es) [] pos) (tCallV X.prog X.w X.K X.mg X.base k tv t) := by
  refine ⟨fun pins s σ H Q I h => ?_⟩
  refine wpAny_Call_Name_kw (thn (hv.run pins s σ H _ I h) fun u s1 ⟨v, H1, I1, rv, f, sp, ev, ⟨fd, ps, F, hk, hb⟩, q⟩ => ?_)
  subst ev
  obtain rfl : u = Value.ref f := rv
  refine PySem.W.callWith_K (h₀ := X.base) I.ok.mod.kin hk (thn (ha.run pos pins s1 σ H1 _ I1 q) fun us s2 ⟨vs, H2, I2, r, q2⟩ => ⟨I2.kIn, ?_⟩) he hpl
  exact run_fn F hr hb .nil pass0 I2 r (by rw [List.append_nil]; exact q2)
theorem FnV.of {P : Program} {w : World} {K : PySem.W.Frag} {mg : Str → Option Value} {base : Heap} {x : Str} {k : Nat} {f : Addr} {fd : FuncData} {ps : List Str} {sp : Sp} (D : Def P w K mg base x k f fd ps sp) : FnV P w K mg base k f sp := ⟨fd, ps, D.ok, D.kp, D.bd⟩
end LH

namespace LH
open PySem PySem.Spec PyProof.Rows L2
/-! ### comprehensions whose elements are known by a property alone -/
theorem lc_dem {J : It} {n : Nat} {G : Hp → Prop} {te : TE} {c : Nat} {σ : L2.St} {H1 : Hp} {D : Addr} {Qd : Hp → Prop} (xs : Nat → V) (Pe : Nat → V → Prop) (w : Walk J n G (YFn xs)) (hG : ∀ H, Same H1 H → G H) (hD : H1 D = none) (hn : n ≤ sizeLine)
    (he : ∀ i H Q, i < n → Same H1 H → (∀ H' v, Same H H' → Pe i v → Q v H') → te ((σ.set c none).set c (some (xs i))) H Q)
    (hd : ∀ H vs, Same H1 H → vs.length = n → (∀ i, i < n → Pe i (vs.getD i .non)) → H D = some (.lst vs) → Qd H) :
    ∃ W : Nat → Nat → Hp → Prop, (∃ m, W 0 m (upd H1 D (.lst []))) ∧ ∀ i m H, W i m H →
      (J.stop i H ∧ Qd H) ∨ (J.go i H ∧ ∃ Nx : Hp → Prop, (∀ H', Nx H' → ∃ m', m' < m ∧ W (i + 1) m' H') ∧ ∀ x H', J.yld i H x H' → gName c x (wipe σ [c]) H' fun σ2 H2 => wipe σ2 [c] = wipe σ [c] ∧ tYes σ2 H2 fun b H3 =>
        if b = true then te σ2 H3 fun y H4 => ∃ acc, H4 D = some (.lst acc) ∧ acc.length < sizeLine ∧ Nx (upd H4 D (.lst (acc ++ [y]))) else Nx H3) := by
  refine lc_it w (fun i H => Same H1 H ∧ ∃ vs : List V, vs.length = i ∧ (∀ j, j < i → Pe j (vs.getD j .non)) ∧ H D = some (.lst vs)) ⟨same_upd hD, [], rfl, fun j hj => absurd hj (Nat.not_lt_zero j), upd_same⟩ (fun i H _ h => hG H h.1) (fun i x H H' hi hP hy => ?_) (fun H h => by
    obtain ⟨sm, vs, hl, hv, e⟩ := h
    exact hd H vs sm hl hv e)
  obtain ⟨sm, vs, hl, hv, eD⟩ := hP
  obtain ⟨rfl, rfl⟩ := hy
  refine ⟨?_, ?_⟩
  rotate_left
  · unfold tYes
    dsimp only
    rw [if_pos rfl]
    refine he i H' _ hi sm fun H3 v s3 pv => ⟨_, s3 _ _ eD, by omega, ?_, vs ++ [v], by rw [List.length_append, hl]; rfl, fun j hj => ?_, upd_same⟩
    · intro b' o hb'
      rw [upd_ne (ne_of_none hb' hD)]
      exact s3 _ _ (sm _ _ hb')
    · by_cases hj2 : j < i
      · rw [getD_app_l _ _ _ (by omega)]
        exact hv j hj2
      · have : j = i := by omega
        subst this
        rw [getD_app_r _ _ _ (by omega), hl, Nat.sub_self]
        exact pv
  · show (((σ.set c none).set c (some (xs i))).set c none) = σ.set c none
    rw [List.set_set, List.set_set]
theorem lc_enumD {K : PySem.W.Frag} {a : Addr} {te : TE} {c1 c2 : Nat} {σ : L2.St} {H1 : Hp} {D : Addr} {Qd : Hp → Prop} (xs : List V) (Pe : Nat → V → Prop) (hne : c1 ≠ c2) (hL : SqL K H1 a xs) (hD : H1 D = none) (hn : xs.length ≤ sizeLine)
    (he : ∀ i H Q, i < xs.length → Same H1 H → (∀ H' v, Same H H' → Pe i v → Q v H') → te ((((σ.set c2 none).set c1 none).set c1 (some (.int (i : Nat)))).set c2 (some (xs.getD i .non))) H Q)
    (hd : ∀ H vs, Same H1 H → vs.length = xs.length → (∀ i, i < xs.length → Pe i (vs.getD i .non)) → H D = some (.lst vs) → Qd H) :
    ∃ W : Nat → Nat → Hp → Prop, (∃ m, W 0 m (upd H1 D (.lst []))) ∧ ∀ i m H, W i m H →
      ((Ite K a).stop i H ∧ Qd H) ∨ ((Ite K a).go i H ∧ ∃ Nx : Hp → Prop, (∀ H', Nx H' → ∃ m', m' < m ∧ W (i + 1) m' H') ∧ ∀ x H', (Ite K a).yld i H x H' → gTup K 2 (gCons (gName c1) (gCons (gName c2) gNil)) x (wipe σ [c1, c2]) H' fun σ2 H2 => wipe σ2 [c1, c2] = wipe σ [c1, c2] ∧ tYes σ2 H2 fun b H3 =>
        if b = true then te σ2 H3 fun y H4 => ∃ acc, H4 D = some (.lst acc) ∧ acc.length < sizeLine ∧ Nx (upd H4 D (.lst (acc ++ [y]))) else Nx H3) := by
  refine lc_it walk_enum (fun i H => Same H1 H ∧ ∃ vs : List V, vs.length = i ∧ (∀ j, j < i → Pe j (vs.getD j .non)) ∧ H D = some (.lst vs)) ⟨same_upd hD, [], rfl, fun j hj => absurd hj (Nat.not_lt_zero j), upd_same⟩ (fun i H _ h => h.1.seq hL) (fun i x H H' hi hP hy => ?_) (fun H h => by
    obtain ⟨sm, vs, hl, hv, e⟩ := h
    exact hd H vs sm hl hv e)
  obtain ⟨sm, vs, hl, hv, eD⟩ := hP
  obtain ⟨T, x1, x2, rfl, nT, rfl, f1, f2⟩ := hy
  obtain rfl := Option.some.inj f1
  have f2 : xs[i]? = some x2 := f2
  have ex : x2 = xs.getD i .non := by rw [List.getD_eq_getElem?_getD, f2]; rfl
  subst ex
  have sT := same_upd (o := .tup [.int (i : Nat), xs.getD i .non]) nT
  refine ⟨T, _, rfl, .inl (.inl upd_same), rfl, _, _, rfl, _, _, rfl, rfl, ?_, ?_⟩
  · show (((((σ.set c2 none).set c1 none).set c1 (some (.int (i : Nat)))).set c2 (some (xs.getD i .non))).set c2 none).set c1 none = (σ.set c2 none).set c1 none
    rw [List.set_set, List.set_set, List.set_comm _ _ hne, List.set_set, List.set_comm _ _ hne.symm, List.set_comm _ _ hne, List.set_set]
  · unfold tYes
    dsimp only
    rw [if_pos rfl]
    refine he i _ _ hi (sm.trans sT) fun H3 v s3 pv => ⟨_, s3 _ _ (sT _ _ eD), by omega, ?_, vs ++ [v], by rw [List.length_append, hl]; rfl, fun j hj => ?_, upd_same⟩
    · intro b' o hb'
      rw [upd_ne (ne_of_none hb' hD)]
      exact s3 _ _ (sT _ _ (sm _ _ hb'))
    · by_cases hj2 : j < i
      · rw [getD_app_l _ _ _ (by omega)]
        exact hv j hj2
      · have : j = i := by omega
        subst this
        rw [getD_app_r _ _ _ (by omega), hl, Nat.sub_self]
        exact pv
/-! ### while a written text is in x: x = x.replace(..) -/
def PTt (X : Cx) (e : Expr) (t : TT) : Prop := ∀ (pins : List (Addr × Obj)) (s : Shared) (σ : L2.St) (H : Hp) (Q : Bool → Hp → Prop), Inv X pins σ H s → t σ H Q → wpAny (model X.prog X.w) X.A (isTrue e X.env (eval e X.env)) (fun b s' => 1 ≤ s'.toks ∧ TP X pins σ Q b s') X.xe s
theorem ptt_inStr {X : Cx} {op : CmpOp} {r : R2} {c : Str} {b : Expr} {tb : TE} {j0 : Nat} {p0 pos : Pos} (ho : OpR X (compareOp op) r) (hb : PE X b tb) (hm : behindInMarks op b = false) : PTt X (.Compare (.Constant (.str c) j0 p0) [op] [b] pos) (tTest (tOp r (tC (.str c)) tb)) := by
  intro pins s σ H Q I h
  refine wpAny_isTrue_Compare1 (Calls.Constant_str ?_) hm
  refine wpAny_mono (PySem.wpAny_toks_of (n := 1) (by show 1 ≤ s.toks + 1; omega) (hb.run pins _ σ H _ (I.tok _) h)) (fun u s2 q => ?_) fun _ _ x => x.2
  obtain ⟨hk, y, H2, I2, r2, q2⟩ := q
  refine wpAny_mono (PySem.wpAny_toks_of hk (ho pins s2 σ H2 (.str c) y _ u _ I2 ⟨_, rfl⟩ r2 q2)) (fun cc s3 q => ?_) fun _ _ x => x.2
  obtain ⟨hk3, z, H3, I3, r3, k, e, q3⟩ := q
  subst e
  cases r3
  exact wpAny_truthy_bool ⟨hk3, H3, I3, q3⟩
theorem ps_whileT {X : Cx} {c : Expr} {body : List Stmt} {tc : TT} {tb : TS} {pos : Pos} (hp : PassesOwn (model X.prog X.w) X.A X.env X.xe) (hc : PTt X c tc) (hb : PSsT X body tb) : PS X (.While c body [] pos) (tWhile tc tb) := by
  refine ⟨fun pins s σ H D I h => ?_⟩
  obtain ⟨W, ⟨m0, w0⟩, turn⟩ := h
  refine wpAny_While (codeAny_whileLoop (fun n s' => ∃ σ' H', Inv X pins σ' H' s' ∧ W n σ' H') ?_ m0 ⟨σ, H, I, w0⟩)
  rintro n s1 ⟨σ1, H1, I1, w1⟩
  refine wpAny_passesOwn hp (thn (hc pins s1 σ1 H1 _ I1 (turn n σ1 H1 w1)) fun b s2 ⟨tk2, H2, I2, q2⟩ => ?_)
  cases b with
  | true =>
    obtain ⟨N, hN, q2⟩ := q2
    rw [if_pos rfl]
    refine wpAny_passesOwn hp (thn (hb pins s2 σ1 H2 _ tk2 I2 q2) fun f s3 q3 => ?_)
    cases f with
    | next =>
      obtain ⟨σ3, H3, I3, n3⟩ := q3
      obtain ⟨m', hm, w3⟩ := hN σ3 H3 n3
      exact ⟨m', hm, σ3, H3, I3, w3⟩
    | cont =>
      obtain ⟨σ3, H3, I3, n3⟩ := q3
      obtain ⟨m', hm, w3⟩ := hN σ3 H3 n3
      exact ⟨m', hm, σ3, H3, I3, w3⟩
    | brk => exact q3
    | ret v => exact q3
  | false =>
    rw [if_neg Bool.false_ne_true]
    exact wpAny_execs_nil ⟨σ1, H2, I2, q2⟩
theorem pst_set {X : Cx} {i : Nat} {x : Str} {e : Expr} {te : TE} {pos' pos : Pos} (hN : X.N.Nodup) (hi : X.N[i]? = some x) (hx : Loc X.env.scope x) (he : PET X e te) (hs : swapsWith e (some (.Name x pos')) pos.line X.env = pure false := by rfl) (hf : X.fn x = true ∨ X.env.scope.names.lookup x = some .local := by first | exact .inl rfl | exact .inr rfl | assumption) :
    PST X (.Assign [.Name x pos'] e pos) (tAsg te (gName i)) := fun pins s σ H D h0 I h =>
  wpAny_Assign_Name (thn (he pins s σ H _ h0 I h) fun v s1 ⟨y, H1, I1, r1, q1⟩ => store_ok I1 hN hi hx r1 (fun s2 I2 => ⟨_, H1, I2, q1⟩) hf) hs
/-! ### two blanks by one -/
theorem repl2_cons (c : Nat) (r : List Nat) : PySem.StrLaws.replL [32, 32] [32] (c :: r) = if (c :: r).take 2 = [32, 32] then 32 :: PySem.StrLaws.replL [32, 32] [32] (r.drop 1) else c :: PySem.StrLaws.replL [32, 32] [32] r := by
  split
  · rename_i h
    exact PySem.StrLaws.replL_hit (y := [32, 32]) (z := [32]) (by decide) h
  · rename_i h
    exact PySem.StrLaws.replL_miss (y := [32, 32]) (z := [32]) h
theorem repl2 : ∀ (n : Nat) (l : List Nat), l.length ≤ n → (PySem.StrLaws.replL [32, 32] [32] l).length ≤ l.length ∧ (l ≠ [] → PySem.StrLaws.replL [32, 32] [32] l ≠ []) ∧ (∀ c ∈ PySem.StrLaws.replL [32, 32] [32] l, c ∈ l) ∧ (dbl 32 l = true → (PySem.StrLaws.replL [32, 32] [32] l).length < l.length)
  | _, [], _ => by
    rw [PySem.StrLaws.replL_nil]
    exact ⟨Nat.le_refl _, fun h => absurd rfl h, (fun c h => by cases h), fun h => by simp [dbl] at h⟩
  | 0, _ :: _, h => absurd h (by simp)
  | n + 1, c :: r, h => by
    rw [repl2_cons]
    have hr : r.length ≤ n := by simpa using h
    split
    · rename_i h2
      obtain ⟨h1, _, h3, _⟩ := repl2 n (r.drop 1) (by rw [List.length_drop]; omega)
      rw [List.length_drop] at h1
      have hc : c = 32 ∧ ∃ r', r = 32 :: r' := by
        cases r with
        | nil => simp at h2
        | cons d r => simp at h2; exact ⟨h2.1, r, by rw [h2.2]⟩
      obtain ⟨rfl, r', rfl⟩ := hc
      simp only [List.length_cons] at h1 ⊢
      refine ⟨by omega, fun _ => by simp, fun c hc => ?_, fun _ => by omega⟩
      rcases List.mem_cons.mp hc with rfl | hc
      · simp
      · have := h3 c hc
        exact List.mem_cons_of_mem _ (List.mem_of_mem_drop this)
    · rename_i h2
      obtain ⟨h1, _, h3, h4⟩ := repl2 n r hr
      simp only [List.length_cons]
      refine ⟨by omega, fun _ => by simp, fun d hd => ?_, fun hd => ?_⟩
      · rcases List.mem_cons.mp hd with rfl | hd
        · exact List.mem_cons_self ..
        · exact List.mem_cons_of_mem _ (h3 d hd)
      · have : dbl 32 r = true := by
          rw [dbl_iff] at hd ⊢
          obtain ⟨i, i1, i2⟩ := hd
          cases i with
          | zero =>
            exfalso
            apply h2
            cases r with
            | nil => simp at i2
            | cons d r => simp at i1 i2; rw [i1, i2]; rfl
          | succ i => exact ⟨i, by simpa using i1, by simpa using i2⟩
        have := h4 this
        omega
end LH

namespace LH
open PySem PySem.Spec PyProof.Rows L2
/-! ### a def whose body replaces written texts: binding its parameters gives a token -/
theorem psst_nox {X : Cx} {st : List Stmt} {t : TS} (h : PSsT X.nox st t) : PSsT X st t := fun pins s σ H D h0 I hw =>
  wpAny_mono (h pins s σ H D h0 (I.wish _) hw) (fun _ _ q => q.unwish) fun _ _ z => False.elim z
theorem fun_okT {P : Program} {w : World} {K : PySem.W.Frag} {mg : Str → Option Value} {base : Heap} {x qual : Str} {st : Stmt} {f : Addr} {fd : FuncData} {N ps : List Str} {k : Nat} {sp : Sp} (F : Fun K x qual st f fd) (S : FnScope N ps (defScope st)) (hnc : ∀ y ∈ (defScope st).names, y.2 ≠ .cell) (hps : 1 ≤ ps.length) (len : ∀ vs H Q E, sp vs H Q E → vs.length = ps.length)
    (hbody : ∀ (cdv : Value) (A : Around) (outer : List Env) (s : Shared) (H : Hp) (vs : List V) (Q : VK) (E : XK), Room k (A.deeper (envOfC qual (defScope st) s.heap.objs.size f cdv)) → sp vs H Q E →
      ∃ t, PSsT (cxOf CX0 P w K mg base N qual (defScope st) f cdv A outer s H E).nox (defBody st) t ∧ t { nx := fun _ H' => Q .non H', rt := Q } (start N vs) H) : FnOk P w K mg base CX0 (k + 1) f fd ps sp := by
  obtain ⟨oc, od, kV, doc, pm, an, cdv, ct, osl, rfl, lk, hcd⟩ := F.ex
  refine fn_ofT lk hcd S hnc hps len fun A outer s H vs Q E hr hsp => ?_
  obtain ⟨t, h, q⟩ := hbody cdv A outer s H vs Q E hr hsp
  exact ⟨t, psst_nox h, q⟩
theorem repl1 (y : Nat) (z : List Nat) : ∀ l : List Nat, PySem.StrLaws.replL [y] z l = l.flatMap fun c => if c = y then z else [c]
  | [] => PySem.StrLaws.replL_nil
  | c :: r => by
    by_cases h : c = y
    · rw [PySem.StrLaws.replL_hit (y := [y]) (z := z) (by simp) (by rw [h]; rfl), List.flatMap_cons, if_pos h, ← repl1 y z r]
      rfl
    · rw [PySem.StrLaws.replL_miss (y := [y]) (z := z) (fun e => h (List.cons.inj e).1), List.flatMap_cons, if_neg h, ← repl1 y z r]
      rfl
theorem tl_repl1 {x y z : Str} {c : Nat} (hy : TL.tl y = [c]) : TL.tl (Txt.replace x y z) = (TL.tl x).flatMap fun d => if d = c then TL.tl z else [d] := by
  have hl : 1 ≤ y.length := by
    have := congrArg List.length hy
    show 1 ≤ y.cps.size
    have e : (TL.tl y).length = y.cps.size := by show y.cps.toList.length = _; simp
    rw [e] at this
    rw [this]
    exact Nat.le_refl _
  have := PySem.StrLaws.replace_list (x := x) (y := y) (z := z) hl
  show (Txt.replace x y z).cps.toList = _
  rw [this]
  have hy : y.cps.toList = [c] := hy
  rw [hy]
  exact repl1 c _ _
theorem replace_len_le (x y z : Str) : (Txt.replace x y z).length ≤ x.length + (x.length + 1) * z.length := TK.replace_len x y z
end LH

namespace K15
open PySem PySem.Spec PyProof.Rows L2 LH
def topS (i : Nat) : Stmt := PySem.Challenge.pw_letterhouse_k15_people_written.main.body.getD i (.Pass ⟨0, 0, 0, 0⟩)
def clsS (i j : Nat) : Stmt := match topS i with
  | .ClassDef _ _ _ b _ _ _ _ _ _ _ => b.getD j (.Pass ⟨0, 0, 0, 0⟩)
  | s => s
def LOCALT : Str := Str.ofString "abcdefghijklmnopqrstuvwxyz0123456789_-"
def HOUSET : Str := Str.ofString "abcdefghijklmnopqrstuvwxyz0123456789"
def CALLEDT : Str := Str.ofString "ABCDEFGHIJKLMNOPQRSTUVWXYZabcdefghijklmnopqrstuvwxyz0123456789"
def QUOTEDT : Str := Str.ofString "!#$&'()*+,-./0123456789:;<=>?@ABCDEFGHIJKLMNOPQRSTUVWXYZ[]^_`abcdefghijklmnopqrstuvwxyz{|}~"
structure Tx (mg : Str → Option Value) (tk : Nat → Tok) : Prop where
  n_all : mg "all" = none
  n_enumerate : mg "enumerate" = none
  n_int : mg "int" = none
  n_isinstance : mg "isinstance" = none
  n_len : mg "len" = none
  n_list : mg "list" = none
  n_range : mg "range" = none
  n_str : mg "str" = none
  n_sum : mg "sum" = none
  n_tuple : mg "tuple" = none
  m_LOCAL_SIGNS : mg "LOCAL_SIGNS" = some (.str LOCALT (tk 0))
  m_LOCAL_MOST : mg "LOCAL_MOST" = some (.int 20 (tk 1))
  m_HOUSE_SIGNS : mg "HOUSE_SIGNS" = some (.str HOUSET (tk 2))
  m_HOUSE_MOST : mg "HOUSE_MOST" = some (.int 10 (tk 3))
  m_HOUSE_WORDS : mg "HOUSE_WORDS" = some (.int 3 (tk 4))
  m_CALLED_SIGNS : mg "CALLED_SIGNS" = some (.str CALLEDT (tk 5))
  m_CALLED_MOST : mg "CALLED_MOST" = some (.int 12 (tk 6))
  m_CALLED_WORDS : mg "CALLED_WORDS" = some (.int 4 (tk 7))
  m_QUOTED_SIGNS : mg "QUOTED_SIGNS" = some (.str QUOTEDT (tk 8))
  m_QUOTED_MOST : mg "QUOTED_MOST" = some (.int 30 (tk 9))
  m_GROUP_ONES : mg "GROUP_ONES" = some (.int 10 (tk 10))
  m_MOST_PEOPLE : mg "MOST_PEOPLE" = some (.int 20 (tk 11))
end K15

namespace K15
open PySem PySem.Spec PyProof.Rows L2 LH
/-! ### the pure side of the Reader -/
def seesL (r ch : List Nat) : Bool := match r with
  | [] => false
  | c :: _ => decide (c ∈ ch)
/-- whether the signs from n on are a word's -/
def aheadIs (r w : List Nat) : Bool := decide (r.take w.length = w)
theorem lstrip_len (x y : Str) (u r : List Nat) (hx : TL.tl x = u ++ r) (hu : ∀ c ∈ u, c ∈ TL.tl y) (hr : seesL r (TL.tl y) = false) : (Txt.lstripChars x y).length = r.length := by
  have hc : ∀ d, y.cps.contains d = decide (d ∈ TL.tl y) := fun d => by
    show y.cps.contains d = decide (d ∈ y.cps.toList)
    simp
  have htw : (x.cps.toList.takeWhile y.cps.contains).length = u.length := by
    rw [show x.cps.toList = TL.tl x from rfl, hx, List.takeWhile_append_of_pos (by intro d hd; rw [hc]; exact decide_eq_true (hu d hd)), List.length_append]
    have : r.takeWhile y.cps.contains = [] := by
      cases r with
      | nil => rfl
      | cons d r =>
        rw [List.takeWhile_cons, hc, show decide (d ∈ TL.tl y) = false from hr]
        rfl
    rw [this]
    rfl
  have hl : x.length = u.length + r.length := by rw [TL.len_tl, hx, List.length_append]
  have hlo : stripLo y.cps.contains true x = u.length := by
    unfold stripLo
    rw [if_pos rfl, htw]
  have hhi : stripHi y.cps.contains false x u.length = x.length := rfl
  unfold Txt.lstripChars Txt.stripBy
  split
  · rename_i h
    unfold stripSame at h
    rw [hlo, hhi] at h
    simp only [beq_self_eq_true, Bool.and_true, beq_iff_eq] at h
    omega
  · unfold stripped
    rw [hlo, hhi, TL.len_tl]
    show (Builtin.Str.strSub x u.length x.length).cps.toList.length = r.length
    rw [PySem.StrLaws.strSub_toList, show x.cps.toList = TL.tl x from rfl, hx]
    simp [hl]
section
variable {P : Program} {w : World} {K : PySem.W.Frag} {mg : Str → Option Value} {base : Heap} {tk : Nat → Tok} {ca : Nat → Addr} {C : Addr}
/-! ### a text read from its first sign on -/
def rfs (z : Str) (n : Nat) : List (Str × V) := [("signs", .str z), ("at", .int (n : Nat))]
def Rdr (H : Hp) (C a dx : Addr) (z : Str) (n : Nat) : Prop := H a = some (.ins C dx (rfs z n))
structure Rc (K : PySem.W.Frag) (C : Addr) : Prop where
  c : Cls K C
  n_signs : NoAttr K C "signs"
  n_at : NoAttr K C "at"
def oneV (c : Nat) : V := .str ⟨#[c]⟩
/-! ### Reader___init__ -/
abbrev s_Reader___init__ : Stmt := clsS 7 0
abbrev N_Reader___init__ : List Str := ["self", "signs"]
abbrev P_Reader___init__ : List Str := ["self", "signs"]
theorem sc_Reader___init__ : FnScope N_Reader___init__ ["self", "signs"] (defScope s_Reader___init__) := ⟨rfl, rfl, rfl, by decide +kernel, rfl, by decide +kernel, by decide +kernel⟩
def sp_init (C : Addr) : Sp := fun vs H Q _ => ∃ (a dx : Addr) (z : Str), vs = [.ref a, .str z] ∧ H a = some (.ins C dx []) ∧ ∀ H', SameBut a H H' → Rdr H' C a dx z 0 → Q .non H'
theorem ok_init {f : Addr} {fd : FuncData} {k : Nat} (F : Fun K "__init__" "Reader.__init__" s_Reader___init__ f fd) (R : Rc K C) : FnOk P w K mg base CX0 (k + 1) f fd P_Reader___init__ (sp_init C) := by
  refine F.ok sc_Reader___init__ (fun vs H Q E h => ?_) (fun cdv A outer s H vs Q E hr h => ?_)
  · obtain ⟨a, dx, z, rfl, _⟩ := h
    rfl
  · have nd := sc_Reader___init__.nd
    obtain ⟨a, dx, z, rfl, e, q⟩ := h
    refine ⟨_, (pss_cons (ps_fld (pv 0) (pv 1) rfl)
      (pss_one (ps_fld (pv 0) pe_int rfl))), ?_⟩
    refine ⟨.str z, rfl, .ref a, rfl, a, C, dx, [], rfl, e, R.c, R.n_signs, (by show 0 < 1000; decide), ?_⟩
    refine ⟨.ref a, rfl, a, C, dx, _, rfl, upd_same, R.c, R.n_at, (by show 1 < 1000; decide), ?_⟩
    exact q _ (SameBut.trans (SameBut.upd _ _ _) (SameBut.upd _ _ _)) upd_same
/-! ### Reader_sees -/
abbrev s_Reader_sees : Stmt := clsS 7 1
abbrev N_Reader_sees : List Str := ["self", "choice"]
abbrev P_Reader_sees : List Str := ["self", "choice"]
theorem sc_Reader_sees : FnScope N_Reader_sees ["self", "choice"] (defScope s_Reader_sees) := ⟨rfl, rfl, rfl, by decide +kernel, rfl, by decide +kernel, by decide +kernel⟩
def sp_sees (C : Addr) : Sp := fun vs H Q _ => ∃ (a dx : Addr) (z t : Str) (n : Nat), vs = [.ref a, .str t] ∧ Rdr H C a dx z n ∧ z.length ≤ 100000 ∧ Tell H (.bl (seesL ((TL.tl z).drop n) (TL.tl t))) Q
theorem ok_sees {f : Addr} {fd : FuncData} {k : Nat} (F : Fun K "sees" "Reader.sees" s_Reader_sees f fd) (T : Tx mg tk) (R : Rc K C) : FnOk P w K mg base CX0 (k + 1) f fd P_Reader_sees (sp_sees C) := by
  refine F.ok sc_Reader_sees (fun vs H Q E h => ?_) (fun cdv A outer s H vs Q E hr h => ?_)
  · obtain ⟨a, dx, z, t, n, rfl, _⟩ := h
    rfl
  · have nd := sc_Reader_sees.nd
    obtain ⟨a, dx, z, t, n, rfl, e, hz, q⟩ := h
    refine ⟨_, (pss_one (ps_ret (pe_and (pe_cmpR op_lt (pe_fld (pv 0) rfl) (pe_callB call_len_str (by rfl) T.n_len (by decide +kernel) (pa_cons (pe_fld (pv 0) rfl) pa_nil)) (nomark _)) (pe_one (pe_cmpR op_in_sign (pe_ix ix_str (pe_fld (pv 0) rfl) (pe_fld (pv 0) rfl) (fun _ _ => rfl)) (pv 1) rfl))))), ?_⟩
    have hzl : z.length = (TL.tl z).length := TL.len_tl z
    have hzs : z.length ≤ sizeLine := by rw [sizeLine_eq]; omega
    by_cases hlt : n < z.length
    · have hc : (TL.tl z)[n]? = some (TL.tl z)[n] := List.getElem?_eq_getElem (by omega)
      have hs : seesL ((TL.tl z).drop n) (TL.tl t) = decide ((TL.tl z)[n] ∈ TL.tl t) := by
        rw [List.drop_eq_getElem_cons (by omega)]
        rfl
      rw [hs] at q
      generalize (TL.tl z)[n] = c at *
      refine andV true (decide (c ∈ TL.tl t)) (fun Q' q' => ?_) (fun _ H2 Q' s2 q' => ?_) q
      · refine ⟨.ref a, rfl, a, C, dx, _, _, rfl, e, R.c, R.n_at, rfl, .ref a, rfl, a, C, dx, _, _, rfl, e, R.c, R.n_signs, rfl, z, rfl, hzs, _, _, rfl, rfl, ?_⟩
        show Q' (.bl (decide (((n : Nat) : Int) < (z.length : Nat)))) _
        rw [decide_eq_true (by omega)]
        exact q' _ (Same.refl _)
      · have e2 := s2 _ _ e
        exact ⟨.ref a, rfl, a, C, dx, _, _, rfl, e2, R.c, R.n_signs, rfl, .ref a, rfl, a, C, dx, _, _, rfl, e2, R.c, R.n_at, rfl, z, _, c, rfl, rfl, hzs, atI_nat hc, .str t, rfl, c, t, rfl, rfl, q' _ (Same.refl _)⟩
    · have hs : seesL ((TL.tl z).drop n) (TL.tl t) = false := by
        rw [List.drop_eq_nil_of_le (by omega)]
        rfl
      rw [hs] at q
      refine andV false false (fun Q' q' => ?_) (fun h => nomatch h) q
      refine ⟨.ref a, rfl, a, C, dx, _, _, rfl, e, R.c, R.n_at, rfl, .ref a, rfl, a, C, dx, _, _, rfl, e, R.c, R.n_signs, rfl, z, rfl, hzs, _, _, rfl, rfl, ?_⟩
      show Q' (.bl (decide (((n : Nat) : Int) < (z.length : Nat)))) _
      rw [decide_eq_false (by omega)]
      exact q' _ (Same.refl _)
/-! ### Reader_one_of -/
abbrev s_Reader_one_of : Stmt := clsS 7 3
abbrev N_Reader_one_of : List Str := ["self", "choice"]
abbrev P_Reader_one_of : List Str := ["self", "choice"]
theorem sc_Reader_one_of : FnScope N_Reader_one_of ["self", "choice"] (defScope s_Reader_one_of) := ⟨rfl, rfl, rfl, by decide +kernel, rfl, by decide +kernel, by decide +kernel⟩
def sp_one (C : Addr) : Sp := fun vs H Q _ => ∃ (a dx : Addr) (z t : Str) (n c : Nat) (rest : List Nat), vs = [.ref a, .str t] ∧ Rdr H C a dx z n ∧ z.length ≤ 100000 ∧ (TL.tl z).drop n = c :: rest ∧ c ∈ TL.tl t ∧ ∀ H', SameBut a H H' → Rdr H' C a dx z (n + 1) → Q (oneV c) H'
theorem ok_one {f fS : Addr} {fd fdS : FuncData} (F : Fun K "one_of" "Reader.one_of" s_Reader_one_of f fd) (T : Tx mg tk) (R : Rc K C) (M_Reader_sees : DefM P w K mg base C "sees" 1 fS fdS P_Reader_sees (sp_sees C)) : FnOk P w K mg base CX0 2 f fd P_Reader_one_of (sp_one C) := by
  refine F.ok sc_Reader_one_of (fun vs H Q E h => ?_) (fun cdv A outer s H vs Q E hr h => ?_)
  · obtain ⟨a, dx, z, t, n, c, rest, rfl, _⟩ := h
    rfl
  · have nd := sc_Reader_one_of.nd
    obtain ⟨a, dx, z, t, n, c, rest, rfl, e, hz, hd, hc, q⟩ := h
    refine ⟨_, (pss_cons (ps_if (pt_not (pt_val (pe_meth (pv 0) M_Reader_sees.c M_Reader_sees.hm M_Reader_sees.ok (hr.mono (by decide)) M_Reader_sees.bd .nil pass0 (pa_cons (pv 1) pa_nil))))
        (pss_one ps_never)
        pss_nil)
      (pss_cons (ps_fldaug (pv 0) pe_int in_add)
      (pss_one (ps_ret (pe_ix ix_str (pe_fld (pv 0) rfl) (pe_op op_sub (pe_fld (pv 0) rfl) pe_int) (fun _ _ => rfl)))))), ?_⟩
    have hzs : z.length ≤ sizeLine := by rw [sizeLine_eq]; omega
    have hzl : z.length = (TL.tl z).length := TL.len_tl z
    have hn : n < z.length := by
      have := congrArg List.length hd
      rw [List.length_drop, List.length_cons] at this
      omega
    have hat : (TL.tl z)[n]? = some c := by
      have := congrArg List.head? hd
      rw [List.head?_drop] at this
      exact this
    refine ifT false (fun k q1 => notT true (fun k q2 => ⟨.ref a, rfl, a, dx, _, rfl, e, rfl, .str t, rfl, a, dx, z, t, n, rfl, e, hz, fun H3 s3 => ⟨_, rfl, ?_⟩⟩) q1) (fun h => nomatch h) (fun _ H1 s1 => ?_)
    · rw [hd, show seesL (c :: rest) (TL.tl t) = true from decide_eq_true hc]
      exact q2 _ s3
    dsimp only [tNext, tSeq]
    have e1 := s1 _ _ e
    refine ⟨.ref a, rfl, a, C, dx, _, _, rfl, e1, R.c, R.n_at, rfl, _, 1, rfl, rfl, dx, _, e1, (by show 2 < 1000; decide), ?_⟩
    have e2 : Rdr (upd H1 a (.ins C dx (putF (Str.ofString "at") (.int ((n : Nat) + 1)) (rfs z n)))) C a dx z (n + 1) := by
      unfold Rdr
      rw [upd_same]
      rfl
    have s2 : SameBut a H (upd H1 a (.ins C dx (putF (Str.ofString "at") (.int ((n : Nat) + 1)) (rfs z n)))) := (SameBut.of s1).trans (SameBut.upd _ _ _)
    dsimp only
    generalize upd H1 a (.ins C dx (putF (Str.ofString "at") (.int ((n : Nat) + 1)) (rfs z n))) = H2 at *
    refine ⟨.ref a, rfl, a, C, dx, _, _, rfl, e2, R.c, R.n_signs, rfl, .ref a, rfl, a, C, dx, _, _, rfl, e2, R.c, R.n_at, rfl, _, 1, rfl, rfl, z, _, c, rfl, rfl, hzs, ?_, q _ s2 e2⟩
    rw [show ((n + 1 : Nat) : Int) - 1 = ((n : Nat) : Int) by omega]
    exact atI_nat hat
/-! ### Reader_sees_word -/
abbrev s_Reader_sees_word : Stmt := clsS 7 2
abbrev N_Reader_sees_word : List Str := ["self", "wanted"]
abbrev P_Reader_sees_word : List Str := ["self", "wanted"]
theorem sc_Reader_sees_word : FnScope N_Reader_sees_word ["self", "wanted"] (defScope s_Reader_sees_word) := ⟨rfl, rfl, rfl, by decide +kernel, rfl, by decide +kernel, by decide +kernel⟩
def sp_seesword (C : Addr) : Sp := fun vs H Q _ => ∃ (a dx : Addr) (z t : Str) (n : Nat), vs = [.ref a, .str t] ∧ Rdr H C a dx z n ∧ z.length ≤ 100000 ∧ t.length ≤ 100000 ∧ Tell H (.bl (aheadIs ((TL.tl z).drop n) (TL.tl t))) Q
theorem ok_seesword {f : Addr} {fd : FuncData} {k : Nat} (F : Fun K "sees_word" "Reader.sees_word" s_Reader_sees_word f fd) (T : Tx mg tk) (R : Rc K C) : FnOk P w K mg base CX0 (k + 1) f fd P_Reader_sees_word (sp_seesword C) := by
  refine F.ok sc_Reader_sees_word (fun vs H Q E h => ?_) (fun cdv A outer s H vs Q E hr h => ?_)
  · obtain ⟨a, dx, z, t, n, rfl, _⟩ := h
    rfl
  · have nd := sc_Reader_sees_word.nd
    obtain ⟨a, dx, z, t, n, rfl, e, hz, ht, q⟩ := h
    refine ⟨_, (pss_one (ps_ret (pe_cmpR op_eq (pe_slice sl_str (pe_fld (pv 0) rfl) (po_some (pe_fld (pv 0) rfl)) (po_some (pe_op op_add (pe_fld (pv 0) rfl) (pe_callB call_len_str (by rfl) T.n_len (by decide +kernel) (pa_cons (pv 1) pa_nil))))) (pv 1) (nomark _)))), ?_⟩
    have hzs : z.length ≤ sizeLine := by rw [sizeLine_eq]; omega
    have hts : t.length ≤ sizeLine := by rw [sizeLine_eq]; omega
    refine ⟨.ref a, rfl, a, C, dx, _, _, rfl, e, R.c, R.n_signs, rfl, .ref a, rfl, a, C, dx, _, _, rfl, e, R.c, R.n_at, rfl, _, rfl, .ref a, rfl, a, C, dx, _, _, rfl, e, R.c, R.n_at, rfl, .str t, rfl, t, rfl, hts, _, _, rfl, rfl, _, rfl, z, rfl, hzs, .str t, rfl, rfl, ?_⟩
    have et : decide (V.str (cutS z (some (n : Int)) (some ((n : Int) + (t.length : Nat)))) = V.str t) = aheadIs ((TL.tl z).drop n) (TL.tl t) := by
      have hl : t.length = (TL.tl t).length := TL.len_tl t
      rw [show ((n : Int) + (t.length : Nat)) = ((n + t.length : Nat) : Int) by omega, cutS_at, show n + t.length - n = (TL.tl t).length by omega]
      unfold aheadIs
      rw [decide_eq_decide]
      constructor
      · intro h
        exact congrArg TL.tl (V.str.inj h)
      · intro h
        exact congrArg V.str (TL.ext_tl h)
    show Q (.bl (decide (V.str (cutS z (some (n : Int)) (some ((n : Int) + (t.length : Nat)))) = V.str t))) H
    rw [et]
    exact q _ (Same.refl _)
/-! ### Reader_word -/
abbrev s_Reader_word : Stmt := clsS 7 4
abbrev N_Reader_word : List Str := ["self", "wanted", "sign"]
abbrev P_Reader_word : List Str := ["self", "wanted"]
theorem sc_Reader_word : FnScope N_Reader_word ["self", "wanted"] (defScope s_Reader_word) := ⟨rfl, rfl, rfl, by decide +kernel, rfl, by decide +kernel, by decide +kernel⟩
def sp_word (C : Addr) : Sp := fun vs H Q _ => ∃ (a dx : Addr) (z t : Str) (n : Nat) (rest : List Nat), vs = [.ref a, .str t] ∧ Rdr H C a dx z n ∧ z.length ≤ 100000 ∧ (TL.tl z).drop n = TL.tl t ++ rest ∧ ∀ H', SameBut a H H' → Rdr H' C a dx z (n + (TL.tl t).length) → Q .non H'
theorem ok_word {f fO fW : Addr} {fd fdO fdW : FuncData} (F : Fun K "word" "Reader.word" s_Reader_word f fd) (T : Tx mg tk) (R : Rc K C) (M_Reader_one_of : DefM P w K mg base C "one_of" 2 fO fdO P_Reader_one_of (sp_one C)) (M_Reader_sees_word : DefM P w K mg base C "sees_word" 1 fW fdW P_Reader_sees_word (sp_seesword C)) : FnOk P w K mg base CX0 3 f fd P_Reader_word (sp_word C) := by
  refine F.ok sc_Reader_word (fun vs H Q E h => ?_) (fun cdv A outer s H vs Q E hr h => ?_)
  · obtain ⟨a, dx, z, t, n, rest, rfl, _⟩ := h
    rfl
  · have nd := sc_Reader_word.nd
    obtain ⟨a, dx, z, t, n, rest, rfl, e, hz, hd, q⟩ := h
    refine ⟨_, (pss_cons (ps_if (pt_val (pe_meth (pv 0) M_Reader_sees_word.c M_Reader_sees_word.hm M_Reader_sees_word.ok (hr.mono (by decide)) M_Reader_sees_word.bd .nil pass0 (pa_cons (pv 1) pa_nil)))
        (pss_cons (ps_fldaug (pv 0) (pe_callB call_len_str (by rfl) T.n_len (by decide +kernel) (pa_cons (pv 1) pa_nil)) in_add)
        (pss_one ps_retN))
        pss_nil)
      (pss_one (ps_for PassesOwn.never rfl (pi_str (pv 1)) (pg_name (i := 2) nd rfl (Or.inl rfl))
        (pss_one (ps_expr (pe_meth (pv 0) M_Reader_one_of.c M_Reader_one_of.hm M_Reader_one_of.ok (hr.mono (by decide)) M_Reader_one_of.bd .nil pass0 (pa_cons (pv 2) pa_nil))))))), ?_⟩
    have hts : t.length ≤ 100000 := by
      have := congrArg List.length hd
      rw [List.length_append, List.length_drop, ← TL.len_tl, ← TL.len_tl] at this
      omega
    dsimp only [gName, tSeq]
    refine ifT true (fun k q1 => ⟨.ref a, rfl, a, dx, _, rfl, e, rfl, .str t, rfl, a, dx, z, t, n, rfl, e, hz, hts, ?_⟩) (fun _ H1 s1 => ?_) (fun h => nomatch h)
    · rw [show aheadIs ((TL.tl z).drop n) (TL.tl t) = true by unfold aheadIs; rw [hd]; simp]
      exact fun H1 s1 => ⟨true, rfl, q1 _ s1⟩
    · dsimp only [tNext, tSeq]
      have e1 := s1 _ _ e
      have hl : t.length = (TL.tl t).length := TL.len_tl t
      have hts2 : t.length ≤ sizeLine := by rw [sizeLine_eq]; omega
      refine ⟨.ref a, rfl, a, C, dx, _, _, rfl, e1, R.c, R.n_at, rfl, .str t, rfl, t, rfl, hts2, _, _, rfl, rfl, dx, _, e1, (by show 2 < 1000; decide), ?_⟩
      dsimp only [tRetN]
      refine q _ ((SameBut.of s1).trans (SameBut.upd _ _ _)) ?_
      unfold Rdr
      rw [upd_same, ← hl]
      rfl
/-! ### Reader_run -/
abbrev s_Reader_run : Stmt := clsS 7 5
abbrev N_Reader_run : List Str := ["self", "choice", "most", "ahead", "many"]
abbrev P_Reader_run : List Str := ["self", "choice", "most"]
theorem sc_Reader_run : FnScope N_Reader_run ["self", "choice", "most"] (defScope s_Reader_run) := ⟨rfl, rfl, rfl, by decide +kernel, rfl, by decide +kernel, by decide +kernel⟩
def sp_run (C : Addr) : Sp := fun vs H Q _ => ∃ (a dx : Addr) (z t : Str) (n most : Nat) (u rest : List Nat), vs = [.ref a, .str t, .int (most : Nat)] ∧ Rdr H C a dx z n ∧ z.length ≤ 100000 ∧ (TL.tl z).drop n = u ++ rest ∧ 1 ≤ u.length ∧ u.length ≤ most ∧ (∀ c ∈ u, c ∈ TL.tl t) ∧ (u.length = most ∨ seesL rest (TL.tl t) = false) ∧ most ≤ 1000 ∧ ∀ H', SameBut a H H' → Rdr H' C a dx z (n + u.length) → Q (.str ⟨u.toArray⟩) H'
theorem ok_run {f : Addr} {fd : FuncData} {k : Nat} (F : Fun K "run" "Reader.run" s_Reader_run f fd) (T : Tx mg tk) (R : Rc K C) : FnOk P w K mg base CX0 (k + 1) f fd P_Reader_run (sp_run C) := by
  refine F.ok sc_Reader_run (fun vs H Q E h => ?_) (fun cdv A outer s H vs Q E hr h => ?_)
  · obtain ⟨a, dx, z, t, n, most, u, rest, rfl, _⟩ := h
    rfl
  · have nd := sc_Reader_run.nd
    obtain ⟨a, dx, z, t, n, most, u, rest, rfl, e, hz, hd, h1, hm, hu, hr2, hm2, q⟩ := h
    refine ⟨_, (pss_cons (ps_set (i := 3) nd rfl (.inl rfl) (pe_slice sl_str (pe_fld (pv 0) rfl) (po_some (pe_fld (pv 0) rfl)) (po_some (pe_op op_add (pe_fld (pv 0) rfl) (pv 2)))))
      (pss_cons (ps_set (i := 4) nd rfl (.inl rfl) (pe_op op_sub (pe_callB call_len_str (by rfl) T.n_len (by decide +kernel) (pa_cons (pv 3) pa_nil)) (pe_callB call_len_str (by rfl) T.n_len (by decide +kernel) (pa_cons (pe_m1 PySem.F.slot_str_lstrip PySem.F.type_str_lstrip mt_lstripChars (pv 3) (pv 1)) pa_nil))))
      (pss_cons (ps_if (pt_cmpR op_eq (pv 4) pe_int (nomark _))
        (pss_one ps_never)
        pss_nil)
      (pss_cons (ps_fldaug (pv 0) (pv 4) in_add)
      (pss_one (ps_ret (pe_slice sl_str (pv 3) po_none (po_some (pv 4))))))))), ?_⟩
    dsimp only [gName, tSeq]
    have hzs : z.length ≤ sizeLine := by rw [sizeLine_eq]; omega
    refine ⟨.ref a, rfl, a, C, dx, _, _, rfl, e, R.c, R.n_signs, rfl, .ref a, rfl, a, C, dx, _, _, rfl, e, R.c, R.n_at, rfl, _, rfl, .ref a, rfl, a, C, dx, _, _, rfl, e, R.c, R.n_at, rfl, _, rfl, _, _, rfl, rfl, _, rfl, z, rfl, hzs, ?_⟩
    dsimp only [gName, tSeq]
    have hct : TL.tl (cutS z (some ((n : Nat) : Int)) (some (((n : Nat) : Int) + ((most : Nat) : Int)))) = u ++ rest.take (most - u.length) := by
      rw [show (((n : Nat) : Int) + ((most : Nat) : Int)) = ((n + most : Nat) : Int) by omega, cutS_at, show n + most - n = most by omega, hd]
      show (u ++ rest).take most = _
      rw [List.take_append, List.take_of_length_le hm]
    generalize cutS z (some ((n : Nat) : Int)) (some (((n : Nat) : Int) + ((most : Nat) : Int))) = G at *
    have hGl : G.length = u.length + (rest.take (most - u.length)).length := by rw [TL.len_tl, hct, List.length_append]
    have hGs : G.length ≤ sizeLine := by rw [hGl, List.length_take, sizeLine_eq]; omega
    have hsl := lstrip_len G t u (rest.take (most - u.length)) hct hu (by
      rcases hr2 with h | h
      · rw [h, Nat.sub_self, List.take_zero]
        rfl
      · cases rest with
        | nil => rw [List.take_nil]; rfl
        | cons d r =>
          cases most - u.length with
          | zero => rfl
          | succ j => exact h)
    have hsz : (Txt.lstripChars G t).length ≤ sizeLine := by omega
    refine ⟨.str G, rfl, G, rfl, hGs, .str G, rfl, ⟨_, rfl⟩, .str t, rfl, G, t, rfl, rfl, hGs, _, rfl, hsz, _, _, rfl, rfl, ?_⟩
    dsimp only [gName]
    rw [show ((G.length : Nat) : Int) - (((Txt.lstripChars G t).length : Nat) : Int) = ((u.length : Nat) : Int) by omega]
    refine ifT false (fun k q1 => ⟨_, rfl, rfl, _, rfl, TellB.eq (by rw [vint_dec]; exact decide_eq_false (by omega)) q1 _ (Same.refl _)⟩) (fun h => nomatch h) (fun _ H1 s1 => ?_)
    dsimp only [tNext, tSeq]
    have e1 := s1 _ _ e
    refine ⟨.ref a, rfl, a, C, dx, _, _, rfl, e1, R.c, R.n_at, rfl, _, rfl, _, _, rfl, rfl, dx, _, e1, (by show 2 < 1000; decide), ?_⟩
    dsimp only
    have e2 : Rdr (upd H1 a (.ins C dx (putF (Str.ofString "at") (.int ((n : Nat) + (u.length : Nat))) (rfs z n)))) C a dx z (n + u.length) := by
      unfold Rdr
      rw [upd_same]
      rfl
    have s2 : SameBut a H (upd H1 a (.ins C dx (putF (Str.ofString "at") (.int ((n : Nat) + (u.length : Nat))) (rfs z n)))) := (SameBut.of s1).trans (SameBut.upd _ _ _)
    generalize upd H1 a (.ins C dx (putF (Str.ofString "at") (.int ((n : Nat) + (u.length : Nat))) (rfs z n))) = H2 at *
    refine ⟨.str G, rfl, .int ((u.length : Nat) : Int), rfl, _, rfl, G, rfl, hGs, ?_⟩
    have hcut : cutS G none (some ((u.length : Nat) : Int)) = ⟨u.toArray⟩ := TL.ext_tl (by
      rw [cutS_to]
      show (TL.tl G).take u.length = u
      rw [hct, List.take_append_of_le_length (Nat.le_refl _), List.take_length])
    rw [hcut]
    exact q _ s2 e2
/-! ### Reader_end -/
abbrev s_Reader_end : Stmt := clsS 7 9
abbrev N_Reader_end : List Str := ["self"]
abbrev P_Reader_end : List Str := ["self"]
theorem sc_Reader_end : FnScope N_Reader_end ["self"] (defScope s_Reader_end) := ⟨rfl, rfl, rfl, by decide +kernel, rfl, by decide +kernel, by decide +kernel⟩
def sp_end (C : Addr) : Sp := fun vs H Q _ => ∃ (a dx : Addr) (z : Str) (n : Nat), vs = [.ref a] ∧ Rdr H C a dx z n ∧ z.length ≤ 100000 ∧ z.length ≤ n ∧ Tell H .non Q
theorem ok_end {f : Addr} {fd : FuncData} {k : Nat} (F : Fun K "end" "Reader.end" s_Reader_end f fd) (T : Tx mg tk) (R : Rc K C) : FnOk P w K mg base CX0 (k + 1) f fd P_Reader_end (sp_end C) := by
  refine F.ok sc_Reader_end (fun vs H Q E h => ?_) (fun cdv A outer s H vs Q E hr h => ?_)
  · obtain ⟨a, dx, z, n, rfl, _⟩ := h
    rfl
  · have nd := sc_Reader_end.nd
    obtain ⟨a, dx, z, n, rfl, e, hz, hn, q⟩ := h
    refine ⟨_, (pss_one (ps_if (pt_cmpR op_lt (pe_fld (pv 0) rfl) (pe_callB call_len_str (by rfl) T.n_len (by decide +kernel) (pa_cons (pe_fld (pv 0) rfl) pa_nil)) (nomark _))
        (pss_one ps_never)
        pss_nil)), ?_⟩
    have hzs : z.length ≤ sizeLine := by rw [sizeLine_eq]; omega
    refine ifT false (fun k q1 => ⟨.ref a, rfl, a, C, dx, _, _, rfl, e, R.c, R.n_at, rfl, .ref a, rfl, a, C, dx, _, _, rfl, e, R.c, R.n_signs, rfl, z, rfl, hzs, _, _, rfl, rfl, _, rfl, TellB.eq (decide_eq_false (by omega)) q1 _ (Same.refl _)⟩) (fun h => nomatch h) (fun _ H1 s1 => ?_)
    exact q _ s1
end
end K15

namespace K15
open PySem PySem.Spec PyProof.Rows L2 LH
/-! ### addresses and names of words -/
def tailT (S : List Nat) (rem : List (List Nat)) : List Nat := (rem.map fun h => S ++ h).flatten
theorem tailT_cons (S h : List Nat) (rem : List (List Nat)) : tailT S (h :: rem) = S ++ h ++ tailT S rem := by
  unfold tailT
  rw [List.map_cons, List.flatten_cons]
theorem joinL_tail (S : List Nat) : ∀ (h : List Nat) (rem : List (List Nat)), TL.joinL S (h :: rem) = h ++ tailT S rem
  | h, [] => by show h = h ++ []; rw [List.append_nil]
  | h, g :: rem => by
    show h ++ (S ++ TL.joinL S (g :: rem)) = _
    rw [joinL_tail S g rem, tailT_cons]
    simp only [List.append_assoc]
theorem tailT_app (S : List Nat) (a b : List (List Nat)) : tailT S (a ++ b) = tailT S a ++ tailT S b := by
  unfold tailT
  rw [List.map_append, List.flatten_append]
theorem adv {l u r : List Nat} {n : Nat} (h : l.drop n = u ++ r) : l.drop (n + u.length) = r := by
  rw [← List.drop_drop, h, List.drop_left]
def RunL (S : List Nat) (m : Nat) (u : List Nat) : Prop := 1 ≤ u.length ∧ u.length ≤ m ∧ ∀ c ∈ u, c ∈ S
def GoodAddr (ad : List Nat) : Prop := ∃ lo h hs, ad = lo ++ 64 :: (h ++ tailT [46] hs) ∧ RunL (TL.tl LOCALT) 20 lo ∧ RunL (TL.tl HOUSET) 10 h ∧ hs.length ≤ 2 ∧ ∀ x ∈ hs, RunL (TL.tl HOUSET) 10 x
theorem no64 : 64 ∉ TL.tl LOCALT := by decide +kernel
theorem no46 : 46 ∉ TL.tl HOUSET := by decide +kernel
theorem no62 : 62 ∉ TL.tl HOUSET := by decide +kernel
theorem tl_at : TL.tl (Str.ofString "@") = [64] := by decide +kernel
theorem tl_dot : TL.tl (Str.ofString ".") = [46] := by decide +kernel
theorem tl_sp : TL.tl (Str.ofString " ") = [32] := by decide +kernel
def S' (l : List Nat) : Str := ⟨l.toArray⟩
theorem tl_S' (l : List Nat) : TL.tl (S' l) = l := rfl
theorem len_S' (l : List Nat) : (S' l).length = l.length := by rw [TL.len_tl]; rfl
def sL (us : List (List Nat)) : List Str := us.map S'
theorem sL_tls (us : List (List Nat)) : (sL us).map TL.tl = us := by
  unfold sL
  rw [List.map_map]
  exact List.map_id' us
theorem sL_len (us : List (List Nat)) : (sL us).length = us.length := List.length_map ..
theorem sL_app (us : List (List Nat)) (u : List Nat) : (sL us).map V.str ++ [V.str (S' u)] = (sL (us ++ [u])).map V.str := by
  unfold sL
  rw [List.map_append, List.map_append]
  rfl
/-- while, by a number that falls -/
theorem whileN {c : TT} {tb : TS} {D : Ends} {σ : L2.St} {H : Hp} (Pv : Nat → L2.St → Hp → Prop) (n0 : Nat) (h0 : Pv n0 σ H)
    (hs : ∀ m σ H, Pv m σ H → ∃ b : Bool, (∀ k, TellB H b k → c σ H k) ∧ (b = true → ∀ H1, Same H H1 → tb { D with nx := fun σ' H' => ∃ m', m' < m ∧ Pv m' σ' H', ct := fun σ' H' => ∃ m', m' < m ∧ Pv m' σ' H', bk := D.nx } σ H1) ∧ (b = false → ∀ H1, Same H H1 → D.nx σ H1)) : tWhile c tb D σ H := by
  refine ⟨Pv, ⟨n0, h0⟩, ?_⟩
  intro m σ H p
  obtain ⟨b, ht, h1, h2⟩ := hs m σ H p
  refine ht _ fun H1 s1 => ?_
  cases b with
  | true => exact ⟨_, fun σ' H' ⟨m', l, p'⟩ => ⟨m', l, p'⟩, h1 rfl H1 s1⟩
  | false => exact h2 rfl H1 s1
/-- seeing the first sign of what the rest begins with -/
theorem sees_tail {s : Nat} {S' : List Nat} (rem : List (List Nat)) (r : List Nat) (hr : seesL r [s] = false) : seesL (tailT (s :: S') rem ++ r) [s] = decide (rem ≠ []) := by
  cases rem with
  | nil => exact hr
  | cons h t =>
    rw [tailT_cons]
    show decide (s ∈ [s]) = _
    simp
theorem run_stop {S : List Nat} {s : Nat} {S' : List Nat} (hs : s ∉ S) (rem : List (List Nat)) (r : List Nat) (hr : seesL r S = false) : seesL (tailT (s :: S') rem ++ r) S = false := by
  cases rem with
  | nil => exact hr
  | cons h t =>
    rw [tailT_cons]
    exact decide_eq_false hs
section
variable {P : Program} {w : World} {K : PySem.W.Frag} {mg : Str → Option Value} {base : Heap} {tk : Nat → Tok} {ca : Nat → Addr} {C : Addr}
/-! ### read_address -/
abbrev s_read_address : Stmt := topS 29
abbrev N_read_address : List Str := ["reader", "local", "words"]
abbrev P_read_address : List Str := ["reader"]
theorem sc_read_address : FnScope N_read_address ["reader"] (defScope s_read_address) := ⟨rfl, rfl, rfl, by decide +kernel, rfl, by decide +kernel, by decide +kernel⟩
def sp_addr (C : Addr) : Sp := fun vs H Q _ => ∃ (a dx : Addr) (z : Str) (n : Nat) (ad r : List Nat), vs = [.ref a] ∧ Rdr H C a dx z n ∧ z.length ≤ 100000 ∧ (TL.tl z).drop n = ad ++ 62 :: r ∧ GoodAddr ad ∧ ∀ H', SameBut a H H' → Rdr H' C a dx z (n + ad.length) → Q (.str (S' ad)) H'
theorem ok_addr {f fR fW fS : Addr} {fd fdR fdW fdS : FuncData} (F : Fun K "read_address" "read_address" s_read_address f fd) (T : Tx mg tk) (M_Reader_run : DefM P w K mg base C "run" 1 fR fdR P_Reader_run (sp_run C)) (M_Reader_word : DefM P w K mg base C "word" 3 fW fdW P_Reader_word (sp_word C)) (M_Reader_sees : DefM P w K mg base C "sees" 1 fS fdS P_Reader_sees (sp_sees C)) : FnOk P w K mg base CX0 4 f fd P_read_address (sp_addr C) := by
  refine F.ok sc_read_address (fun vs H Q E h => ?_) (fun cdv A outer s H vs Q E hr h => ?_)
  · obtain ⟨a, dx, z, n, ad, r, rfl, _⟩ := h
    rfl
  · have nd := sc_read_address.nd
    obtain ⟨a, dx, z, n, ad, r, rfl, e, hz, hd, ⟨lo, h, hs, rfl, ⟨l1, l2, l3⟩, ⟨h1, h2, h3⟩, hn, hall⟩, q⟩ := h
    refine ⟨_, (pss_cons (ps_set (i := 1) nd rfl (.inl rfl) (pe_meth (pv 0) M_Reader_run.c M_Reader_run.hm M_Reader_run.ok (hr.mono (by decide)) M_Reader_run.bd .nil pass0 (pa_cons (pe_glob (v := .str LOCALT) (by rfl) T.m_LOCAL_SIGNS ⟨_, rfl⟩) (pa_cons (pe_glob (v := .int 20) (by rfl) T.m_LOCAL_MOST ⟨_, rfl⟩) pa_nil))))
      (pss_cons (ps_expr (pe_meth (pv 0) M_Reader_word.c M_Reader_word.hm M_Reader_word.ok (hr.mono (by decide)) M_Reader_word.bd .nil pass0 (pa_cons pe_str pa_nil)))
      (pss_cons (ps_set (i := 2) nd rfl (.inl rfl) (pe_lst (pa_cons (pe_meth (pv 0) M_Reader_run.c M_Reader_run.hm M_Reader_run.ok (hr.mono (by decide)) M_Reader_run.bd .nil pass0 (pa_cons (pe_glob (v := .str HOUSET) (by rfl) T.m_HOUSE_SIGNS ⟨_, rfl⟩) (pa_cons (pe_glob (v := .int 10) (by rfl) T.m_HOUSE_MOST ⟨_, rfl⟩) pa_nil))) pa_nil)))
      (pss_cons (ps_while PassesOwn.never (PW.pt (pw_and (pt_cmpR op_lt (pe_callB (cLen K) (by rfl) T.n_len (by decide +kernel) (pa_cons (pv 2) pa_nil)) (pe_glob (v := .int 3) (by rfl) T.m_HOUSE_WORDS ⟨_, rfl⟩) (nomark _)) (pw_and1 (pt_val (pe_meth (pv 0) M_Reader_sees.c M_Reader_sees.hm M_Reader_sees.ok (hr.mono (by decide)) M_Reader_sees.bd .nil pass0 (pa_cons pe_str pa_nil))))))
        (pss_cons (ps_expr (pe_meth (pv 0) M_Reader_word.c M_Reader_word.hm M_Reader_word.ok (hr.mono (by decide)) M_Reader_word.bd .nil pass0 (pa_cons pe_str pa_nil)))
        (pss_one (ps_expr (pe_bm PySem.F.plainAttrs_list PySem.F.slot_list_append PySem.F.type_list_append mt_append (pv 2) (pa_cons (pe_meth (pv 0) M_Reader_run.c M_Reader_run.hm M_Reader_run.ok (hr.mono (by decide)) M_Reader_run.bd .nil pass0 (pa_cons (pe_glob (v := .str HOUSET) (by rfl) T.m_HOUSE_SIGNS ⟨_, rfl⟩) (pa_cons (pe_glob (v := .int 10) (by rfl) T.m_HOUSE_MOST ⟨_, rfl⟩) pa_nil))) pa_nil))))))
      (pss_one (ps_ret (pe_op op_add_str (pe_op op_add_str (pv 1) pe_str) (pe_join pe_str (pv 2))))))))), ?_⟩
    dsimp only [gName, tSeq, tAsg]
    have hd1 : (TL.tl z).drop n = lo ++ (64 :: (h ++ (tailT [46] hs ++ 62 :: r))) := by rw [hd]; simp only [List.append_assoc, List.cons_append]
    refine ⟨.ref a, rfl, a, dx, _, rfl, e, rfl, a, dx, z, LOCALT, n, 20, lo, _, rfl, e, hz, hd1, l1, l2, l3, .inr (decide_eq_false no64), by decide, fun H1 s1 e1 => ?_⟩
    have hd2 := adv hd1
    refine ⟨.ref a, rfl, a, dx, _, rfl, e1, rfl, a, dx, z, Str.ofString "@", n + lo.length, _, rfl, e1, hz, by rw [hd2, tl_at]; rfl, fun H2 s2 e2 => ?_⟩
    have hd3 : (TL.tl z).drop (n + lo.length + 1) = h ++ (tailT [46] hs ++ 62 :: r) := adv (u := [64]) hd2
    rw [tl_at] at e2
    refine ⟨.ref a, rfl, a, dx, _, rfl, e2, rfl, a, dx, z, HOUSET, n + lo.length + 1, 10, h, _, rfl, e2, hz, hd3, h1, h2, h3, .inr (run_stop no46 hs _ (decide_eq_false no62)), by decide, fun H3 s3 e3 => ?_⟩
    have hd4 : (TL.tl z).drop (n + lo.length + 1 + h.length) = tailT [46] hs ++ 62 :: r := adv hd3
    have s3 := s1.trans (s2.trans s3)
    refine ⟨Nat.le_of_lt (small1000 (show 1 ≤ 1000 by decide)), fun p np => ?_⟩
    have hpa : p ≠ a := ne_of_none (show H3 a = some _ from e3) np |>.symm
    have npH : H p = none := by
      cases hh : H p with
      | none => rfl
      | some o => rw [s3 p o hpa hh] at np; exact nomatch np
    have hL0 : (lo ++ 64 :: (h ++ tailT [46] hs)).length = lo.length + 1 + h.length + (tailT [46] hs).length := by simp only [List.length_append, List.length_cons]; omega
    dsimp only [gName, tSeq]
    refine whileN (fun m σ H' => ∃ done rem : List (List Nat), m = rem.length ∧ hs = done ++ rem ∧ σ = [some (.ref a), some (.str (S' lo)), some (.ref p)] ∧ SameBut a H H' ∧ H' p = some (.lst ((sL (h :: done)).map V.str)) ∧ ∃ at' : Nat, Rdr H' C a dx z at' ∧ (TL.tl z).drop at' = tailT [46] rem ++ 62 :: r ∧ at' + (tailT [46] rem).length = n + (lo ++ 64 :: (h ++ tailT [46] hs)).length) hs.length
      ⟨[], hs, rfl, rfl, rfl, ?_, upd_same, n + lo.length + 1 + h.length, ?_, hd4, by omega⟩ (fun m σ H' hP => ?_)
    · exact fun b o hb hh => by
        rw [upd_ne (fun x => by rw [x, npH] at hh; exact nomatch hh)]
        exact s3 b o hb hh
    · unfold Rdr
      rw [upd_ne hpa.symm]
      exact e3
    obtain ⟨done, rem, rfl, ehs, rfl, sm, ep, m0, em, hdm, hlen⟩ := hP
    have hdl : done.length + rem.length ≤ 2 := by rw [ehs, List.length_append] at hn; exact hn
    have hL : ((sL (h :: done)).map V.str).length = done.length + 1 := by rw [List.length_map, sL_len]; rfl
    refine ⟨decide (rem ≠ []), fun k q1 => ?_, fun hb H4 s4 => ?_, fun hb H4 s4 => ?_⟩
    · refine andT (decide (done.length + 1 < 3)) (decide (rem ≠ [])) (fun k' q2 => ⟨.ref p, rfl, p, _, rfl, .inl (.inl (.inl ep)), _, 3, rfl, rfl, _, rfl, TellB.eq (decide_eq_decide.mpr (by rw [hL]; omega)) q2 _ (Same.refl _)⟩) (fun _ H4 k' s4 q2 => ⟨.ref a, rfl, a, dx, _, rfl, s4 _ _ em, rfl, a, dx, z, Str.ofString ".", m0, rfl, s4 _ _ em, hz, fun H5 s5 => ⟨_, rfl, ?_⟩⟩) (TellB.eq ?_ q1)
      · rw [hdm, tl_dot, sees_tail (s := 46) (S' := []) rem (62 :: r) (show decide (62 ∈ [46]) = false by decide)]
        exact q2 _ s5
      · cases rem with
        | nil => simp
        | cons g t =>
          simp only [List.length_cons] at hdl
          rw [decide_eq_true (show done.length + 1 < 3 by omega)]
          rfl
    · cases rem with
      | nil => exact absurd hb (by decide)
      | cons g t =>
        obtain ⟨g1, g2, g3⟩ := hall g (by rw [ehs]; exact List.mem_append_right _ (List.mem_cons_self ..))
        have hdm' : (TL.tl z).drop m0 = [46] ++ (g ++ (tailT [46] t ++ 62 :: r)) := by rw [hdm, tailT_cons]; simp only [List.append_assoc]
        dsimp only [tSeq]
        refine ⟨.ref a, rfl, a, dx, _, rfl, s4 _ _ em, rfl, a, dx, z, Str.ofString ".", m0, _, rfl, s4 _ _ em, hz, by rw [hdm', tl_dot], fun H5 s5 e5 => ?_⟩
        rw [tl_dot] at e5
        have hd5 := adv hdm'
        have ep5 := s5 p _ hpa (s4 _ _ ep)
        refine ⟨.ref p, rfl, .inl ⟨rfl, _, .inl (.inl ep5)⟩, .ref a, rfl, a, dx, _, rfl, e5, rfl, a, dx, z, HOUSET, m0 + 1, 10, g, _, rfl, e5, hz, hd5, g1, g2, g3, .inr (run_stop no46 t _ (decide_eq_false no62)), by decide, fun H6 s6 e6 => ?_⟩
        have ep6 := s6 p _ hpa ep5
        refine ⟨p, _, _, rfl, rfl, ep6, by rw [hL, sizeLine_eq]; omega, t.length, Nat.lt_succ_self _, done ++ [g], t, rfl, by rw [ehs, List.append_assoc]; rfl, rfl, ?_, ?_, m0 + 1 + g.length, ?_, adv hd5, ?_⟩
        · intro b o hb hh
          rw [upd_ne (fun x => by rw [x, npH] at hh; exact nomatch hh)]
          exact s6 b o hb (s5 b o hb (s4 _ _ (sm b o hb hh)))
        · rw [upd_same]
          exact congrArg (fun x => some (HO.lst x)) (sL_app (h :: done) g)
        · unfold Rdr
          rw [upd_ne hpa.symm]
          exact e6
        · rw [← hlen, tailT_cons]
          simp only [List.length_append, List.length_cons, List.length_nil]
          omega
    · have hr0 : rem = [] := by
        cases rem with
        | nil => rfl
        | cons g t => exact absurd hb (by simp)
      subst hr0
      rw [List.append_nil] at ehs
      subst ehs
      have hlen' : m0 = n + (lo ++ 64 :: (h ++ tailT [46] hs)).length := by
        have : (tailT [46] []).length = 0 := rfl
        omega
      subst hlen'
      have ep4 := s4 _ _ ep
      have hat1 : (Str.ofString "@").length = 1 := by decide +kernel
      have hdt1 : (Str.ofString ".").length = 1 := by decide +kernel
      have hwl : ∀ x ∈ h :: hs, x.length ≤ 10 := fun x hx => by
        rcases List.mem_cons.mp hx with rfl | hx
        · exact h2
        · exact (hall x hx).2.1
      have hjl := join_len_le (sep := Str.ofString ".") (ws := sL (h :: hs)) (k := 10) (n := 3) (fun x hx => by
        obtain ⟨u, hu, rfl⟩ := List.mem_map.mp hx
        rw [len_S']
        exact hwl u hu) (by rw [sL_len, List.length_cons]; omega)
      have hjt : TL.tl (Txt.join (Str.ofString ".") (sL (h :: hs))) = h ++ tailT [46] hs := by rw [TL.join_eq, TL.tl_join, sL_tls, tl_dot, joinL_tail]
      rw [hdt1] at hjl
      have hjn : (Txt.join (Str.ofString ".") (sL (h :: hs))).length ≤ 33 := by
        rw [TL.len_tl, hjt, ← joinL_tail]
        have := joinL_len [46] (h :: hs)
        have e1 : [46].length = 1 := rfl
        rw [e1] at this
        have e2 : (sL (h :: hs)).map (·.length) = (h :: hs).map List.length := by
          unfold sL
          rw [List.map_map]
          exact List.map_congr_left fun u _ => len_S' u
        rw [e2, sL_len] at hjl
        omega
      refine ⟨_, rfl, _, _, rfl, rfl, by rw [len_S', hat1, sizeLine_eq]; omega, ⟨_, rfl⟩, .ref p, rfl, Str.ofString ".", p, _, rfl, rfl, .inl (.inl (.inl ep4)), by rw [hdt1]; omega, _, _, rfl, rfl, by rw [len_app, len_S', hat1, sizeLine_eq]; omega, ?_⟩
      have er : S' lo ++ Str.ofString "@" ++ Txt.join (Str.ofString ".") (sL (h :: hs)) = S' (lo ++ 64 :: (h ++ tailT [46] hs)) := TL.ext_tl (by rw [TL.tl_append, TL.tl_append, hjt, tl_at, tl_S', tl_S', List.append_assoc]; rfl)
      show Q (.str (S' lo ++ Str.ofString "@" ++ Txt.join (Str.ofString ".") (sL (h :: hs)))) H4
      rw [er]
      exact q _ (sm.trans (SameBut.of s4)) (s4 _ _ em)
end
end K15

namespace K15
open PySem PySem.Spec PyProof.Rows L2 LH
/-! ### names -/
def EndsW (r : List Nat) : Prop := (∃ r', r = 58 :: r') ∨ ∃ r', r = 32 :: 60 :: r'
theorem cno32 : 32 ∉ TL.tl CALLEDT := by decide +kernel
theorem cno58 : 58 ∉ TL.tl CALLEDT := by decide +kernel
theorem cno60 : 60 ∉ TL.tl CALLEDT := by decide +kernel
theorem cno34 : 34 ∉ TL.tl CALLEDT := by decide +kernel
theorem qno92 : 92 ∉ TL.tl QUOTEDT := by decide +kernel
theorem qno34 : 34 ∉ TL.tl QUOTEDT := by decide +kernel
theorem tl_lt : TL.tl (Str.ofString "<") = [60] := by decide +kernel
theorem tl_gt : TL.tl (Str.ofString ">") = [62] := by decide +kernel
theorem tl_qu : TL.tl (Str.ofString "\"") = [34] := by decide +kernel
theorem tl_bs : TL.tl (Str.ofString "\\") = [92] := by decide +kernel
theorem tl_qb : TL.tl (Str.ofString "\"\\") = [34, 92] := by decide +kernel
theorem tl_splt : TL.tl (Str.ofString " <") = [32, 60] := by decide +kernel
theorem ends_stop {r : List Nat} (h : EndsW r) : seesL r (TL.tl CALLEDT) = false := by
  rcases h with ⟨r', rfl⟩ | ⟨r', rfl⟩
  · exact decide_eq_false cno58
  · exact decide_eq_false cno32
theorem words_go (rem : List (List Nat)) (r : List Nat) (k : Nat) (hall : ∀ x ∈ rem, RunL (TL.tl CALLEDT) 12 x) (hr : EndsW r) (hk : k + rem.length ≤ 3) :
    (decide (k + 1 < 4) && (seesL (tailT [32] rem ++ r) [32] && !aheadIs (tailT [32] rem ++ r) [32, 60])) = decide (rem ≠ []) := by
  cases rem with
  | nil =>
    show (decide (k + 1 < 4) && (seesL r [32] && !aheadIs r [32, 60])) = false
    rcases hr with ⟨r', rfl⟩ | ⟨r', rfl⟩
    · rw [show seesL (58 :: r') [32] = false from (show decide (58 ∈ [32]) = false by decide), Bool.false_and, Bool.and_false]
    · rw [show aheadIs (32 :: 60 :: r') [32, 60] = true from decide_eq_true rfl]
      simp
  | cons g t =>
    obtain ⟨g1, _, g3⟩ := hall g (List.mem_cons_self ..)
    cases g with
    | nil => simp at g1
    | cons c g =>
      have hc : c ≠ 60 := fun e => cno60 (by rw [← e]; exact g3 c (List.mem_cons_self ..))
      rw [tailT_cons]
      simp only [List.length_cons] at hk
      rw [decide_eq_true (show k + 1 < 4 by omega)]
      show (true && (decide (32 ∈ [32]) && !decide ((32 :: c :: (g ++ tailT [32] t ++ r)).take 2 = [32, 60]))) = true
      rw [show decide ((32 :: c :: (g ++ tailT [32] t ++ r)).take 2 = [32, 60]) = false from decide_eq_false fun h => hc (List.cons.inj (List.cons.inj h).2).1]
      rfl
/-- a sign of a quoted name, as it is written -/
def escC (c : Nat) : List Nat := if c = 92 ∨ c = 34 then [92, c] else [c]
def escL (u : List Nat) : List Nat := (u.map escC).flatten
def QC (c : Nat) : Prop := c = 32 ∨ c = 34 ∨ c = 92 ∨ c ∈ TL.tl QUOTEDT
def NoDbl (u : List Nat) : Prop := ∀ p c s, u = p ++ c :: s → c = 32 → p.getLast? ≠ some 32
def QGood (u : List Nat) : Prop := 1 ≤ u.length ∧ u.length ≤ 30 ∧ (∀ c ∈ u, QC c) ∧ NoDbl u
theorem sees_esc (c : Nat) (r : List Nat) : seesL (escC c ++ r) [92] = decide (c = 92 ∨ c = 34) := by
  unfold escC
  by_cases h : c = 92 ∨ c = 34
  · rw [if_pos h, decide_eq_true h]
    rfl
  · rw [if_neg h, decide_eq_false h]
    exact decide_eq_false (by simp; exact fun e => h (.inl e))
theorem sees_quote (u r : List Nat) : seesL (escL u ++ 34 :: r) [34] = decide (u = []) := by
  cases u with
  | nil => rfl
  | cons c u =>
    show seesL (escC c ++ (u.map escC).flatten ++ 34 :: r) [34] = false
    unfold escC
    by_cases h : c = 92 ∨ c = 34
    · rw [if_pos h]
      rfl
    · rw [if_neg h]
      exact decide_eq_false (by simp; exact fun e => h (.inr e))
section
variable {P : Program} {w : World} {K : PySem.W.Frag} {mg : Str → Option Value} {base : Heap} {tk : Nat → Tok} {ca : Nat → Addr} {C : Addr}
/-! ### read_told_address -/
abbrev s_read_told_address : Stmt := topS 28
abbrev N_read_told_address : List Str := ["reader", "address"]
abbrev P_read_told_address : List Str := ["reader"]
theorem sc_read_told_address : FnScope N_read_told_address ["reader"] (defScope s_read_told_address) := ⟨rfl, rfl, rfl, by decide +kernel, rfl, by decide +kernel, by decide +kernel⟩
def sp_ta (C : Addr) : Sp := fun vs H Q _ => ∃ (a dx : Addr) (z : Str) (n : Nat) (ad r : List Nat), vs = [.ref a] ∧ Rdr H C a dx z n ∧ z.length ≤ 100000 ∧ (TL.tl z).drop n = 60 :: (ad ++ 62 :: r) ∧ GoodAddr ad ∧ ∀ H', SameBut a H H' → Rdr H' C a dx z (n + (ad.length + 2)) → Q (.str (S' ad)) H'
theorem ok_ta {f fW fA : Addr} {fd fdW fdA : FuncData} (F : Fun K "read_told_address" "read_told_address" s_read_told_address f fd) (T : Tx mg tk) (M_Reader_word : DefM P w K mg base C "word" 3 fW fdW P_Reader_word (sp_word C)) (D_read_address : Def P w K mg base "read_address" 4 fA fdA P_read_address (sp_addr C)) : FnOk P w K mg base CX0 5 f fd P_read_told_address (sp_ta C) := by
  refine F.ok sc_read_told_address (fun vs H Q E h => ?_) (fun cdv A outer s H vs Q E hr h => ?_)
  · obtain ⟨a, dx, z, n, ad, r, rfl, _⟩ := h
    rfl
  · have nd := sc_read_told_address.nd
    obtain ⟨a, dx, z, n, ad, r, rfl, e, hz, hd, hg, q⟩ := h
    refine ⟨_, (pss_cons (ps_expr (pe_meth (pv 0) M_Reader_word.c M_Reader_word.hm M_Reader_word.ok (hr.mono (by decide)) M_Reader_word.bd .nil pass0 (pa_cons pe_str pa_nil)))
      (pss_cons (ps_set (i := 1) nd rfl (.inl rfl) (pe_def D_read_address (hr.mono (by decide)) (pa_cons (pv 0) pa_nil)))
      (pss_cons (ps_expr (pe_meth (pv 0) M_Reader_word.c M_Reader_word.hm M_Reader_word.ok (hr.mono (by decide)) M_Reader_word.bd .nil pass0 (pa_cons pe_str pa_nil)))
      (pss_one (ps_ret (pv 1)))))), ?_⟩
    dsimp only [gName, tSeq, tAsg]
    refine ⟨.ref a, rfl, a, dx, _, rfl, e, rfl, a, dx, z, Str.ofString "<", n, _, rfl, e, hz, by rw [hd, tl_lt]; rfl, fun H1 s1 e1 => ?_⟩
    rw [tl_lt] at e1
    have hd1 : (TL.tl z).drop (n + 1) = ad ++ 62 :: r := adv (u := [60]) hd
    refine ⟨.ref a, rfl, a, dx, z, n + 1, ad, r, rfl, e1, hz, hd1, hg, fun H2 s2 e2 => ?_⟩
    have hd2 : (TL.tl z).drop (n + 1 + ad.length) = 62 :: r := adv hd1
    refine ⟨.ref a, rfl, a, dx, _, rfl, e2, rfl, a, dx, z, Str.ofString ">", n + 1 + ad.length, r, rfl, e2, hz, by rw [hd2, tl_gt]; rfl, fun H3 s3 e3 => ?_⟩
    rw [tl_gt] at e3
    refine ⟨_, rfl, q _ (s1.trans (s2.trans s3)) ?_⟩
    rw [show n + (ad.length + 2) = n + 1 + ad.length + 1 by omega]
    exact e3
/-! ### read_words -/
abbrev s_read_words : Stmt := topS 31
abbrev N_read_words : List Str := ["reader", "words"]
abbrev P_read_words : List Str := ["reader"]
theorem sc_read_words : FnScope N_read_words ["reader"] (defScope s_read_words) := ⟨rfl, rfl, rfl, by decide +kernel, rfl, by decide +kernel, by decide +kernel⟩
def sp_words (C : Addr) : Sp := fun vs H Q _ => ∃ (a dx : Addr) (z : Str) (n : Nat) (h : List Nat) (hs : List (List Nat)) (r : List Nat), vs = [.ref a] ∧ Rdr H C a dx z n ∧ z.length ≤ 100000 ∧ (TL.tl z).drop n = (h ++ tailT [32] hs) ++ r ∧ RunL (TL.tl CALLEDT) 12 h ∧ hs.length ≤ 3 ∧ (∀ x ∈ hs, RunL (TL.tl CALLEDT) 12 x) ∧ EndsW r ∧
  ∀ H', SameBut a H H' → Rdr H' C a dx z (n + (h ++ tailT [32] hs).length) → Q (.str (S' (h ++ tailT [32] hs))) H'
theorem ok_words {f fR fW fS fV : Addr} {fd fdR fdW fdS fdV : FuncData} (F : Fun K "read_words" "read_words" s_read_words f fd) (T : Tx mg tk) (M_Reader_run : DefM P w K mg base C "run" 1 fR fdR P_Reader_run (sp_run C)) (M_Reader_word : DefM P w K mg base C "word" 3 fW fdW P_Reader_word (sp_word C)) (M_Reader_sees : DefM P w K mg base C "sees" 1 fS fdS P_Reader_sees (sp_sees C)) (M_Reader_sees_word : DefM P w K mg base C "sees_word" 1 fV fdV P_Reader_sees_word (sp_seesword C)) : FnOk P w K mg base CX0 4 f fd P_read_words (sp_words C) := by
  refine F.ok sc_read_words (fun vs H Q E h => ?_) (fun cdv A outer s H vs Q E hr h => ?_)
  · obtain ⟨a, dx, z, n, h, hs, r, rfl, _⟩ := h
    rfl
  · have nd := sc_read_words.nd
    obtain ⟨a, dx, z, n, h, hs, r, rfl, e, hz, hd, ⟨h1, h2, h3⟩, hn, hall, hr2, q⟩ := h
    refine ⟨_, (pss_cons (ps_set (i := 1) nd rfl (.inl rfl) (pe_lst (pa_cons (pe_meth (pv 0) M_Reader_run.c M_Reader_run.hm M_Reader_run.ok (hr.mono (by decide)) M_Reader_run.bd .nil pass0 (pa_cons (pe_glob (v := .str CALLEDT) (by rfl) T.m_CALLED_SIGNS ⟨_, rfl⟩) (pa_cons (pe_glob (v := .int 12) (by rfl) T.m_CALLED_MOST ⟨_, rfl⟩) pa_nil))) pa_nil)))
      (pss_cons (ps_while PassesOwn.never (PW.pt (pw_and (pt_cmpR op_lt (pe_callB (cLen K) (by rfl) T.n_len (by decide +kernel) (pa_cons (pv 1) pa_nil)) (pe_glob (v := .int 4) (by rfl) T.m_CALLED_WORDS ⟨_, rfl⟩) (nomark _)) (pw_and (pt_val (pe_meth (pv 0) M_Reader_sees.c M_Reader_sees.hm M_Reader_sees.ok (hr.mono (by decide)) M_Reader_sees.bd .nil pass0 (pa_cons pe_str pa_nil))) (pw_and1 (pt_not (pt_val (pe_meth (pv 0) M_Reader_sees_word.c M_Reader_sees_word.hm M_Reader_sees_word.ok (hr.mono (by decide)) M_Reader_sees_word.bd .nil pass0 (pa_cons pe_str pa_nil))))))))
        (pss_cons (ps_expr (pe_meth (pv 0) M_Reader_word.c M_Reader_word.hm M_Reader_word.ok (hr.mono (by decide)) M_Reader_word.bd .nil pass0 (pa_cons pe_str pa_nil)))
        (pss_one (ps_expr (pe_bm PySem.F.plainAttrs_list PySem.F.slot_list_append PySem.F.type_list_append mt_append (pv 1) (pa_cons (pe_meth (pv 0) M_Reader_run.c M_Reader_run.hm M_Reader_run.ok (hr.mono (by decide)) M_Reader_run.bd .nil pass0 (pa_cons (pe_glob (v := .str CALLEDT) (by rfl) T.m_CALLED_SIGNS ⟨_, rfl⟩) (pa_cons (pe_glob (v := .int 12) (by rfl) T.m_CALLED_MOST ⟨_, rfl⟩) pa_nil))) pa_nil))))))
      (pss_one (ps_ret (pe_join pe_str (pv 1)))))), ?_⟩
    dsimp only [gName, tSeq, tAsg]
    rw [List.append_assoc] at hd
    refine ⟨.ref a, rfl, a, dx, _, rfl, e, rfl, a, dx, z, CALLEDT, n, 12, h, _, rfl, e, hz, hd, h1, h2, h3, .inr (run_stop cno32 hs _ (ends_stop hr2)), by decide, fun H3 s3 e3 => ?_⟩
    have hd4 : (TL.tl z).drop (n + h.length) = tailT [32] hs ++ r := adv hd
    refine ⟨Nat.le_of_lt (small1000 (show 1 ≤ 1000 by decide)), fun p np => ?_⟩
    have hpa : p ≠ a := ne_of_none (show H3 a = some _ from e3) np |>.symm
    have npH : H p = none := by
      cases hh : H p with
      | none => rfl
      | some o => rw [s3 p o hpa hh] at np; exact nomatch np
    dsimp only [gName, tSeq]
    refine whileN (fun m σ H' => ∃ done rem : List (List Nat), m = rem.length ∧ hs = done ++ rem ∧ σ = [some (.ref a), some (.ref p)] ∧ SameBut a H H' ∧ H' p = some (.lst ((sL (h :: done)).map V.str)) ∧ ∃ at' : Nat, Rdr H' C a dx z at' ∧ (TL.tl z).drop at' = tailT [32] rem ++ r ∧ at' + (tailT [32] rem).length = n + (h ++ tailT [32] hs).length) hs.length
      ⟨[], hs, rfl, rfl, rfl, ?_, upd_same, n + h.length, ?_, hd4, by rw [List.length_append]; omega⟩ (fun m σ H' hP => ?_)
    · exact fun b o hb hh => by
        rw [upd_ne (fun x => by rw [x, npH] at hh; exact nomatch hh)]
        exact s3 b o hb hh
    · unfold Rdr
      rw [upd_ne hpa.symm]
      exact e3
    obtain ⟨done, rem, rfl, ehs, rfl, sm, ep, m0, em, hdm, hlen⟩ := hP
    have hdl : done.length + rem.length ≤ 3 := by rw [ehs, List.length_append] at hn; exact hn
    have hL : ((sL (h :: done)).map V.str).length = done.length + 1 := by rw [List.length_map, sL_len]; rfl
    refine ⟨decide (rem ≠ []), fun k q1 => ?_, fun hb H4 s4 => ?_, fun hb H4 s4 => ?_⟩
    · refine andT _ _ (fun k' q2 => ⟨.ref p, rfl, p, _, rfl, .inl (.inl (.inl ep)), _, 4, rfl, rfl, _, rfl, TellB.eq (decide_eq_decide.mpr (by rw [hL]; omega)) q2 _ (Same.refl _)⟩) (fun _ H4 k' s4 q2 => andT _ _ (fun k2 q3 => ⟨.ref a, rfl, a, dx, _, rfl, s4 _ _ em, rfl, a, dx, z, Str.ofString " ", m0, rfl, s4 _ _ em, hz, fun H5 s5 => ⟨_, rfl, ?_⟩⟩) (fun _ H5 k2 s5 q3 => notT _ (fun k3 q4 => ⟨.ref a, rfl, a, dx, _, rfl, s5 _ _ (s4 _ _ em), rfl, a, dx, z, Str.ofString " <", m0, rfl, s5 _ _ (s4 _ _ em), hz, by decide +kernel, fun H6 s6 => ⟨_, rfl, ?_⟩⟩) q3) q2) (TellB.eq (words_go rem r done.length (fun x hx => hall x (by rw [ehs]; exact List.mem_append_right _ hx)) hr2 hdl) q1)
      · rw [hdm, tl_sp]
        exact q3 _ s5
      · rw [hdm, tl_splt]
        exact q4 _ s6
    · cases rem with
      | nil => exact absurd hb (by decide)
      | cons g t =>
        obtain ⟨g1, g2, g3⟩ := hall g (by rw [ehs]; exact List.mem_append_right _ (List.mem_cons_self ..))
        have hdm' : (TL.tl z).drop m0 = [32] ++ (g ++ (tailT [32] t ++ r)) := by rw [hdm, tailT_cons]; simp only [List.append_assoc]
        dsimp only [tSeq]
        refine ⟨.ref a, rfl, a, dx, _, rfl, s4 _ _ em, rfl, a, dx, z, Str.ofString " ", m0, _, rfl, s4 _ _ em, hz, by rw [hdm', tl_sp], fun H5 s5 e5 => ?_⟩
        rw [tl_sp] at e5
        have hd5 := adv hdm'
        have ep5 := s5 p _ hpa (s4 _ _ ep)
        refine ⟨.ref p, rfl, .inl ⟨rfl, _, .inl (.inl ep5)⟩, .ref a, rfl, a, dx, _, rfl, e5, rfl, a, dx, z, CALLEDT, m0 + 1, 12, g, _, rfl, e5, hz, hd5, g1, g2, g3, .inr (run_stop cno32 t _ (ends_stop hr2)), by decide, fun H6 s6 e6 => ?_⟩
        have ep6 := s6 p _ hpa ep5
        refine ⟨p, _, _, rfl, rfl, ep6, by rw [hL, sizeLine_eq]; omega, t.length, Nat.lt_succ_self _, done ++ [g], t, rfl, by rw [ehs, List.append_assoc]; rfl, rfl, ?_, ?_, m0 + 1 + g.length, ?_, adv hd5, ?_⟩
        · intro b o hb hh
          rw [upd_ne (fun x => by rw [x, npH] at hh; exact nomatch hh)]
          exact s6 b o hb (s5 b o hb (s4 _ _ (sm b o hb hh)))
        · rw [upd_same]
          exact congrArg (fun x => some (HO.lst x)) (sL_app (h :: done) g)
        · unfold Rdr
          rw [upd_ne hpa.symm]
          exact e6
        · rw [← hlen, tailT_cons]
          simp only [List.length_append, List.length_cons, List.length_nil]
          omega
    · have hr0 : rem = [] := by
        cases rem with
        | nil => rfl
        | cons g t => exact absurd hb (by simp)
      subst hr0
      rw [List.append_nil] at ehs
      subst ehs
      have hlen' : m0 = n + (h ++ tailT [32] hs).length := by
        have : (tailT [32] []).length = 0 := rfl
        omega
      subst hlen'
      have ep4 := s4 _ _ ep
      have hsp1 : (Str.ofString " ").length = 1 := by decide +kernel
      have hjl := join_len_le (sep := Str.ofString " ") (ws := sL (h :: hs)) (k := 12) (n := 4) (fun x hx => by
        obtain ⟨u, hu, rfl⟩ := List.mem_map.mp hx
        rw [len_S']
        rcases List.mem_cons.mp hu with rfl | hu
        · exact h2
        · exact (hall u hu).2.1) (by rw [sL_len, List.length_cons]; omega)
      have hjt : TL.tl (Txt.join (Str.ofString " ") (sL (h :: hs))) = h ++ tailT [32] hs := by rw [TL.join_eq, TL.tl_join, sL_tls, tl_sp, joinL_tail]
      rw [hsp1] at hjl
      refine ⟨⟨_, rfl⟩, .ref p, rfl, Str.ofString " ", p, _, rfl, rfl, .inl (.inl (.inl ep4)), by rw [hsp1]; omega, ?_⟩
      rw [show Txt.join (Str.ofString " ") (sL (h :: hs)) = S' (h ++ tailT [32] hs) from TL.ext_tl hjt]
      exact q _ (sm.trans (SameBut.of s4)) (s4 _ _ em)
end
end K15

namespace K15
open PySem PySem.Spec PyProof.Rows L2 LH
theorem escL_cons (c : Nat) (u : List Nat) : escL (c :: u) = escC c ++ escL u := by
  unfold escL
  rw [List.map_cons, List.flatten_cons]
theorem escL_app (u v : List Nat) : escL (u ++ v) = escL u ++ escL v := by
  unfold escL
  rw [List.map_append, List.flatten_append]
/-- a name and how it may be written -/
def NameT (u N : List Nat) : Prop := (u = [] ∧ N = []) ∨ (N = u ∧ ∃ h hs, u = h ++ tailT [32] hs ∧ RunL (TL.tl CALLEDT) 12 h ∧ hs.length ≤ 3 ∧ ∀ x ∈ hs, RunL (TL.tl CALLEDT) 12 x) ∨ (QGood u ∧ N = 34 :: (escL u ++ [34]))
theorem sees_word1 {h : List Nat} {S : List Nat} {m : Nat} {s : Nat} (r : List Nat) (hr : RunL S m h) (hs : s ∉ S) : seesL (h ++ r) [s] = false := by
  cases h with
  | nil => have := hr.1; simp at this
  | cons c h =>
    refine decide_eq_false fun e => hs ?_
    rw [← List.mem_singleton.mp e]
    exact hr.2.2 c (List.mem_cons_self ..)
section
variable {P : Program} {w : World} {K : PySem.W.Frag} {mg : Str → Option Value} {base : Heap} {tk : Nat → Tok} {ca : Nat → Addr} {C : Addr}
/-! ### read_quoted_sign -/
abbrev s_read_quoted_sign : Stmt := topS 33
abbrev N_read_quoted_sign : List Str := ["reader", "ahead"]
abbrev P_read_quoted_sign : List Str := ["reader", "ahead"]
theorem sc_read_quoted_sign : FnScope N_read_quoted_sign ["reader", "ahead"] (defScope s_read_quoted_sign) := ⟨rfl, rfl, rfl, by decide +kernel, rfl, by decide +kernel, by decide +kernel⟩
def sp_qs (C : Addr) : Sp := fun vs H Q _ => ∃ (a dx : Addr) (z p : Str) (n c : Nat) (r : List Nat), vs = [.ref a, .str p] ∧ Rdr H C a dx z n ∧ z.length ≤ 100000 ∧ (TL.tl z).drop n = escC c ++ r ∧ QC c ∧ (c = 32 → (TL.tl p).getLast? ≠ some 32) ∧ ∀ H', SameBut a H H' → Rdr H' C a dx z (n + (escC c).length) → Q (oneV c) H'
theorem ok_qs {f fO fW fS : Addr} {fd fdO fdW fdS : FuncData} (F : Fun K "read_quoted_sign" "read_quoted_sign" s_read_quoted_sign f fd) (T : Tx mg tk) (M_Reader_one_of : DefM P w K mg base C "one_of" 2 fO fdO P_Reader_one_of (sp_one C)) (M_Reader_word : DefM P w K mg base C "word" 3 fW fdW P_Reader_word (sp_word C)) (M_Reader_sees : DefM P w K mg base C "sees" 1 fS fdS P_Reader_sees (sp_sees C)) : FnOk P w K mg base CX0 4 f fd P_read_quoted_sign (sp_qs C) := by
  refine F.ok sc_read_quoted_sign (fun vs H Q E h => ?_) (fun cdv A outer s H vs Q E hr h => ?_)
  · obtain ⟨a, dx, z, p, n, c, r, rfl, _⟩ := h
    rfl
  · have nd := sc_read_quoted_sign.nd
    obtain ⟨a, dx, z, p, n, c, r, rfl, e, hz, hd, hc, hp, q⟩ := h
    refine ⟨_, (pss_cons (ps_if (pt_val (pe_meth (pv 0) M_Reader_sees.c M_Reader_sees.hm M_Reader_sees.ok (hr.mono (by decide)) M_Reader_sees.bd .nil pass0 (pa_cons pe_str pa_nil)))
        (pss_cons (ps_expr (pe_meth (pv 0) M_Reader_word.c M_Reader_word.hm M_Reader_word.ok (hr.mono (by decide)) M_Reader_word.bd .nil pass0 (pa_cons pe_str pa_nil)))
        (pss_one (ps_ret (pe_meth (pv 0) M_Reader_one_of.c M_Reader_one_of.hm M_Reader_one_of.ok (hr.mono (by decide)) M_Reader_one_of.bd .nil pass0 (pa_cons pe_str pa_nil)))))
        pss_nil)
      (pss_one (ps_ret (pe_meth (pv 0) M_Reader_one_of.c M_Reader_one_of.hm M_Reader_one_of.ok (hr.mono (by decide)) M_Reader_one_of.bd .nil pass0 (pa_cons (pe_ifExp (pt_val (pe_m1 PySem.F.slot_str_endswith PySem.F.type_str_endswith mt_endswith (pv 1) pe_str)) (pe_glob (v := .str QUOTEDT) (by rfl) T.m_QUOTED_SIGNS ⟨_, rfl⟩) (pe_op op_add_str pe_str (pe_glob (v := .str QUOTEDT) (by rfl) T.m_QUOTED_SIGNS ⟨_, rfl⟩))) pa_nil))))), ?_⟩
    dsimp only [gName, tSeq, tAsg]
    refine ifT (decide (c = 92 ∨ c = 34)) (fun k q1 => ⟨.ref a, rfl, a, dx, _, rfl, e, rfl, a, dx, z, Str.ofString "\\", n, rfl, e, hz, fun H2 s2 => ⟨_, rfl, ?_⟩⟩) (fun hb H1 s1 => ?_) (fun hb H1 s1 => ?_)
    · rw [hd, tl_bs, sees_esc]
      exact q1 _ s2
    · have hb := of_decide_eq_true hb
      have he : escC c = [92, c] := if_pos hb
      rw [he] at hd q
      have e1 := s1 _ _ e
      refine ⟨.ref a, rfl, a, dx, _, rfl, e1, rfl, a, dx, z, Str.ofString "\\", n, c :: r, rfl, e1, hz, by rw [hd, tl_bs]; rfl, fun H2 s2 e2 => ?_⟩
      rw [tl_bs] at e2
      have hd2 : (TL.tl z).drop (n + 1) = c :: r := adv (u := [92]) hd
      refine ⟨.ref a, rfl, a, dx, _, rfl, e2, rfl, a, dx, z, Str.ofString "\"\\", n + 1, c, r, rfl, e2, hz, hd2, ?_, fun H3 s3 e3 => q _ ((SameBut.of s1).trans (s2.trans s3)) e3⟩
      rw [tl_qb]
      rcases hb with rfl | rfl <;> simp
    · have hb := of_decide_eq_false hb
      have he : escC c = [c] := if_neg hb
      rw [he] at hd q
      have e1 := s1 _ _ e
      have hcq : c = 32 ∨ c ∈ TL.tl QUOTEDT := by
        rcases hc with h | h | h | h
        · exact .inl h
        · exact absurd (.inr h) hb
        · exact absurd (.inl h) hb
        · exact .inr h
      dsimp only [tNext, tSeq]
      refine ⟨.ref a, rfl, a, dx, _, rfl, e1, rfl, _, rfl, ⟨_, rfl⟩, p, Str.ofString " ", rfl, rfl, ?_⟩
      rw [ends_one p _ 32 tl_sp]
      by_cases hl : (TL.tl p).getLast? = some 32
      · refine ⟨_, rfl, ?_⟩
        rw [decide_eq_true hl]
        exact iteT ⟨a, dx, z, QUOTEDT, n, c, r, rfl, e1, hz, hd, hcq.resolve_left fun h => hp h hl, fun H3 s3 e3 => q _ ((SameBut.of s1).trans s3) e3⟩
      · refine ⟨_, rfl, ?_⟩
        rw [decide_eq_false hl]
        refine iteF ⟨_, _, rfl, rfl, by decide +kernel, a, dx, z, Str.ofString " " ++ QUOTEDT, n, c, r, rfl, e1, hz, hd, ?_, fun H3 s3 e3 => q _ ((SameBut.of s1).trans s3) e3⟩
        rw [TL.tl_append, tl_sp]
        rcases hcq with rfl | h
        · exact List.mem_append_left _ (List.mem_singleton.mpr rfl)
        · exact List.mem_append_right _ h
/-! ### read_quoted -/
abbrev s_read_quoted : Stmt := topS 32
abbrev N_read_quoted : List Str := ["reader", "name"]
abbrev P_read_quoted : List Str := ["reader"]
theorem sc_read_quoted : FnScope N_read_quoted ["reader"] (defScope s_read_quoted) := ⟨rfl, rfl, rfl, by decide +kernel, rfl, by decide +kernel, by decide +kernel⟩
def sp_quoted (C : Addr) : Sp := fun vs H Q _ => ∃ (a dx : Addr) (z : Str) (n : Nat) (u r : List Nat), vs = [.ref a] ∧ Rdr H C a dx z n ∧ z.length ≤ 100000 ∧ (TL.tl z).drop n = (34 :: (escL u ++ [34])) ++ r ∧ QGood u ∧ ∀ H', SameBut a H H' → Rdr H' C a dx z (n + (34 :: (escL u ++ [34])).length) → Q (.str (S' u)) H'
theorem ok_quoted {f fO fW fS : Addr} {fd fdO fdW fdS : FuncData} (F : Fun K "read_quoted" "read_quoted" s_read_quoted f fd) (T : Tx mg tk) (D_read_quoted_sign : Def P w K mg base "read_quoted_sign" 4 fO fdO P_read_quoted_sign (sp_qs C)) (M_Reader_word : DefM P w K mg base C "word" 3 fW fdW P_Reader_word (sp_word C)) (M_Reader_sees : DefM P w K mg base C "sees" 1 fS fdS P_Reader_sees (sp_sees C)) : FnOk P w K mg base CX0 5 f fd P_read_quoted (sp_quoted C) := by
  refine F.ok sc_read_quoted (fun vs H Q E h => ?_) (fun cdv A outer s H vs Q E hr h => ?_)
  · obtain ⟨a, dx, z, n, u, r, rfl, _⟩ := h
    rfl
  · have nd := sc_read_quoted.nd
    obtain ⟨a, dx, z, n, u, r, rfl, e, hz, hd, ⟨u1, u2, u3, u4⟩, q⟩ := h
    refine ⟨_, (pss_cons (ps_expr (pe_meth (pv 0) M_Reader_word.c M_Reader_word.hm M_Reader_word.ok (hr.mono (by decide)) M_Reader_word.bd .nil pass0 (pa_cons pe_str pa_nil)))
      (pss_cons (ps_set (i := 1) nd rfl (.inl rfl) (pe_def D_read_quoted_sign (hr.mono (by decide)) (pa_cons (pv 0) (pa_cons pe_str pa_nil))))
      (pss_cons (ps_while PassesOwn.never (PW.pt (pw_and (pt_cmpR op_lt (pe_callB call_len_str (by rfl) T.n_len (by decide +kernel) (pa_cons (pv 1) pa_nil)) (pe_glob (v := .int 30) (by rfl) T.m_QUOTED_MOST ⟨_, rfl⟩) (nomark _)) (pw_and1 (pt_not (pt_val (pe_meth (pv 0) M_Reader_sees.c M_Reader_sees.hm M_Reader_sees.ok (hr.mono (by decide)) M_Reader_sees.bd .nil pass0 (pa_cons pe_str pa_nil)))))))
        (pss_one (ps_aug (i := 1) nd rfl (.inl rfl) (pe_def D_read_quoted_sign (hr.mono (by decide)) (pa_cons (pv 0) (pa_cons (pv 1) pa_nil))) iop_add_str)))
      (pss_cons (ps_expr (pe_meth (pv 0) M_Reader_word.c M_Reader_word.hm M_Reader_word.ok (hr.mono (by decide)) M_Reader_word.bd .nil pass0 (pa_cons pe_str pa_nil)))
      (pss_one (ps_ret (pv 1))))))), ?_⟩
    dsimp only [gName, tSeq, tAsg]
    have hd0 : (TL.tl z).drop n = [34] ++ (escL u ++ (34 :: r)) := by rw [hd]; simp
    refine ⟨.ref a, rfl, a, dx, _, rfl, e, rfl, a, dx, z, Str.ofString "\"", n, _, rfl, e, hz, by rw [hd0, tl_qu], fun H1 s1 e1 => ?_⟩
    rw [tl_qu] at e1
    have hd1 := adv hd0
    cases u with
    | nil => simp at u1
    | cons c u =>
      have hd1' : (TL.tl z).drop (n + 1) = escC c ++ (escL u ++ (34 :: r)) := by rw [← List.append_assoc, ← escL_cons]; exact hd1
      refine ⟨.ref a, rfl, a, dx, z, Str.ofString "", n + 1, c, _, rfl, e1, hz, hd1', u3 c (List.mem_cons_self ..), (fun _ => by rw [show TL.tl (Str.ofString "") = [] by decide +kernel]; exact fun h => nomatch h), fun H2 s2 e2 => ?_⟩
      have hd2 := adv hd1'
      have s2 := s1.trans s2
      dsimp only [gName, tSeq]
      refine whileN (fun m σ H' => ∃ done rem : List Nat, m = rem.length ∧ c :: u = done ++ rem ∧ 1 ≤ done.length ∧ σ = [some (.ref a), some (.str (S' done))] ∧ SameBut a H H' ∧ ∃ at' : Nat, Rdr H' C a dx z at' ∧ (TL.tl z).drop at' = escL rem ++ (34 :: r) ∧ at' + (escL rem).length = n + 1 + (escL (c :: u)).length) u.length
        ⟨[c], u, rfl, rfl, Nat.le_refl _, rfl, s2, n + 1 + (escC c).length, e2, hd2, by rw [escL_cons, List.length_append]; omega⟩ (fun m σ H' hP => ?_)
      obtain ⟨done, rem, rfl, ehs, hd3, rfl, sm, m0, em, hdm, hlen⟩ := hP
      have hdl : done.length + rem.length ≤ 30 := by rw [ehs, List.length_append] at u2; exact u2
      have hL : (S' done).length ≤ sizeLine := by rw [len_S', sizeLine_eq]; omega
      refine ⟨decide (rem ≠ []), fun k q1 => ?_, fun hb H4 s4 => ?_, fun hb H4 s4 => ?_⟩
      · refine andT (decide (done.length < 30)) (!decide (rem = [])) (fun k' q2 => ⟨_, rfl, _, rfl, hL, _, 30, rfl, rfl, _, rfl, TellB.eq (decide_eq_decide.mpr (by rw [len_S']; omega)) q2 _ (Same.refl _)⟩) (fun _ H4 k' s4 q2 => notT _ (fun k2 q3 => ⟨.ref a, rfl, a, dx, _, rfl, s4 _ _ em, rfl, a, dx, z, Str.ofString "\"", m0, rfl, s4 _ _ em, hz, fun H5 s5 => ⟨_, rfl, ?_⟩⟩) q2) (TellB.eq ?_ q1)
        · rw [hdm, tl_qu, sees_quote]
          exact q3 _ s5
        · cases rem with
          | nil => simp
          | cons g t =>
            simp only [List.length_cons] at hdl
            rw [decide_eq_true (show done.length < 30 by omega)]
            simp
      · cases rem with
        | nil => exact absurd hb (by decide)
        | cons g t =>
          have hdm' : (TL.tl z).drop m0 = escC g ++ (escL t ++ (34 :: r)) := by rw [hdm, escL_cons, List.append_assoc]
          refine ⟨_, rfl, .ref a, rfl, _, rfl, a, dx, z, S' done, m0, g, _, rfl, s4 _ _ em, hz, hdm', u3 g (by rw [ehs]; exact List.mem_append_right _ (List.mem_cons_self ..)), fun hg => u4 done g t ehs hg, fun H5 s5 e5 => ?_⟩
          have es : S' done ++ (⟨#[g]⟩ : Str) = S' (done ++ [g]) := TL.ext_tl (by rw [TL.tl_append]; rfl)
          refine ⟨_, _, rfl, rfl, by rw [len_S', sizeLine_eq]; show _ + 1 ≤ _; omega, t.length, Nat.lt_succ_self _, done ++ [g], t, rfl, by rw [ehs, List.append_assoc]; rfl, by rw [List.length_append]; omega, ?_, sm.trans ((SameBut.of s4).trans s5), m0 + (escC g).length, e5, adv hdm', ?_⟩
          · rw [← es]
            rfl
          · rw [← hlen, escL_cons, List.length_append]
            omega
      · have hr0 : rem = [] := by
          cases rem with
          | nil => rfl
          | cons g t => exact absurd hb (by simp)
        subst hr0
        rw [List.append_nil] at ehs
        subst ehs
        have e4 := s4 _ _ em
        dsimp only [tSeq]
        refine ⟨.ref a, rfl, a, dx, _, rfl, e4, rfl, a, dx, z, Str.ofString "\"", m0, r, rfl, e4, hz, by rw [hdm, tl_qu]; rfl, fun H5 s5 e5 => ?_⟩
        rw [tl_qu] at e5
        refine ⟨_, rfl, q _ (sm.trans ((SameBut.of s4).trans s5)) ?_⟩
        have : n + (34 :: (escL (c :: u) ++ [34])).length = m0 + [34].length := by
          have : (escL []).length = 0 := rfl
          simp only [List.length_append, List.length_cons, List.length_nil] at *
          omega
        rw [this]
        exact e5
/-! ### read_name -/
abbrev s_read_name : Stmt := topS 30
abbrev N_read_name : List Str := ["reader"]
abbrev P_read_name : List Str := ["reader"]
theorem sc_read_name : FnScope N_read_name ["reader"] (defScope s_read_name) := ⟨rfl, rfl, rfl, by decide +kernel, rfl, by decide +kernel, by decide +kernel⟩
/-- what follows a name -/
def Behind (u r : List Nat) : Prop := (u = [] → ∃ r', r = 60 :: r') ∧ (u ≠ [] → EndsW r)
def sp_name (C : Addr) : Sp := fun vs H Q _ => ∃ (a dx : Addr) (z : Str) (n : Nat) (u N r : List Nat), vs = [.ref a] ∧ Rdr H C a dx z n ∧ z.length ≤ 100000 ∧ (TL.tl z).drop n = N ++ r ∧ NameT u N ∧ Behind u r ∧ ∀ H', SameBut a H H' → Rdr H' C a dx z (n + N.length) → Q (.str (S' u)) H'
theorem ok_name {f fO fW fS : Addr} {fd fdO fdW fdS : FuncData} (F : Fun K "read_name" "read_name" s_read_name f fd) (T : Tx mg tk) (D_read_quoted : Def P w K mg base "read_quoted" 5 fO fdO P_read_quoted (sp_quoted C)) (D_read_words : Def P w K mg base "read_words" 4 fW fdW P_read_words (sp_words C)) (M_Reader_sees : DefM P w K mg base C "sees" 1 fS fdS P_Reader_sees (sp_sees C)) : FnOk P w K mg base CX0 6 f fd P_read_name (sp_name C) := by
  refine F.ok sc_read_name (fun vs H Q E h => ?_) (fun cdv A outer s H vs Q E hr h => ?_)
  · obtain ⟨a, dx, z, n, u, N, r, rfl, _⟩ := h
    rfl
  · have nd := sc_read_name.nd
    obtain ⟨a, dx, z, n, u, N, r, rfl, e, hz, hd, hN, ⟨hb0, hb1⟩, q⟩ := h
    refine ⟨_, (pss_cons (ps_if (pt_val (pe_meth (pv 0) M_Reader_sees.c M_Reader_sees.hm M_Reader_sees.ok (hr.mono (by decide)) M_Reader_sees.bd .nil pass0 (pa_cons pe_str pa_nil)))
        (pss_one (ps_ret pe_str))
        pss_nil)
      (pss_one (ps_ret (pe_ifExp (pt_val (pe_meth (pv 0) M_Reader_sees.c M_Reader_sees.hm M_Reader_sees.ok (hr.mono (by decide)) M_Reader_sees.bd .nil pass0 (pa_cons pe_str pa_nil))) (pe_def D_read_quoted (hr.mono (by decide)) (pa_cons (pv 0) pa_nil)) (pe_def D_read_words (hr.mono (by decide)) (pa_cons (pv 0) pa_nil)))))), ?_⟩
    dsimp only [gName, tSeq, tAsg]
    have e0 : Str.ofString "" = S' [] := TL.ext_tl (by decide +kernel)
    rcases hN with ⟨rfl, rfl⟩ | ⟨rfl, h, hs, rfl, hh, hn, hall⟩ | ⟨hu, rfl⟩
    · obtain ⟨r', rfl⟩ := hb0 rfl
      refine ifT true (fun k q1 => ⟨.ref a, rfl, a, dx, _, rfl, e, rfl, a, dx, z, Str.ofString "<", n, rfl, e, hz, fun H2 s2 => ⟨_, rfl, ?_⟩⟩) (fun _ H1 s1 => ?_) (fun h => nomatch h)
      · rw [hd, tl_lt]
        exact q1 _ s2
      · show Q (.str (Str.ofString "")) H1
        rw [e0]
        exact q _ (SameBut.of s1) (s1 _ _ e)
    · have hne : h ++ tailT [32] hs ≠ [] := fun x => by
        have := congrArg List.length x
        rw [List.length_append] at this
        have := hh.1
        simp only [List.length_nil] at *
        omega
      have hr := hb1 hne
      have hd1 : (TL.tl z).drop n = h ++ (tailT [32] hs ++ r) := by rw [hd, List.append_assoc]
      refine ifT false (fun k q1 => ⟨.ref a, rfl, a, dx, _, rfl, e, rfl, a, dx, z, Str.ofString "<", n, rfl, e, hz, fun H2 s2 => ⟨_, rfl, ?_⟩⟩) (fun h => nomatch h) (fun _ H1 s1 => ?_)
      · rw [hd1, tl_lt, sees_word1 _ hh cno60]
        exact q1 _ s2
      · have e1 := s1 _ _ e
        dsimp only [tNext]
        refine ⟨.ref a, rfl, a, dx, _, rfl, e1, rfl, a, dx, z, Str.ofString "\"", n, rfl, e1, hz, fun H2 s2 => ⟨_, rfl, ?_⟩⟩
        rw [hd1, tl_qu, sees_word1 _ hh cno34]
        exact iteF ⟨.ref a, rfl, a, dx, z, n, h, hs, r, rfl, s2 _ _ e1, hz, hd, hh, hn, hall, hr, fun H3 s3 e3 => q _ ((SameBut.of s1).trans ((SameBut.of s2).trans s3)) e3⟩
    · refine ifT false (fun k q1 => ⟨.ref a, rfl, a, dx, _, rfl, e, rfl, a, dx, z, Str.ofString "<", n, rfl, e, hz, fun H2 s2 => ⟨_, rfl, ?_⟩⟩) (fun h => nomatch h) (fun _ H1 s1 => ?_)
      · rw [hd, tl_lt, show seesL (34 :: (escL u ++ [34]) ++ r) [60] = false from (show decide (34 ∈ [60]) = false by decide)]
        exact q1 _ s2
      · have e1 := s1 _ _ e
        dsimp only [tNext]
        refine ⟨.ref a, rfl, a, dx, _, rfl, e1, rfl, a, dx, z, Str.ofString "\"", n, rfl, e1, hz, fun H2 s2 => ⟨_, rfl, ?_⟩⟩
        rw [hd, tl_qu, show seesL (34 :: (escL u ++ [34]) ++ r) [34] = true from (show decide (34 ∈ [34]) = true by decide)]
        exact iteT ⟨.ref a, rfl, a, dx, z, n, u, r, rfl, s2 _ _ e1, hz, hd, hu, fun H3 s3 e3 => q _ ((SameBut.of s1).trans ((SameBut.of s2).trans s3)) e3⟩
/-! ### read_rest -/
abbrev s_read_rest : Stmt := topS 27
abbrev N_read_rest : List Str := ["reader", "name"]
abbrev P_read_rest : List Str := ["reader", "name"]
theorem sc_read_rest : FnScope N_read_rest ["reader", "name"] (defScope s_read_rest) := ⟨rfl, rfl, rfl, by decide +kernel, rfl, by decide +kernel, by decide +kernel⟩
def sp_rest (C : Addr) : Sp := fun vs H Q _ => ∃ (a dx : Addr) (z : Str) (n : Nat) (u ad r : List Nat), vs = [.ref a, .str (S' u)] ∧ Rdr H C a dx z n ∧ z.length ≤ 100000 ∧ (TL.tl z).drop n = (if u = [] then [] else [32]) ++ (60 :: (ad ++ 62 :: r)) ∧ GoodAddr ad ∧ ∀ H', SameBut a H H' → Rdr H' C a dx z (n + ((if u = [] then [] else [32] : List Nat).length + (ad.length + 2))) → Q (.str (S' ad)) H'
theorem ok_rest {f fW fA : Addr} {fd fdW fdA : FuncData} (F : Fun K "read_rest" "read_rest" s_read_rest f fd) (T : Tx mg tk) (M_Reader_word : DefM P w K mg base C "word" 3 fW fdW P_Reader_word (sp_word C)) (D_read_told_address : Def P w K mg base "read_told_address" 5 fA fdA P_read_told_address (sp_ta C)) : FnOk P w K mg base CX0 6 f fd P_read_rest (sp_rest C) := by
  refine F.ok sc_read_rest (fun vs H Q E h => ?_) (fun cdv A outer s H vs Q E hr h => ?_)
  · obtain ⟨a, dx, z, n, u, ad, r, rfl, _⟩ := h
    rfl
  · have nd := sc_read_rest.nd
    obtain ⟨a, dx, z, n, u, ad, r, rfl, e, hz, hd, hg, q⟩ := h
    refine ⟨_, (pss_cons (ps_if (pt_cmpR op_ne (pv 1) pe_str (nomark _))
        (pss_one (ps_expr (pe_meth (pv 0) M_Reader_word.c M_Reader_word.hm M_Reader_word.ok (hr.mono (by decide)) M_Reader_word.bd .nil pass0 (pa_cons pe_str pa_nil))))
        pss_nil)
      (pss_one (ps_ret (pe_def D_read_told_address (hr.mono (by decide)) (pa_cons (pv 0) pa_nil))))), ?_⟩
    dsimp only [gName, tSeq, tAsg]
    have e0 : TL.tl (Str.ofString "") = [] := by decide +kernel
    have hdec : (!decide (V.str (S' u) = V.str (Str.ofString ""))) = !decide (u = []) := by
      congr 1
      exact decide_eq_decide.mpr ⟨fun h => by have := congrArg TL.tl (V.str.inj h); rw [e0] at this; exact this, fun h => congrArg V.str (TL.ext_tl (by rw [e0, h]; rfl))⟩
    by_cases hu : u = []
    · rw [if_pos hu] at hd q
      refine ifT false (fun k q1 => ⟨_, rfl, rfl, _, rfl, TellB.eq (by rw [hdec, decide_eq_true hu]; rfl) q1 _ (Same.refl _)⟩) (fun h => nomatch h) (fun _ H1 s1 => ?_)
      dsimp only [tNext]
      refine ⟨.ref a, rfl, a, dx, z, n, ad, r, rfl, s1 _ _ e, hz, hd, hg, fun H2 s2 e2 => q _ ((SameBut.of s1).trans s2) ?_⟩
      rw [List.length_nil, Nat.zero_add]
      exact e2
    · rw [if_neg hu] at hd q
      refine ifT true (fun k q1 => ⟨_, rfl, rfl, _, rfl, TellB.eq (by rw [hdec, decide_eq_false hu]; rfl) q1 _ (Same.refl _)⟩) (fun _ H1 s1 => ?_) (fun h => nomatch h)
      have e1 := s1 _ _ e
      refine ⟨.ref a, rfl, a, dx, _, rfl, e1, rfl, a, dx, z, Str.ofString " ", n, _, rfl, e1, hz, by rw [hd, tl_sp], fun H2 s2 e2 => ?_⟩
      rw [tl_sp] at e2
      refine ⟨.ref a, rfl, a, dx, z, n + [32].length, ad, r, rfl, e2, hz, adv hd, hg, fun H3 s3 e3 => q _ ((SameBut.of s1).trans (s2.trans s3)) ?_⟩
      rw [← Nat.add_assoc]
      exact e3
/-! ### read_one -/
abbrev s_read_one : Stmt := topS 26
abbrev N_read_one : List Str := ["reader", "name"]
abbrev P_read_one : List Str := ["reader"]
theorem sc_read_one : FnScope N_read_one ["reader"] (defScope s_read_one) := ⟨rfl, rfl, rfl, by decide +kernel, rfl, by decide +kernel, by decide +kernel⟩
/-- someone: a name and an address, and how it may be written -/
def OneTx (o : List Nat × List Nat) (T : List Nat) : Prop := ∃ N, NameT o.1 N ∧ GoodAddr o.2 ∧ T = N ++ ((if o.1 = [] then [] else [32]) ++ (60 :: (o.2 ++ [62])))
def oneF (o : List Nat × List Nat) : List V := [.str (Str.ofString "one"), .str (S' o.1), .str (S' o.2)]
def sp_rone (C : Addr) : Sp := fun vs H Q _ => ∃ (a dx : Addr) (z : Str) (n : Nat) (o : List Nat × List Nat) (X r : List Nat), vs = [.ref a] ∧ Rdr H C a dx z n ∧ z.length ≤ 100000 ∧ (TL.tl z).drop n = X ++ r ∧ OneTx o X ∧ ∀ H' t, SameBut a H H' → Rdr H' C a dx z (n + X.length) → H' t = some (.tup (oneF o)) → Q (.ref t) H'
theorem ok_rone {f fN fR : Addr} {fd fdN fdR : FuncData} (F : Fun K "read_one" "read_one" s_read_one f fd) (T : Tx mg tk) (D_read_name : Def P w K mg base "read_name" 6 fN fdN P_read_name (sp_name C)) (D_read_rest : Def P w K mg base "read_rest" 6 fR fdR P_read_rest (sp_rest C)) : FnOk P w K mg base CX0 7 f fd P_read_one (sp_rone C) := by
  refine F.ok sc_read_one (fun vs H Q E h => ?_) (fun cdv A outer s H vs Q E hr h => ?_)
  · obtain ⟨a, dx, z, n, o, X, r, rfl, _⟩ := h
    rfl
  · have nd := sc_read_one.nd
    obtain ⟨a, dx, z, n, ⟨u, ad⟩, X, r, rfl, e, hz, hd, ⟨N, hN, hg, rfl⟩, q⟩ := h
    refine ⟨_, (pss_cons (ps_set (i := 1) nd rfl (.inl rfl) (pe_def D_read_name (hr.mono (by decide)) (pa_cons (pv 0) pa_nil)))
      (pss_one (ps_ret (pe_tup (pa_cons pe_str (pa_cons (pv 1) (pa_cons (pe_def D_read_rest (hr.mono (by decide)) (pa_cons (pv 0) (pa_cons (pv 1) pa_nil))) pa_nil))))))), ?_⟩
    dsimp only [gName, tSeq, tAsg] at hN hg hd q ⊢
    have hd0 : (TL.tl z).drop n = N ++ ((if u = [] then [] else [32]) ++ (60 :: (ad ++ 62 :: r))) := by rw [hd]; simp
    have hb : Behind u ((if u = [] then [] else [32]) ++ (60 :: (ad ++ 62 :: r))) := by
      refine ⟨fun h => ?_, fun h => ?_⟩
      · rw [if_pos h]; exact ⟨_, rfl⟩
      · rw [if_neg h]; exact .inr ⟨_, rfl⟩
    refine ⟨.ref a, rfl, a, dx, z, n, u, N, _, rfl, e, hz, hd0, hN, hb, fun H1 s1 e1 => ?_⟩
    dsimp only [gName]
    refine ⟨_, rfl, .ref a, rfl, _, rfl, a, dx, z, n + N.length, u, ad, r, rfl, e1, hz, adv hd0, hg, fun H2 s2 e2 => ?_⟩
    refine ⟨Nat.le_of_lt (small1000 (show 3 ≤ 1000 by decide)), fun t nt => ?_⟩
    have sT := same_upd (o := .tup (oneF (u, ad))) nt
    refine q _ t (s1.trans (s2.trans (SameBut.of sT))) ?_ upd_same
    have hl : n + (N ++ ((if u = [] then [] else [32]) ++ (60 :: (ad ++ [62])))).length = n + N.length + ((if u = [] then [] else [32] : List Nat).length + (ad.length + 2)) := by
      simp only [List.length_append, List.length_cons, List.length_nil]
      omega
    rw [hl]
    exact sT _ _ e2
end
end K15

namespace K15
open PySem PySem.Spec PyProof.Rows L2 LH
/-! ### some, one behind another -/
def Two {β : Type} (R : β → List Nat → Prop) : List β → List (List Nat) → Prop
  | [], [] => True
  | x :: xs, T :: Ts => R x T ∧ Two R xs Ts
  | _, _ => False
/-- values that are the things xs; by each the addresses of what of it can be changed -/
def Rs {β : Type} (ER : Hp → V → β → List Addr → Prop) (H : Hp) : List V → List β → List (List Addr) → Prop
  | [], [], [] => True
  | v :: vs, x :: xs, A :: As => ER H v x A ∧ Rs ER H vs xs As
  | _, _, _ => False
/-- told by tuples and by what stands at its own addresses -/
def Stab {β : Type} (ER : Hp → V → β → List Addr → Prop) : Prop := ∀ H H' v x A, ER H v x A → (∀ b xs, H b = some (.tup xs) → H' b = some (.tup xs)) → (∀ b ∈ A, H' b = H b) → ER H' v x A
def Live {β : Type} (ER : Hp → V → β → List Addr → Prop) : Prop := ∀ H v x A, ER H v x A → ∀ b ∈ A, ∃ ys, H b = some (.lst ys)
theorem Rs.stab {β : Type} {ER : Hp → V → β → List Addr → Prop} (st : Stab ER) {H H' : Hp} : ∀ {vs : List V} {xs : List β} {As : List (List Addr)}, Rs ER H vs xs As → (∀ b xs, H b = some (.tup xs) → H' b = some (.tup xs)) → (∀ b ∈ As.flatten, H' b = H b) → Rs ER H' vs xs As
  | [], [], [], _, _, _ => trivial
  | v :: vs, x :: xs, A :: As, h, ht, ha => ⟨st H H' v x A h.1 ht fun b hb => ha b (by rw [List.flatten_cons]; exact List.mem_append_left _ hb), Rs.stab st h.2 ht fun b hb => ha b (by rw [List.flatten_cons]; exact List.mem_append_right _ hb)⟩
  | [], [], _ :: _, h, _, _ => h.elim
  | [], _ :: _, _, h, _, _ => h.elim
  | _ :: _, [], _, h, _, _ => h.elim
  | _ :: _, _ :: _, [], h, _, _ => h.elim
theorem Rs.live {β : Type} {ER : Hp → V → β → List Addr → Prop} (lv : Live ER) {H : Hp} : ∀ {vs : List V} {xs : List β} {As : List (List Addr)}, Rs ER H vs xs As → ∀ b ∈ As.flatten, ∃ ys, H b = some (.lst ys)
  | [], [], [], _, b, hb => by cases hb
  | v :: vs, x :: xs, A :: As, h, b, hb => by
    rw [List.flatten_cons] at hb
    rcases List.mem_append.mp hb with hb | hb
    · exact lv H v x A h.1 b hb
    · exact Rs.live lv h.2 b hb
  | [], [], _ :: _, h, _, _ => h.elim
  | [], _ :: _, _, h, _, _ => h.elim
  | _ :: _, [], _, h, _, _ => h.elim
  | _ :: _, _ :: _, [], h, _, _ => h.elim
theorem Rs.app {β : Type} {ER : Hp → V → β → List Addr → Prop} {H : Hp} {v : V} {x : β} {A : List Addr} (h1 : ER H v x A) : ∀ {vs : List V} {xs : List β} {As : List (List Addr)}, Rs ER H vs xs As → Rs ER H (vs ++ [v]) (xs ++ [x]) (As ++ [A])
  | [], [], [], _ => ⟨h1, trivial⟩
  | _ :: _, _ :: _, _ :: _, h => ⟨h.1, Rs.app h1 h.2⟩
  | [], [], _ :: _, h => h.elim
  | [], _ :: _, _, h => h.elim
  | _ :: _, [], _, h => h.elim
  | _ :: _, _ :: _, [], h => h.elim
theorem Rs.len {β : Type} {ER : Hp → V → β → List Addr → Prop} {H : Hp} : ∀ {vs : List V} {xs : List β} {As : List (List Addr)}, Rs ER H vs xs As → vs.length = xs.length
  | [], [], [], _ => rfl
  | _ :: _, _ :: _, _ :: _, h => congrArg (· + 1) (Rs.len h.2)
  | [], [], _ :: _, h => h.elim
  | [], _ :: _, _, h => h.elim
  | _ :: _, [], _, h => h.elim
  | _ :: _, _ :: _, [], h => h.elim
theorem Two.len {β : Type} {R : β → List Nat → Prop} : ∀ {xs : List β} {Ts : List (List Nat)}, Two R xs Ts → xs.length = Ts.length
  | [], [], _ => rfl
  | _ :: _, _ :: _, h => congrArg (· + 1) (Two.len h.2)
  | [], _ :: _, h => h.elim
  | _ :: _, [], h => h.elim
theorem sb_none {a : Addr} {H H' : Hp} {b : Addr} {o : HO} (s : SameBut a H H') (ha : H' a = some o) (hb : H' b = none) : H b = none := by
  cases h : H b with
  | none => rfl
  | some u =>
    have : b ≠ a := fun x => by rw [x, ha] at hb; exact nomatch hb
    rw [s b u this h] at hb
    exact nomatch hb
theorem Two.nil {β : Type} {R : β → List Nat → Prop} {xs : List β} (h : Two R xs []) : xs = [] := List.length_eq_zero_iff.mp h.len
theorem Two.cons {β : Type} {R : β → List Nat → Prop} {xs : List β} {T : List Nat} {Ts : List (List Nat)} (h : Two R xs (T :: Ts)) : ∃ x r, xs = x :: r ∧ R x T ∧ Two R r Ts := by
  cases xs with
  | nil => exact h.elim
  | cons x r => exact ⟨x, r, rfl, h.1, h.2⟩
theorem tl_comma : TL.tl (Str.ofString ",") = [44] := by decide +kernel
theorem tl_cs : TL.tl (Str.ofString ", ") = [44, 32] := by decide +kernel
section
variable {P : Program} {w : World} {K : PySem.W.Frag} {mg : Str → Option Value} {base : Heap} {tk : Nat → Tok} {ca : Nat → Addr} {C : Addr}
/-! ### read_some -/
abbrev s_read_some : Stmt := topS 23
abbrev N_read_some : List Str := ["reader", "read", "most", "found"]
abbrev P_read_some : List Str := ["reader", "read", "most"]
theorem sc_read_some : FnScope N_read_some ["reader", "read", "most"] (defScope s_read_some) := ⟨rfl, rfl, rfl, by decide +kernel, rfl, by decide +kernel, by decide +kernel⟩
def sp_some (P : Program) (w : World) (K : PySem.W.Frag) (mg : Str → Option Value) (base : Heap) (C : Addr) (k : Nat) : Sp := fun vs H Q _ => ∃ (β : Type) (a dx : Addr) (z : Str) (n : Nat) (f : Addr) (most : Nat) (sp : Sp) (ER : Hp → V → β → List Addr → Prop) (ETx : β → List Nat → Prop) (xs : List β) (T0 : List Nat) (Ts : List (List Nat)) (r : List Nat),
  vs = [.ref a, .ref f, .int (most : Nat)] ∧ FnV P w K mg base k f sp ∧ Rdr H C a dx z n ∧ z.length ≤ 100000 ∧ (TL.tl z).drop n = (T0 ++ tailT [44, 32] Ts) ++ r ∧ seesL r [44] = false ∧ Ts.length + 1 ≤ most ∧ most ≤ 1000 ∧ Two ETx xs (T0 :: Ts) ∧ Stab ER ∧ Live ER ∧
  (∀ H n x T r' Q, Rdr H C a dx z n → (TL.tl z).drop n = T ++ r' → ETx x T → (∀ H' v A, SameBut a H H' → Rdr H' C a dx z (n + T.length) → (∀ b ∈ A, H b = none) → A.Nodup → ER H' v x A → Q v H') → sp [.ref a] H Q E0) ∧
  ∀ H' p us As, SameBut a H H' → Rdr H' C a dx z (n + (T0 ++ tailT [44, 32] Ts).length) → H p = none → H' p = some (.lst us) → Rs ER H' us xs As → (∀ b ∈ As.flatten, H b = none ∧ b ≠ p) → As.flatten.Nodup → Q (.ref p) H'
theorem ok_some {k : Nat} {f fW fS : Addr} {fd fdW fdS : FuncData} (F : Fun K "read_some" "read_some" s_read_some f fd) (T : Tx mg tk) (M_Reader_word : DefM P w K mg base C "word" 3 fW fdW P_Reader_word (sp_word C)) (M_Reader_sees : DefM P w K mg base C "sees" 1 fS fdS P_Reader_sees (sp_sees C)) (hk : 3 ≤ k) : FnOk P w K mg base CX0 (k + 1) f fd P_read_some (sp_some P w K mg base C k) := by
  refine F.ok sc_read_some (fun vs H Q E h => ?_) (fun cdv A outer s H vs Q E hr h => ?_)
  · obtain ⟨β, a, dx, z, n, g, most, sp, ER, ETx, xs, T0, Ts, r, rfl, _⟩ := h
    rfl
  · have nd := sc_read_some.nd
    obtain ⟨β, a, dx, z, n, g, most, sp, ER, ETx, xs, T0, Ts, r, rfl, hf, e, hz, hd, hr0, hm, hm2, htw, st, lv, rd, q⟩ := h
    refine ⟨_, (pss_cons (ps_set (i := 3) nd rfl (.inl rfl) (pe_lst (pa_cons (pe_callV (k := k) (hr.mono (by first | decide | exact Nat.le_refl _)) (pv 1) (pa_cons (pv 0) pa_nil)) pa_nil)))
      (pss_cons (ps_while PassesOwn.never (PW.pt (pw_and (pt_cmpR op_lt (pe_callB (cLen K) (by rfl) T.n_len (by decide +kernel) (pa_cons (pv 3) pa_nil)) (pv 2) (nomark _)) (pw_and1 (pt_val (pe_meth (pv 0) M_Reader_sees.c M_Reader_sees.hm M_Reader_sees.ok (hr.mono (by omega)) M_Reader_sees.bd .nil pass0 (pa_cons pe_str pa_nil))))))
        (pss_cons (ps_expr (pe_meth (pv 0) M_Reader_word.c M_Reader_word.hm M_Reader_word.ok (hr.mono (by omega)) M_Reader_word.bd .nil pass0 (pa_cons pe_str pa_nil)))
        (pss_one (ps_expr (pe_bm PySem.F.plainAttrs_list PySem.F.slot_list_append PySem.F.type_list_append mt_append (pv 3) (pa_cons (pe_callV (k := k) (hr.mono (by first | decide | exact Nat.le_refl _)) (pv 1) (pa_cons (pv 0) pa_nil)) pa_nil))))))
      (pss_one (ps_ret (pv 3))))), ?_⟩
    dsimp only [tSeq, tAsg]
    obtain ⟨x0, xs, rfl, ht0, htw⟩ := htw.cons
    rw [List.append_assoc] at hd
    have le1 : 1 ≤ sizeLine := Nat.le_of_lt (small1000 (show 1 ≤ 1000 by decide))
    refine ⟨.ref g, rfl, g, sp, rfl, hf, .ref a, rfl, rd H n x0 T0 _ _ e hd ht0 fun H1 v0 A0 s1 e1 fr0 nd0 er0 => ⟨le1, fun p np => ?_⟩⟩
    have hpa : p ≠ a := (ne_of_none (show H1 a = some _ from e1) np).symm
    have npH : H p = none := sb_none s1 e1 np
    have a0p : ∀ b ∈ A0, b ≠ p := fun b hb => by
      obtain ⟨ys, h⟩ := lv _ _ _ _ er0 b hb
      exact ne_of_none h np
    have hd1 := adv hd
    dsimp only [gName, tSeq]
    refine whileN (fun m σ H' => ∃ (us : List V) (xd xr : List β) (As : List (List Addr)) (Tr : List (List Nat)), m = Tr.length ∧ x0 :: xs = xd ++ xr ∧ Two ETx xr Tr ∧ σ = [some (.ref a), some (.ref g), some (.int (most : Nat)), some (.ref p)] ∧ SameBut a H H' ∧ H' p = some (.lst us) ∧ Rs ER H' us xd As ∧ (∀ b ∈ As.flatten, H b = none ∧ b ≠ p) ∧ As.flatten.Nodup ∧ us.length + Tr.length = Ts.length + 1 ∧ ∃ at' : Nat, Rdr H' C a dx z at' ∧ (TL.tl z).drop at' = tailT [44, 32] Tr ++ r ∧ at' + (tailT [44, 32] Tr).length = n + (T0 ++ tailT [44, 32] Ts).length) Ts.length
      ⟨[v0], [x0], xs, [A0], Ts, rfl, rfl, htw, rfl, ?_, upd_same, ⟨st _ _ _ _ _ er0 (fun b ys h => ?_) (fun b hb => upd_ne (a0p b hb)), trivial⟩, ?_, ?_, ?_, n + T0.length, ?_, hd1, ?_⟩ (fun m σ H' hP => ?_)
    · intro b o hb hh
      rw [upd_ne (fun x => by rw [x, npH] at hh; exact nomatch hh)]
      exact s1 b o hb hh
    · rw [upd_ne (ne_of_none h np)]
      exact h
    · intro b hb
      have hb : b ∈ A0 := by simpa using hb
      exact ⟨fr0 b hb, a0p b hb⟩
    · simpa using nd0
    · show 1 + Ts.length = _
      omega
    · unfold Rdr
      rw [upd_ne hpa.symm]
      exact e1
    · rw [List.length_append]; omega
    obtain ⟨us, xd, xr, As, Tr, rfl, exs, htr, rfl, sm, ep, hrs, hfr, hnd, hul, m0, em, hdm, hlen⟩ := hP
    refine ⟨decide (Tr ≠ []), fun k' q1 => ?_, fun hb H4 s4 => ?_, fun hb H4 s4 => ?_⟩
    · refine andT (decide (us.length < most)) (decide (Tr ≠ [])) (fun k2 q2 => ⟨.ref p, rfl, p, _, rfl, .inl (.inl (.inl ep)), _, rfl, _, _, rfl, rfl, _, rfl, TellB.eq (decide_eq_decide.mpr (by omega)) q2 _ (Same.refl _)⟩) (fun _ H4 k2 s4 q2 => ⟨.ref a, rfl, a, dx, _, rfl, s4 _ _ em, rfl, a, dx, z, Str.ofString ",", m0, rfl, s4 _ _ em, hz, fun H5 s5 => ⟨_, rfl, ?_⟩⟩) (TellB.eq ?_ q1)
      · rw [hdm, tl_comma, sees_tail (s := 44) (S' := [32]) Tr r hr0]
        exact q2 _ s5
      · cases Tr with
        | nil => simp
        | cons g t =>
          simp only [List.length_cons] at hul
          rw [decide_eq_true (show us.length < most by omega)]
          rfl
    · cases Tr with
      | nil => exact absurd hb (by decide)
      | cons T' t =>
        obtain ⟨x', xr, rfl, ht', htr⟩ := htr.cons
        have hdm' : (TL.tl z).drop m0 = [44, 32] ++ (T' ++ (tailT [44, 32] t ++ r)) := by rw [hdm, tailT_cons]; simp only [List.append_assoc]
        dsimp only [tSeq]
        refine ⟨.ref a, rfl, a, dx, _, rfl, s4 _ _ em, rfl, a, dx, z, Str.ofString ", ", m0, _, rfl, s4 _ _ em, hz, by rw [hdm', tl_cs], fun H5 s5 e5 => ?_⟩
        rw [tl_cs] at e5
        have hd5 := adv hdm'
        have ep5 := s5 p _ hpa (s4 _ _ ep)
        refine ⟨.ref p, rfl, .inl ⟨rfl, _, .inl (.inl ep5)⟩, .ref g, rfl, g, sp, rfl, hf, .ref a, rfl, rd H5 (m0 + 2) x' T' _ _ e5 hd5 ht' fun H6 v A s6 e6 fr ndA er => ?_⟩
        have ep6 := s6 p _ hpa ep5
        have keep : ∀ b o, b ≠ a → b ≠ p → H' b = some o → upd H6 p (.lst (us ++ [v])) b = some o := fun b o hba hbp hh => by
          rw [upd_ne hbp]
          exact s6 b o hba (s5 b o hba (s4 _ _ hh))
        have ha' : ∀ b ys, H' b = some (.tup ys) → b ≠ a := fun b ys hh x => by rw [x, show H' a = some _ from em] at hh; exact nomatch hh
        have haL : ∀ b ys, H' b = some (.lst ys) → b ≠ a := fun b ys hh x => by rw [x, show H' a = some _ from em] at hh; exact nomatch hh
        have hAp : ∀ b ∈ A, b ≠ p := fun b hb x => by have := fr b hb; rw [x, ep5] at this; exact nomatch this
        have hsb : SameBut a H H5 := sm.trans ((SameBut.of s4).trans s5)
        refine ⟨p, _, _, rfl, rfl, ep6, by rw [sizeLine_eq]; simp only [List.length_cons] at hul; omega, t.length, Nat.lt_succ_self _, us ++ [v], xd ++ [x'], xr, As ++ [A], t, rfl, by rw [exs, List.append_assoc]; rfl, htr, rfl, ?_, upd_same, Rs.app (st _ _ _ _ _ er (fun b ys hh => ?_) fun b hb => upd_ne (hAp b hb)) (Rs.stab st hrs (fun b ys hh => ?_) fun b hb => ?_), fun b hb => ?_, ?_, ?_, m0 + 2 + T'.length, ?_, adv hd5, ?_⟩
        · intro b o hba hh
          rw [upd_ne (fun x => by rw [x, npH] at hh; exact nomatch hh)]
          exact s6 b o hba (hsb b o hba hh)
        · rw [upd_ne (fun x => by rw [x, ep6] at hh; exact nomatch hh)]
          exact hh
        · exact keep b _ (ha' b ys hh) (fun x => by rw [x, ep] at hh; exact nomatch hh) hh
        · obtain ⟨ys, hh⟩ := Rs.live lv hrs b hb
          rw [hh]
          exact keep b _ (haL b ys hh) (hfr b hb).2 hh
        · rw [List.flatten_append] at hb
          rcases List.mem_append.mp hb with hb | hb
          · exact hfr b hb
          · have hb : b ∈ A := by simpa using hb
            exact ⟨sb_none hsb e5 (fr b hb), hAp b hb⟩
        · rw [List.flatten_append]
          refine List.nodup_append.mpr ⟨hnd, by simpa using ndA, fun b hb c hc hbc => ?_⟩
          have hc : c ∈ A := by simpa using hc
          obtain ⟨ys, hh⟩ := Rs.live lv hrs b hb
          have := s5 b _ (haL b ys hh) (s4 _ _ hh)
          rw [hbc, fr c hc] at this
          exact nomatch this
        · rw [List.length_append]
          simp only [List.length_cons, List.length_nil] at hul ⊢
          omega
        · unfold Rdr
          rw [upd_ne hpa.symm]
          exact e6
        · rw [← hlen, tailT_cons]
          simp only [List.length_append, List.length_cons, List.length_nil]
          omega
    · have hr0 : Tr = [] := by
        cases Tr with
        | nil => rfl
        | cons g t => exact absurd hb (by simp)
      subst hr0
      have hx := htr.nil
      subst hx
      rw [List.append_nil] at exs
      have hm0 : m0 = n + (T0 ++ tailT [44, 32] Ts).length := by
        have : (tailT [44, 32] []).length = 0 := rfl
        omega
      refine ⟨.ref p, rfl, q H4 p us As (sm.trans (SameBut.of s4)) (by rw [← hm0]; exact s4 _ _ em) npH (s4 _ _ ep) ?_ hfr hnd⟩
      rw [exs]
      exact Rs.stab st hrs (fun b ys hh => s4 _ _ hh) fun b hb => by
        obtain ⟨ys, hh⟩ := Rs.live lv hrs b hb
        rw [hh]
        exact s4 _ _ hh
end
end K15

namespace K15
open PySem PySem.Spec PyProof.Rows L2 LH
/-! ### people -/
inductive Item where
  | one (o : List Nat × List Nat)
  | grp (u : List Nat) (os : List (List Nat × List Nat))
def OneR (H : Hp) (v : V) (o : List Nat × List Nat) (A : List Addr) : Prop := A = [] ∧ ∃ t, v = .ref t ∧ H t = some (.tup (oneF o))
def OnesR (H : Hp) : List V → List (List Nat × List Nat) → Prop
  | [], [] => True
  | v :: vs, o :: os => (∃ t, v = .ref t ∧ H t = some (.tup (oneF o))) ∧ OnesR H vs os
  | _, _ => False
theorem OnesR.of {H : Hp} : ∀ {vs : List V} {os : List (List Nat × List Nat)} {As : List (List Addr)}, Rs OneR H vs os As → OnesR H vs os
  | [], [], [], _ => trivial
  | _ :: _, _ :: _, _ :: _, h => ⟨h.1.2, OnesR.of h.2⟩
  | [], [], _ :: _, h => h.elim
  | [], _ :: _, _, h => h.elim
  | _ :: _, [], _, h => h.elim
  | _ :: _, _ :: _, [], h => h.elim
theorem OnesR.stab {H H' : Hp} (ht : ∀ b xs, H b = some (.tup xs) → H' b = some (.tup xs)) : ∀ {vs : List V} {os : List (List Nat × List Nat)}, OnesR H vs os → OnesR H' vs os
  | [], [], _ => trivial
  | _ :: _, _ :: _, h => ⟨let ⟨t, e, g⟩ := h.1; ⟨t, e, ht _ _ g⟩, OnesR.stab ht h.2⟩
  | [], _ :: _, h => h.elim
  | _ :: _, [], h => h.elim
theorem OnesR.len {H : Hp} : ∀ {vs : List V} {os : List (List Nat × List Nat)}, OnesR H vs os → vs.length = os.length
  | [], [], _ => rfl
  | _ :: _, _ :: _, h => congrArg (· + 1) (OnesR.len h.2)
  | [], _ :: _, h => h.elim
  | _ :: _, [], h => h.elim
def grpF (u : List Nat) (p : Addr) : List V := [.str (Str.ofString "group"), .str (S' u), .ref p]
def ItemR (H : Hp) (v : V) (it : Item) (A : List Addr) : Prop := match it with
  | .one o => A = [] ∧ ∃ t, v = .ref t ∧ H t = some (.tup (oneF o))
  | .grp u os => ∃ t p vs, A = [p] ∧ v = .ref t ∧ H t = some (.tup (grpF u p)) ∧ H p = some (.lst vs) ∧ OnesR H vs os
def ItemTx (it : Item) (T : List Nat) : Prop := match it with
  | .one o => OneTx o T
  | .grp u os => u ≠ [] ∧ ∃ N, NameT u N ∧ ((os = [] ∧ T = N ++ [58, 32, 59]) ∨ ∃ T0 Ts, Two OneTx os (T0 :: Ts) ∧ Ts.length + 1 ≤ 10 ∧ T = N ++ ([58, 32] ++ ((T0 ++ tailT [44, 32] Ts) ++ [59])))
theorem one_stab : Stab OneR := fun H H' v x A h ht _ => ⟨h.1, let ⟨t, e, g⟩ := h.2; ⟨t, e, ht _ _ g⟩⟩
theorem one_live : Live OneR := fun H v x A h b hb => by rw [h.1] at hb; cases hb
theorem item_stab : Stab ItemR := fun H H' v x A h ht ha => by
  cases x with
  | one o => exact ⟨h.1, let ⟨t, e, g⟩ := h.2; ⟨t, e, ht _ _ g⟩⟩
  | grp u os =>
    obtain ⟨t, p, vs, rfl, rfl, h1, h2, h3⟩ := h
    exact ⟨t, p, vs, rfl, rfl, ht _ _ h1, by rw [ha p (List.mem_singleton.mpr rfl)]; exact h2, h3.stab ht⟩
theorem item_live : Live ItemR := fun H v x A h b hb => by
  cases x with
  | one o => rw [h.1] at hb; cases hb
  | grp u os =>
    obtain ⟨t, p, vs, rfl, rfl, h1, h2, h3⟩ := h
    rw [List.mem_singleton.mp hb]
    exact ⟨_, h2⟩
theorem cno59 : 59 ∉ TL.tl CALLEDT := by decide +kernel
/-- how what someone is written as begins -/
theorem onetx_head {o : List Nat × List Nat} {X : List Nat} (h : OneTx o X) (r : List Nat) : seesL (X ++ r) [59] = false := by
  obtain ⟨N, hN, _, rfl⟩ := h
  rcases hN with ⟨h1, rfl⟩ | ⟨rfl, g, hs, e, hg, _, _⟩ | ⟨_, rfl⟩
  · rw [if_pos h1]
    exact (show decide (60 ∈ [59]) = false by decide)
  · rw [e, List.append_assoc, List.append_assoc]
    exact sees_word1 _ hg cno59
  · exact (show decide (34 ∈ [59]) = false by decide)
theorem tl_semi : TL.tl (Str.ofString ";") = [59] := by decide +kernel
theorem tl_colon : TL.tl (Str.ofString ":") = [58] := by decide +kernel
theorem tl_cosp : TL.tl (Str.ofString ": ") = [58, 32] := by decide +kernel
section
variable {P : Program} {w : World} {K : PySem.W.Frag} {mg : Str → Option Value} {base : Heap} {tk : Nat → Tok} {ca : Nat → Addr} {C : Addr}
/-! ### read_ones -/
abbrev s_read_ones : Stmt := topS 25
abbrev N_read_ones : List Str := ["reader", "ones"]
abbrev P_read_ones : List Str := ["reader"]
theorem sc_read_ones : FnScope N_read_ones ["reader"] (defScope s_read_ones) := ⟨rfl, rfl, rfl, by decide +kernel, rfl, by decide +kernel, by decide +kernel⟩
def sp_ones (C : Addr) : Sp := fun vs H Q _ => ∃ (a dx : Addr) (z : Str) (n : Nat) (os : List (List Nat × List Nat)) (X r : List Nat), vs = [.ref a] ∧ Rdr H C a dx z n ∧ z.length ≤ 100000 ∧ (TL.tl z).drop n = X ++ r ∧ ((os = [] ∧ X = [58, 32, 59]) ∨ ∃ T0 Ts, Two OneTx os (T0 :: Ts) ∧ Ts.length + 1 ≤ 10 ∧ X = [58, 32] ++ ((T0 ++ tailT [44, 32] Ts) ++ [59])) ∧
  ∀ H' p us, SameBut a H H' → Rdr H' C a dx z (n + X.length) → H p = none → H' p = some (.lst us) → OnesR H' us os → Q (.ref p) H'
theorem ok_ones {f fW fS f1 f2 : Addr} {fd fdW fdS fd1 fd2 : FuncData} (F : Fun K "read_ones" "read_ones" s_read_ones f fd) (T : Tx mg tk) (M_Reader_word : DefM P w K mg base C "word" 3 fW fdW P_Reader_word (sp_word C)) (M_Reader_sees : DefM P w K mg base C "sees" 1 fS fdS P_Reader_sees (sp_sees C)) (D_read_some : Def P w K mg base "read_some" 8 f1 fd1 P_read_some (sp_some P w K mg base C 7)) (D_read_one : Def P w K mg base "read_one" 7 f2 fd2 P_read_one (sp_rone C)) : FnOk P w K mg base CX0 9 f fd P_read_ones (sp_ones C) := by
  refine F.ok sc_read_ones (fun vs H Q E h => ?_) (fun cdv A outer s H vs Q E hr h => ?_)
  · obtain ⟨a, dx, z, n, os, X, r, rfl, _⟩ := h
    rfl
  · have nd := sc_read_ones.nd
    obtain ⟨a, dx, z, n, os, X, r, rfl, e, hz, hd, hX, q⟩ := h
    refine ⟨_, (pss_cons (ps_expr (pe_meth (pv 0) M_Reader_word.c M_Reader_word.hm M_Reader_word.ok (hr.mono (by decide)) M_Reader_word.bd .nil pass0 (pa_cons pe_str pa_nil)))
      (pss_cons (ps_set (i := 1) nd rfl (.inl rfl) (pe_ifExp (pt_val (pe_meth (pv 0) M_Reader_sees.c M_Reader_sees.hm M_Reader_sees.ok (hr.mono (by decide)) M_Reader_sees.bd .nil pass0 (pa_cons pe_str pa_nil))) (pe_lst pa_nil) (pe_def D_read_some (hr.mono (by decide)) (pa_cons (pv 0) (pa_cons (pe_glob (v := .ref _) (by rfl) D_read_one.mg rfl) (pa_cons (pe_glob (v := .int 10) (by rfl) T.m_GROUP_ONES ⟨_, rfl⟩) pa_nil))))))
      (pss_cons (ps_expr (pe_meth (pv 0) M_Reader_word.c M_Reader_word.hm M_Reader_word.ok (hr.mono (by decide)) M_Reader_word.bd .nil pass0 (pa_cons pe_str pa_nil)))
      (pss_one (ps_ret (pv 1)))))), ?_⟩
    dsimp only [tSeq, tAsg]
    have fin : ∀ (H2 : Hp) (p : Addr) (us : List V) (m : Nat), SameBut a H H2 → Rdr H2 C a dx z m → (TL.tl z).drop m = 59 :: r → m + 1 = n + X.length → H p = none → p ≠ a → H2 p = some (.lst us) → OnesR H2 us os → tDrop (tMeth C (Str.ofString "word") (sp_word C) [] E0 (tVar 0) (tCons (tC (V.str (Str.ofString ";"))) tNil)) { nx := tRet (tVar 1) { nx := fun x H' => Q V.non H', rt := Q }, rt := Q } [some (.ref a), some (.ref p)] H2 := fun H2 p us m s2 e2 hdm hm np hpa ep hos => by
      refine ⟨.ref a, rfl, a, dx, _, rfl, e2, rfl, a, dx, z, Str.ofString ";", m, r, rfl, e2, hz, by rw [hdm, tl_semi]; rfl, fun H3 s3 e3 => ?_⟩
      rw [tl_semi] at e3
      refine ⟨_, rfl, q H3 p us (s2.trans s3) (by rw [← hm]; exact e3) np (s3 p _ hpa ep) (hos.stab fun b xs hh => s3 b _ (fun x => by rw [x, show H2 a = some _ from e2] at hh; exact nomatch hh) hh)⟩
    rcases hX with ⟨rfl, rfl⟩ | ⟨T0, Ts, htw, hn, rfl⟩
    · have hd0 : (TL.tl z).drop n = [58, 32] ++ (59 :: r) := hd
      refine ⟨.ref a, rfl, a, dx, _, rfl, e, rfl, a, dx, z, Str.ofString ": ", n, _, rfl, e, hz, by rw [hd0, tl_cosp], fun H1 s1 e1 => ?_⟩
      rw [tl_cosp] at e1
      have hd1 := adv hd0
      dsimp only [tSeq, tAsg]
      refine ⟨.ref a, rfl, a, dx, _, rfl, e1, rfl, a, dx, z, Str.ofString ";", n + 2, rfl, e1, hz, fun H2 s2 => ⟨_, rfl, ?_⟩⟩
      rw [show (TL.tl z).drop (n + 2) = 59 :: r from hd1, tl_semi, show seesL (59 :: r) [59] = true from (show decide (59 ∈ [59]) = true by decide)]
      refine iteT ⟨Nat.zero_le _, fun p np => ?_⟩
      have e2 := s2 _ _ e1
      have hpa : p ≠ a := (ne_of_none (show H2 a = some _ from e2) np).symm
      have s12 := s1.trans (SameBut.of s2)
      exact fin _ p [] (n + 2) (s12.trans (SameBut.of (same_upd np))) (same_upd np _ _ e2) hd1 rfl (sb_none s12 e2 np) hpa upd_same trivial
    · have hd0 : (TL.tl z).drop n = [58, 32] ++ ((T0 ++ tailT [44, 32] Ts) ++ (59 :: r)) := by rw [hd]; simp
      obtain ⟨o0, os', rfl, ho0, _⟩ := htw.cons
      refine ⟨.ref a, rfl, a, dx, _, rfl, e, rfl, a, dx, z, Str.ofString ": ", n, _, rfl, e, hz, by rw [hd0, tl_cosp], fun H1 s1 e1 => ?_⟩
      rw [tl_cosp] at e1
      have hd1 := adv hd0
      dsimp only [tSeq, tAsg]
      refine ⟨.ref a, rfl, a, dx, _, rfl, e1, rfl, a, dx, z, Str.ofString ";", n + 2, rfl, e1, hz, fun H2 s2 => ⟨_, rfl, ?_⟩⟩
      rw [show (TL.tl z).drop (n + 2) = (T0 ++ tailT [44, 32] Ts) ++ (59 :: r) from hd1, tl_semi, List.append_assoc, onetx_head ho0]
      have e2 := s2 _ _ e1
      have s12 := s1.trans (SameBut.of s2)
      refine iteF ⟨.ref a, rfl, _, a, dx, z, n + 2, f2, 10, sp_rone C, OneR, OneTx, o0 :: os', T0, Ts, 59 :: r, rfl, FnV.of D_read_one, e2, hz, hd1, (show decide (59 ∈ [44]) = false by decide), hn, by decide, htw, one_stab, one_live, fun Ha na xa Ta ra Qa ea hda hta ka => ⟨a, dx, z, na, xa, Ta, ra, rfl, ea, hz, hda, hta, fun H' t s' e' ht' => ka H' (.ref t) [] s' e' (fun _ hb => by cases hb) List.nodup_nil ⟨rfl, t, rfl, ht'⟩⟩, fun H3 p us As s3 e3 np ep hrs _ _ => ?_⟩
      have hpa : p ≠ a := fun x => by rw [x, show H2 a = some _ from e2] at np; exact nomatch np
      refine fin H3 p us (n + 2 + (T0 ++ tailT [44, 32] Ts).length) (s12.trans s3) e3 (adv hd1) ?_ (sb_none s12 e2 np) hpa ep (OnesR.of hrs)
      simp only [List.length_append, List.length_cons, List.length_nil]
      omega
/-! ### read_one_or_group -/
abbrev s_read_one_or_group : Stmt := topS 24
abbrev N_read_one_or_group : List Str := ["reader", "name"]
abbrev P_read_one_or_group : List Str := ["reader"]
theorem sc_read_one_or_group : FnScope N_read_one_or_group ["reader"] (defScope s_read_one_or_group) := ⟨rfl, rfl, rfl, by decide +kernel, rfl, by decide +kernel, by decide +kernel⟩
def sp_item (C : Addr) : Sp := fun vs H Q _ => ∃ (a dx : Addr) (z : Str) (n : Nat) (it : Item) (X r : List Nat), vs = [.ref a] ∧ Rdr H C a dx z n ∧ z.length ≤ 100000 ∧ (TL.tl z).drop n = X ++ r ∧ ItemTx it X ∧ ∀ H' v A, SameBut a H H' → Rdr H' C a dx z (n + X.length) → (∀ b ∈ A, H b = none) → A.Nodup → ItemR H' v it A → Q v H'
theorem ok_item {f fN fR fO fS : Addr} {fd fdN fdR fdO fdS : FuncData} (F : Fun K "read_one_or_group" "read_one_or_group" s_read_one_or_group f fd) (T : Tx mg tk) (D_read_name : Def P w K mg base "read_name" 6 fN fdN P_read_name (sp_name C)) (D_read_rest : Def P w K mg base "read_rest" 6 fR fdR P_read_rest (sp_rest C)) (D_read_ones : Def P w K mg base "read_ones" 9 fO fdO P_read_ones (sp_ones C)) (M_Reader_sees : DefM P w K mg base C "sees" 1 fS fdS P_Reader_sees (sp_sees C)) : FnOk P w K mg base CX0 10 f fd P_read_one_or_group (sp_item C) := by
  refine F.ok sc_read_one_or_group (fun vs H Q E h => ?_) (fun cdv A outer s H vs Q E hr h => ?_)
  · obtain ⟨a, dx, z, n, it, X, r, rfl, _⟩ := h
    rfl
  · have nd := sc_read_one_or_group.nd
    obtain ⟨a, dx, z, n, it, X, r, rfl, e, hz, hd, hX, q⟩ := h
    refine ⟨_, (pss_cons (ps_set (i := 1) nd rfl (.inl rfl) (pe_def D_read_name (hr.mono (by decide)) (pa_cons (pv 0) pa_nil)))
      (pss_cons (ps_if (PW.pt (pw_and (pt_cmpR op_ne (pv 1) pe_str (nomark _)) (pw_and1 (pt_val (pe_meth (pv 0) M_Reader_sees.c M_Reader_sees.hm M_Reader_sees.ok (hr.mono (by decide)) M_Reader_sees.bd .nil pass0 (pa_cons pe_str pa_nil))))))
        (pss_one (ps_ret (pe_tup (pa_cons pe_str (pa_cons (pv 1) (pa_cons (pe_def D_read_ones (hr.mono (by decide)) (pa_cons (pv 0) pa_nil)) pa_nil))))))
        pss_nil)
      (pss_one (ps_ret (pe_tup (pa_cons pe_str (pa_cons (pv 1) (pa_cons (pe_def D_read_rest (hr.mono (by decide)) (pa_cons (pv 0) (pa_cons (pv 1) pa_nil))) pa_nil)))))))), ?_⟩
    dsimp only [tSeq, tAsg, gName]
    have e0 : TL.tl (Str.ofString "") = [] := by decide +kernel
    have hdec : ∀ u : List Nat, (!decide (V.str (S' u) = V.str (Str.ofString ""))) = !decide (u = []) := fun u => by
      congr 1
      exact decide_eq_decide.mpr ⟨fun h => by have := congrArg TL.tl (V.str.inj h); rw [e0] at this; exact this, fun h => congrArg V.str (TL.ext_tl (by rw [e0, h]; rfl))⟩
    cases it with
    | one o =>
      obtain ⟨u, ad⟩ := o
      obtain ⟨N, hN, hg, rfl⟩ := hX
      dsimp only at hN hg hd q ⊢
      have hd0 : (TL.tl z).drop n = N ++ ((if u = [] then [] else [32]) ++ (60 :: (ad ++ 62 :: r))) := by rw [hd]; simp
      have hb : Behind u ((if u = [] then [] else [32]) ++ (60 :: (ad ++ 62 :: r))) := by
        refine ⟨fun h => ?_, fun h => ?_⟩
        · rw [if_pos h]; exact ⟨_, rfl⟩
        · rw [if_neg h]; exact .inr ⟨_, rfl⟩
      refine ⟨.ref a, rfl, a, dx, z, n, u, N, _, rfl, e, hz, hd0, hN, hb, fun H1 s1 e1 => ?_⟩
      have hd1 := adv hd0
      have hs : (!decide (u = []) && seesL ((TL.tl z).drop (n + N.length)) [58]) = false := by
        by_cases hu : u = []
        · rw [decide_eq_true hu]; rfl
        · rw [decide_eq_false hu, hd1, if_neg hu]
          exact (show decide (32 ∈ [58]) = false by decide)
      refine ifT false (fun k q1 => andT _ _ (fun k2 q2 => ⟨_, rfl, rfl, _, rfl, TellB.eq (hdec u) q2 _ (Same.refl _)⟩) (fun _ H2 k2 s2 q2 => ⟨.ref a, rfl, a, dx, _, rfl, s2 _ _ e1, rfl, a, dx, z, Str.ofString ":", n + N.length, rfl, s2 _ _ e1, hz, fun H3 s3 => ⟨_, rfl, q2 _ s3⟩⟩) (TellB.eq (by rw [tl_colon, hs]) q1)) (fun h => nomatch h) (fun _ H2 s2 => ?_)
      dsimp only [tNext]
      have e2 := s2 _ _ e1
      refine ⟨_, rfl, .ref a, rfl, _, rfl, a, dx, z, n + N.length, u, ad, r, rfl, e2, hz, hd1, hg, fun H3 s3 e3 => ?_⟩
      refine ⟨Nat.le_of_lt (small1000 (show 3 ≤ 1000 by decide)), fun t nt => ?_⟩
      have sT := same_upd (o := .tup (oneF (u, ad))) nt
      refine q _ (.ref t) [] (s1.trans ((SameBut.of s2).trans (s3.trans (SameBut.of sT)))) ?_ (fun _ hb => by cases hb) List.nodup_nil ⟨rfl, t, rfl, upd_same⟩
      have hl : n + (N ++ ((if u = [] then [] else [32]) ++ (60 :: (ad ++ [62])))).length = n + N.length + ((if u = [] then [] else [32] : List Nat).length + (ad.length + 2)) := by
        simp only [List.length_append, List.length_cons, List.length_nil]
        omega
      rw [hl]
      exact sT _ _ e3
    | grp u os =>
      obtain ⟨hu, N, hN, hX⟩ := hX
      obtain ⟨Y, rfl, hY⟩ : ∃ Y, X = N ++ Y ∧ ((os = [] ∧ Y = [58, 32, 59]) ∨ ∃ T0 Ts, Two OneTx os (T0 :: Ts) ∧ Ts.length + 1 ≤ 10 ∧ Y = [58, 32] ++ ((T0 ++ tailT [44, 32] Ts) ++ [59])) := by
        rcases hX with ⟨h1, rfl⟩ | ⟨T0, Ts, h1, h2, rfl⟩
        · exact ⟨_, rfl, .inl ⟨h1, rfl⟩⟩
        · exact ⟨_, rfl, .inr ⟨T0, Ts, h1, h2, rfl⟩⟩
      have hY1 : ∃ y, Y = 58 :: y := by
        rcases hY with ⟨_, rfl⟩ | ⟨_, _, _, _, rfl⟩
        · exact ⟨_, rfl⟩
        · exact ⟨_, rfl⟩
      obtain ⟨y, hy⟩ := hY1
      have hd0 : (TL.tl z).drop n = N ++ (Y ++ r) := by rw [hd, List.append_assoc]
      refine ⟨.ref a, rfl, a, dx, z, n, u, N, _, rfl, e, hz, hd0, hN, ⟨fun h => absurd h hu, fun _ => .inl ⟨y ++ r, by rw [hy]; rfl⟩⟩, fun H1 s1 e1 => ?_⟩
      have hd1 := adv hd0
      refine ifT true (fun k q1 => andT true true (fun k2 q2 => ⟨_, rfl, rfl, _, rfl, TellB.eq (by rw [hdec u, decide_eq_false hu]; rfl) q2 _ (Same.refl _)⟩) (fun _ H2 k2 s2 q2 => ⟨.ref a, rfl, a, dx, _, rfl, s2 _ _ e1, rfl, a, dx, z, Str.ofString ":", n + N.length, rfl, s2 _ _ e1, hz, fun H3 s3 => ⟨_, rfl, ?_⟩⟩) q1) (fun _ H2 s2 => ?_) (fun h => nomatch h)
      · rw [hd1, hy, tl_colon]
        exact q2 _ s3
      have e2 := s2 _ _ e1
      refine ⟨_, rfl, .ref a, rfl, a, dx, z, n + N.length, os, Y, r, rfl, e2, hz, hd1, hY, fun H3 p us s3 e3 np ep hos => ?_⟩
      refine ⟨Nat.le_of_lt (small1000 (show 3 ≤ 1000 by decide)), fun t nt => ?_⟩
      have sT := same_upd (o := .tup (grpF u p)) nt
      have s12 := s1.trans (SameBut.of s2)
      refine q _ (.ref t) [p] (s12.trans (s3.trans (SameBut.of sT))) (by rw [List.length_append, ← Nat.add_assoc]; exact sT _ _ e3) (fun b hb => by rw [List.mem_singleton.mp hb]; exact sb_none s12 e2 np) (List.nodup_cons.mpr ⟨by simp, List.nodup_nil⟩) ⟨t, p, us, rfl, rfl, upd_same, sT _ _ ep, hos.stab fun b xs hh => sT _ _ hh⟩
/-! ### read_people -/
abbrev s_read_people : Stmt := topS 22
abbrev N_read_people : List Str := ["reader", "people"]
abbrev P_read_people : List Str := ["reader"]
theorem sc_read_people : FnScope N_read_people ["reader"] (defScope s_read_people) := ⟨rfl, rfl, rfl, by decide +kernel, rfl, by decide +kernel, by decide +kernel⟩
def sp_rpeople (C : Addr) : Sp := fun vs H Q _ => ∃ (a dx : Addr) (z : Str) (xs : List Item) (T0 : List Nat) (Ts : List (List Nat)), vs = [.ref a] ∧ Rdr H C a dx z 0 ∧ z.length ≤ 100000 ∧ TL.tl z = T0 ++ tailT [44, 32] Ts ∧ Two ItemTx xs (T0 :: Ts) ∧ Ts.length + 1 ≤ 20 ∧
  ∀ H' p us As, SameBut a H H' → H p = none → H' p = some (.lst us) → Rs ItemR H' us xs As → (∀ b ∈ As.flatten, H b = none ∧ b ≠ p) → As.flatten.Nodup → Q (.ref p) H'
theorem ok_rpeople {f f1 f2 f3 : Addr} {fd fd1 fd2 fd3 : FuncData} (F : Fun K "read_people" "read_people" s_read_people f fd) (T : Tx mg tk) (M_Reader_end : DefM P w K mg base C "end" 1 f3 fd3 P_Reader_end (sp_end C)) (D_read_some : Def P w K mg base "read_some" 11 f1 fd1 P_read_some (sp_some P w K mg base C 10)) (D_read_one_or_group : Def P w K mg base "read_one_or_group" 10 f2 fd2 P_read_one_or_group (sp_item C)) : FnOk P w K mg base CX0 12 f fd P_read_people (sp_rpeople C) := by
  refine F.ok sc_read_people (fun vs H Q E h => ?_) (fun cdv A outer s H vs Q E hr h => ?_)
  · obtain ⟨a, dx, z, xs, T0, Ts, rfl, _⟩ := h
    rfl
  · have nd := sc_read_people.nd
    obtain ⟨a, dx, z, xs, T0, Ts, rfl, e, hz, hd, htw, hn, q⟩ := h
    refine ⟨_, (pss_cons (ps_set (i := 1) nd rfl (.inl rfl) (pe_def D_read_some (hr.mono (by decide)) (pa_cons (pv 0) (pa_cons (pe_glob (v := .ref _) (by rfl) D_read_one_or_group.mg rfl) (pa_cons (pe_glob (v := .int 20) (by rfl) T.m_MOST_PEOPLE ⟨_, rfl⟩) pa_nil)))))
      (pss_cons (ps_expr (pe_meth0 (pv 0) M_Reader_end.c M_Reader_end.hm M_Reader_end.ok (hr.mono (by decide)) M_Reader_end.bd .nil pass0))
      (pss_one (ps_ret (pv 1))))), ?_⟩
    dsimp only [tSeq, tAsg, gName]
    refine ⟨.ref a, rfl, _, a, dx, z, 0, f2, 20, sp_item C, ItemR, ItemTx, xs, T0, Ts, [], rfl, FnV.of D_read_one_or_group, e, hz, by rw [List.drop_zero, List.append_nil]; exact hd, rfl, hn, by decide, htw, item_stab, item_live, fun Ha na xa Ta ra Qa ea hda hta ka => ⟨a, dx, z, na, xa, Ta, ra, rfl, ea, hz, hda, hta, ka⟩, fun H3 p us As s3 e3 np ep hrs hfr hnd => ?_⟩
    have hl : z.length = (T0 ++ tailT [44, 32] Ts).length := by rw [TL.len_tl, hd]
    refine ⟨.ref a, rfl, a, dx, _, rfl, e3, rfl, a, dx, z, _, rfl, e3, hz, by omega, fun H4 s4 => ⟨_, rfl, ?_⟩⟩
    refine q H4 p us As (s3.trans (SameBut.of s4)) np (s4 _ _ ep) (Rs.stab item_stab hrs (fun b ys hh => s4 _ _ hh) fun b hb => ?_) hfr hnd
    obtain ⟨ys, hh⟩ := Rs.live item_live hrs b hb
    rw [hh]
    exact s4 _ _ hh
/-! ### people_of -/
abbrev s_people_of : Stmt := topS 21
abbrev N_people_of : List Str := ["text", "stop"]
abbrev P_people_of : List Str := ["text"]
theorem sc_people_of : FnScope N_people_of ["text"] (defScope s_people_of) := ⟨rfl, rfl, rfl, by decide +kernel, rfl, by decide +kernel, by decide +kernel⟩
def sp_people : Sp := fun vs H Q _ => ∃ (z : Str) (xs : List Item) (T0 : List Nat) (Ts : List (List Nat)), vs = [.str z] ∧ z.length ≤ 100000 ∧ TL.tl z = T0 ++ tailT [44, 32] Ts ∧ Two ItemTx xs (T0 :: Ts) ∧ Ts.length + 1 ≤ 20 ∧
  ∀ H' p us As, Same H H' → H p = none → H' p = some (.lst us) → Rs ItemR H' us xs As → (∀ b ∈ As.flatten, H b = none ∧ b ≠ p) → As.flatten.Nodup → Q (.ref p) H'
theorem ok_people {fT fI f : Addr} {fdT fdI fd : FuncData} (F : Fun K "people_of" "people_of" s_people_of f fd) (T : Tx mg tk) (D_read_people : Def P w K mg base "read_people" 12 fT fdT P_read_people (sp_rpeople C)) (C_Reader : DefC P w K mg base "Reader" C 1 fI fdI P_Reader___init__ (sp_init C)) : FnOk P w K mg base CX0 13 f fd P_people_of sp_people := by
  refine F.ok sc_people_of (fun vs H Q E h => ?_) (fun cdv A outer s H vs Q E hr h => ?_)
  · obtain ⟨z, xs, T0, Ts, rfl, _⟩ := h
    rfl
  · have nd := sc_people_of.nd
    obtain ⟨z, xs, T0, Ts, rfl, hz, hd, htw, hn, q⟩ := h
    refine ⟨_, (pss_cons (ps_if (pt_not (pt_val (pe_callB (cIsi K) (by rfl) T.n_isinstance (by decide +kernel) (pa_cons (pv 0) (pa_cons (pe_bltn (v := .ty "str") (by rfl) T.n_str (by decide +kernel) rfl) pa_nil)))))
        (pss_one ps_never)
        pss_nil)
      (pss_one (ps_try_never (fun _ _ h => h) (pss_one (ps_ret (pe_def D_read_people (hr.mono (by decide)) (pa_cons (pe_make C_Reader.make C_Reader.ok (hr.mono (by decide)) (by rfl) C_Reader.mg C_Reader.bd .nil pass0 (pa_cons (pv 0) pa_nil)) pa_nil)))) pss_nil))), ?_⟩
    dsimp only [tSeq]
    refine ifT false (fun k q1 => notT true (fun k q2 => ⟨_, rfl, .str _, .ty "str", _, _, true, rfl, .ty _, .base (.str _), kit_ty (by decide +kernel), true, rfl, q2 _ (Same.refl _)⟩) q1) (fun h => nomatch h) (fun _ H1 s1 => ?_)
    refine ⟨_, rfl, fun x dx hx hdx hne => ⟨x, dx, _, rfl, upd_same, fun H2 s2 e2 => ⟨rfl, x, dx, z, xs, T0, Ts, rfl, e2, hz, hd, htw, hn, fun H3 p us As s3 hp ep hrs hfr hnd => ?_⟩⟩⟩
    have sm : ∀ H', SameBut x (upd (upd H1 dx (.own x)) x (.ins C dx [])) H' → Same H H' := fun H' s b o hb => by
      have hb1 := s1 _ _ hb
      have hbx : b ≠ x := ne_of_none hb1 hx
      refine s b o hbx ?_
      rw [upd_ne hbx, upd_ne (ne_of_none hb1 hdx)]
      exact hb1
    have fr : ∀ b, H2 b = none → H b = none := fun b hb => by
      cases h : H b with
      | none => rfl
      | some u => rw [sm _ s2 _ _ h] at hb; exact nomatch hb
    exact q H3 p us As (sm _ (s2.trans s3)) (fr p hp) ep hrs (fun b hb => ⟨fr b (hfr b hb).1, (hfr b hb).2⟩) hnd
end
end K15

namespace K15
open PySem PySem.Spec PyProof.Rows L2 LH
/-! ### what the law draws -/
def SIGNSL : Str := Str.ofString " !\"#$&'()*+,-./0123456789:;<=>?@ABCDEFGHIJKLMNOPQRSTUVWXYZ[\\]^_`abcdefghijklmnopqrstuvwxyz{|}~"
def SMALLT : Str := Str.ofString "abcdefghijklmnopqrstuvwxyz"
def CALLEDL : Str := Str.ofString "abcdefghijklmnopqrstuvwxyz" ++ Str.ofString "ABCDEFGHIJKLMNOPQRSTUVWXYZ0123456789"
theorem pick_list {α : Type} (f : α → V) (Pa : α → Prop) : ∀ vs : List V, (∀ j, j < vs.length → ∃ x, Pa x ∧ vs.getD j .non = f x) → ∃ u : List α, u.length = vs.length ∧ (∀ x ∈ u, Pa x) ∧ vs = u.map f
  | [], _ => ⟨[], rfl, (fun _ h => by cases h), rfl⟩
  | v :: vs, h => by
    obtain ⟨x, hx, e⟩ := h 0 (Nat.zero_lt_succ _)
    obtain ⟨u, hl, hu, ev⟩ := pick_list f Pa vs fun j hj => h (j + 1) (Nat.succ_lt_succ hj)
    have e : v = f x := e
    refine ⟨x :: u, congrArg (· + 1) hl, fun y hy => ?_, by rw [List.map_cons, ← ev, e]⟩
    rcases List.mem_cons.mp hy with rfl | hy
    · exact hx
    · exact hu y hy
theorem tl_em : TL.tl (Str.ofString "") = [] := by decide +kernel
theorem joinL_em : ∀ us : List (List Nat), TL.joinL [] us = us.flatten
  | [] => rfl
  | u :: us => by
    rw [joinL_tail, List.flatten_cons]
    unfold tailT
    simp
theorem join_one (u : List Nat) : TL.tl (Txt.join (Str.ofString "") (u.map fun x => (⟨#[x]⟩ : Str))) = u := by
  rw [TL.join_eq, TL.tl_join, tl_em, joinL_em, List.map_map]
  induction u with
  | nil => rfl
  | cons x r ih => rw [List.map_cons, List.flatten_cons, ih]; rfl
theorem sum_one (u : List Nat) : ((u.map fun x => (⟨#[x]⟩ : Str)).map (·.length)).sum = u.length := by
  induction u with
  | nil => rfl
  | cons x r ih => rw [List.map_cons, List.map_cons, List.sum_cons, ih, List.length_cons]; show 1 + _ = _; omega
section
variable {P : Program} {w : World} {K : PySem.W.Frag} {mg : Str → Option Value} {base : Heap} {tk : Nat → Tok} {ca : Nat → Addr} {C : Addr}
/-! ### _law_mixed -/
abbrev s__law_mixed : Stmt := topS 42
abbrev N__law_mixed : List Str := ["_law_cell", "_law_k", "_law_number"]
abbrev P__law_mixed : List Str := ["_law_cell", "_law_k"]
theorem sc__law_mixed : FnScope N__law_mixed ["_law_cell", "_law_k"] (defScope s__law_mixed) := ⟨rfl, rfl, rfl, by decide +kernel, rfl, by decide +kernel, by decide +kernel⟩
def sp_mixed : Sp := fun vs H Q _ => ∃ (c k : Int), vs = [.int c, .int k] ∧ 0 ≤ k ∧ k < 1000 ∧ ∀ m : Nat, m < 1000003 → Tell H (.int (m : Nat)) Q
theorem ok_mixed {f : Addr} {fd : FuncData} {k : Nat} (F : Fun K "_law_mixed" "_law_mixed" s__law_mixed f fd) : FnOk P w K mg base CX0 (k + 1) f fd P__law_mixed sp_mixed := by
  refine F.ok sc__law_mixed (fun vs H Q E h => ?_) (fun cdv A outer s H vs Q E hr h => ?_)
  · obtain ⟨c, j, rfl, _⟩ := h
    rfl
  · have nd := sc__law_mixed.nd
    obtain ⟨c, j, rfl, h0, h1, q⟩ := h
    refine ⟨_, (pss_cons (ps_set (i := 2) nd rfl (.inl rfl) (pe_op op_mod (pe_op op_add (pe_op op_add (pe_op op_mod (pv 0) pe_int) (pe_op op_mul pe_int (pv 1))) pe_int) pe_int))
      (pss_one (ps_ret (pe_op op_mod (pe_op op_mul (pe_op op_mod (pe_op op_mul (pv 2) (pv 2)) pe_int) (pv 2)) pe_int)))), ?_⟩
    dsimp only [tSeq, tAsg]
    refine ⟨.int c, rfl, c, 1000000007, rfl, rfl, (show (0 : Int) < 1000000007 by decide), .int j, rfl, 7919, j, rfl, rfl, .inl ⟨by decide, by decide⟩, _, _, rfl, rfl, _, 11, rfl, rfl, _, _, rfl, rfl, (show (0 : Int) < 1000003 by decide), ?_⟩
    dsimp only [gName]
    have hm0 : 0 ≤ (c % 1000000007 + 7919 * j + 11) % 1000003 := Int.emod_nonneg _ (by decide)
    have hm1 : (c % 1000000007 + 7919 * j + 11) % 1000003 < 1000003 := Int.emod_lt_of_pos _ (by decide)
    generalize (c % 1000000007 + 7919 * j + 11) % 1000003 = m at *
    refine ⟨_, rfl, _, rfl, m, m, rfl, rfl, .inl ⟨by omega, by omega⟩, _, 1000003, rfl, rfl, (show (0 : Int) < 1000003 by decide), _, rfl, _, _, rfl, rfl, .inr ⟨by omega, by omega⟩, _, 1000003, rfl, rfl, (show (0 : Int) < 1000003 by decide), ?_⟩
    have := q ((m * m % 1000003 * m % 1000003).toNat) (by omega) _ (Same.refl _)
    rw [show (((m * m % 1000003 * m % 1000003).toNat : Nat) : Int) = m * m % 1000003 * m % 1000003 from Int.toNat_of_nonneg (Int.emod_nonneg _ (by decide))] at this
    exact this
/-! ### _law_signs -/
abbrev s__law_signs : Stmt := topS 43
abbrev N__law_signs : List Str := []
abbrev P__law_signs : List Str := []
theorem sc__law_signs : FnScope N__law_signs [] (defScope s__law_signs) := ⟨rfl, rfl, rfl, by decide +kernel, rfl, by decide +kernel, by decide +kernel⟩
def sp_signs : Sp := fun vs H Q _ => vs = [] ∧ Q (.str SIGNSL) H
theorem ok_signs {f : Addr} {fd : FuncData} {k : Nat} (F : Fun K "_law_signs" "_law_signs" s__law_signs f fd) : FnOk P w K mg base CX0 (k + 1) f fd P__law_signs sp_signs := by
  refine F.ok sc__law_signs (fun vs H Q E h => ?_) (fun cdv A outer s H vs Q E hr h => ?_)
  · obtain ⟨rfl, _⟩ := h
    rfl
  · have nd := sc__law_signs.nd
    obtain ⟨rfl, q⟩ := h
    exact ⟨_, (pss_one (ps_ret pe_str)), q⟩
/-! ### _law_small -/
abbrev s__law_small : Stmt := topS 44
abbrev N__law_small : List Str := []
abbrev P__law_small : List Str := []
theorem sc__law_small : FnScope N__law_small [] (defScope s__law_small) := ⟨rfl, rfl, rfl, by decide +kernel, rfl, by decide +kernel, by decide +kernel⟩
def sp_small : Sp := fun vs H Q _ => vs = [] ∧ Q (.str SMALLT) H
theorem ok_small {f : Addr} {fd : FuncData} {k : Nat} (F : Fun K "_law_small" "_law_small" s__law_small f fd) : FnOk P w K mg base CX0 (k + 1) f fd P__law_small sp_small := by
  refine F.ok sc__law_small (fun vs H Q E h => ?_) (fun cdv A outer s H vs Q E hr h => ?_)
  · obtain ⟨rfl, _⟩ := h
    rfl
  · have nd := sc__law_small.nd
    obtain ⟨rfl, q⟩ := h
    exact ⟨_, (pss_one (ps_ret pe_str)), q⟩
/-! ### _law_called -/
abbrev s__law_called : Stmt := topS 45
abbrev N__law_called : List Str := []
abbrev P__law_called : List Str := []
theorem sc__law_called : FnScope N__law_called [] (defScope s__law_called) := ⟨rfl, rfl, rfl, by decide +kernel, rfl, by decide +kernel, by decide +kernel⟩
def sp_called : Sp := fun vs H Q _ => vs = [] ∧ Q (.str CALLEDL) H
theorem ok_called {f f1 : Addr} {fd fd1 : FuncData} (F : Fun K "_law_called" "_law_called" s__law_called f fd) (D__law_small : Def P w K mg base "_law_small" 1 f1 fd1 P__law_small sp_small) : FnOk P w K mg base CX0 2 f fd P__law_called sp_called := by
  refine F.ok sc__law_called (fun vs H Q E h => ?_) (fun cdv A outer s H vs Q E hr h => ?_)
  · obtain ⟨rfl, _⟩ := h
    rfl
  · have nd := sc__law_called.nd
    obtain ⟨rfl, q⟩ := h
    refine ⟨_, (pss_one (ps_ret (pe_op op_add_str (pe_def0 D__law_small (hr.mono (by decide))) pe_str))), ?_⟩
    exact ⟨rfl, _, _, rfl, rfl, by decide +kernel, q⟩
/-! ### _law_text -/
abbrev s__law_text : Stmt := topS 46
abbrev N__law_text : List Str := ["_law_cell", "_law_k", "_law_signs_here", "_law_size_here", "_law_j"]
abbrev P__law_text : List Str := ["_law_cell", "_law_k", "_law_signs_here", "_law_size_here"]
theorem sc__law_text : FnScope N__law_text ["_law_cell", "_law_k", "_law_signs_here", "_law_size_here"] (defScope s__law_text) := ⟨rfl, rfl, rfl, by decide +kernel, rfl, by decide +kernel, by decide +kernel⟩
def sp_text : Sp := fun vs H Q _ => ∃ (c k : Int) (sg : Str) (n : Nat), vs = [.int c, .int k, .str sg, .int (n : Nat)] ∧ 0 ≤ k ∧ k + n < 1000 ∧ 1 ≤ sg.length ∧ sg.length ≤ 1000 ∧ ∀ u : List Nat, u.length = n → (∀ x ∈ u, x ∈ TL.tl sg) → Tell H (.str (S' u)) Q
theorem ok_text {f f1 : Addr} {fd fd1 : FuncData} (F : Fun K "_law_text" "_law_text" s__law_text f fd) (T : Tx mg tk) (D__law_mixed : Def P w K mg base "_law_mixed" 1 f1 fd1 P__law_mixed sp_mixed) : FnOk P w K mg base CX0 2 f fd P__law_text sp_text := by
  refine F.ok sc__law_text (fun vs H Q E h => ?_) (fun cdv A outer s H vs Q E hr h => ?_)
  · obtain ⟨c, k, sg, n, rfl, _⟩ := h
    rfl
  · have nd := sc__law_text.nd
    obtain ⟨c, k, sg, n, rfl, h0, h1, h2, h3, q⟩ := h
    refine ⟨_, (pss_one (ps_ret (pe_join pe_str (pe_lc (own := [("_law_j", 4)]) (g := gName 4) (by rfl) nd (pi_range1 (by rfl) T.n_range (pa_cons (pv 3) pa_nil)) (blkOk_by (N := N__law_text) (sc := defScope s__law_text) (by decide +kernel)) (fun _ _ _ _ _ => (pg_name (i := 4) nd rfl (Or.inl rfl))) (fun _ _ _ _ _ => pts_nil) (fun _ _ _ _ _ => (pe_ix ix_str (pv 2) (pe_op op_mod (pe_op op_fdiv (pe_def D__law_mixed (hr.mono (by decide)) (pa_cons (pv 0) (pa_cons (pe_op op_add (pv 1) (pv 4)) pa_nil))) pe_int) (pe_callB call_len_str (by rfl) T.n_len (by decide +kernel) (pa_cons (pv 2) pa_nil))) (fun _ _ => rfl))))))), ?_⟩
    have hsl : sg.length = (TL.tl sg).length := TL.len_tl sg
    refine ⟨⟨_, rfl⟩, .int (n : Nat), rfl, (n : Nat), rfl, by omega, by omega, fun D hD => lc_dem (fun j => .int (0 + (j : Int))) (fun _ v => ∃ x, x ∈ TL.tl sg ∧ v = .str ⟨#[x]⟩) walk_range (fun _ _ => trivial) hD (by rw [sizeLine_eq]; omega) (fun j H4 Q4 hj s4 q4 => ?_) (fun H4 vs s4 hl hv e4 => ?_)⟩
    · have hj : j < n := by simpa using hj
      refine ⟨_, rfl, _, rfl, _, rfl, _, rfl, k, _, rfl, rfl, c, k + (0 + (j : Int)), rfl, by omega, by omega, fun m hm H5 s5 => ?_⟩
      refine ⟨_, 7, rfl, rfl, ⟨by decide, by decide⟩, _, rfl, _, rfl, by rw [sizeLine_eq]; omega, _, _, rfl, rfl, (show (0 : Int) < ((sg.length : Nat) : Int) by omega), ?_⟩
      have g0 : 0 ≤ (m : Int) / 7 % ((sg.length : Nat) : Int) := Int.emod_nonneg _ (by omega)
      have g1 : (m : Int) / 7 % ((sg.length : Nat) : Int) < ((sg.length : Nat) : Int) := Int.emod_lt_of_pos _ (by omega)
      obtain ⟨x, hx, ex⟩ := pickL (TL.tl sg) _ g0 (by omega)
      exact ⟨sg, _, x, rfl, rfl, by rw [sizeLine_eq]; omega, ex, q4 _ _ s5 ⟨x, hx, rfl⟩⟩
    · have hl : vs.length = n := by simpa using hl
      obtain ⟨u, hu, hus, rfl⟩ := pick_list (fun x => V.str ⟨#[x]⟩) (fun x => x ∈ TL.tl sg) vs fun j hj => hv j (by simpa using (show j < n by omega))
      have hul : u.length = n := by omega
      have e4 : H4 D = some (.lst ((u.map fun x => (⟨#[x]⟩ : Str)).map V.str)) := by rw [e4, List.map_map]; rfl
      have h00 : (Str.ofString "").length = 0 := by decide +kernel
      refine ⟨Str.ofString "", D, _, rfl, rfl, .inl (.inl (.inl e4)), by rw [sum_one, h00]; omega, ?_⟩
      rw [show Txt.join (Str.ofString "") (u.map fun x => (⟨#[x]⟩ : Str)) = S' u from TL.ext_tl (join_one u)]
      exact q u hul hus _ s4
/-! ### _law_size -/
abbrev s__law_size : Stmt := topS 47
abbrev N__law_size : List Str := ["_law_number", "_law_most"]
abbrev P__law_size : List Str := ["_law_number", "_law_most"]
theorem sc__law_size : FnScope N__law_size ["_law_number", "_law_most"] (defScope s__law_size) := ⟨rfl, rfl, rfl, by decide +kernel, rfl, by decide +kernel, by decide +kernel⟩
def sp_size : Sp := fun vs H Q _ => ∃ (n m : Nat), vs = [.int (n : Nat), .int (m : Nat)] ∧ 2 ≤ m ∧ m ≤ 1000 ∧ ∀ s : Nat, 1 ≤ s → s ≤ m → Tell H (.int (s : Nat)) Q
theorem ok_size {f : Addr} {fd : FuncData} {k : Nat} (F : Fun K "_law_size" "_law_size" s__law_size f fd) : FnOk P w K mg base CX0 (k + 1) f fd P__law_size sp_size := by
  refine F.ok sc__law_size (fun vs H Q E h => ?_) (fun cdv A outer s H vs Q E hr h => ?_)
  · obtain ⟨n, m, rfl, _⟩ := h
    rfl
  · have nd := sc__law_size.nd
    obtain ⟨n, m, rfl, h2, h3, q⟩ := h
    refine ⟨_, (pss_one (ps_ret (pe_ix (ixL K) (pe_lst (pa_cons pe_int (pa_cons (pv 1) (pa_cons (pe_op op_add pe_int (pe_op op_mod (pe_op op_fdiv (pv 0) pe_int) (pv 1))) (pa_cons pe_int pa_nil))))) (pe_op op_mod (pv 0) pe_int) (fun _ _ => rfl)))), ?_⟩
    refine ⟨_, rfl, _, rfl, _, 4, rfl, rfl, ⟨by decide, by decide⟩, _, rfl, _, _, rfl, rfl, (show (0 : Int) < ((m : Nat) : Int) by omega), 1, _, rfl, rfl, Nat.le_of_lt (small1000 (show 4 ≤ 1000 by decide)), fun p np => ?_⟩
    dsimp only
    have g0 : 0 ≤ (n : Int) / 4 % ((m : Nat) : Int) := Int.emod_nonneg _ (by omega)
    have g1 : (n : Int) / 4 % ((m : Nat) : Int) < ((m : Nat) : Int) := Int.emod_lt_of_pos _ (by omega)
    generalize (n : Int) / 4 % ((m : Nat) : Int) = d at *
    obtain ⟨v, hv, ev⟩ := pickL [V.int 1, .int (m : Nat), .int (1 + d), .int 2] ((n : Int) % 4) (by omega) (by show _ < (4 : Int); omega)
    obtain ⟨s', rfl, hs1, hs2⟩ : ∃ s' : Nat, v = .int (s' : Int) ∧ 1 ≤ s' ∧ s' ≤ m := by
      simp only [List.mem_cons, List.mem_nil_iff, or_false] at hv
      rcases hv with rfl | rfl | rfl | rfl
      · exact ⟨1, rfl, by decide, by omega⟩
      · exact ⟨m, rfl, by omega, Nat.le_refl _⟩
      · exact ⟨(1 + d).toNat, by rw [Int.toNat_of_nonneg (by omega)], by omega, by omega⟩
      · exact ⟨2, rfl, by decide, h2⟩
    exact ⟨_, rfl, _, 4, rfl, rfl, (show (0 : Int) < 4 by decide), p, _, _, _, rfl, rfl, .inl (.inl upd_same), ev, q s' hs1 hs2 _ (same_upd np)⟩
/-! ### _law_address -/
abbrev s__law_address : Stmt := topS 48
abbrev N__law_address : List Str := ["_law_cell", "_law_number", "_law_local", "_law_houses", "_law_j", "_law_more"]
abbrev P__law_address : List Str := ["_law_cell"]
theorem sc__law_address : FnScope N__law_address ["_law_cell"] (defScope s__law_address) := ⟨rfl, rfl, rfl, by decide +kernel, rfl, by decide +kernel, by decide +kernel⟩
theorem loc_in : ∀ x ∈ TL.tl (SMALLT ++ Str.ofString "0123456789-_"), x ∈ TL.tl LOCALT := by decide +kernel
theorem hou_in : ∀ x ∈ TL.tl (SMALLT ++ Str.ofString "0123456789"), x ∈ TL.tl HOUSET := by decide +kernel
def sp_laddr : Sp := fun vs H Q _ => ∃ c : Int, vs = [.int c] ∧ ∀ ad, GoodAddr ad → Tell H (.str (S' ad)) Q
theorem ok_laddr {f f1 f2 f3 f4 : Addr} {fd fd1 fd2 fd3 fd4 : FuncData} (F : Fun K "_law_address" "_law_address" s__law_address f fd) (T : Tx mg tk) (D__law_mixed : Def P w K mg base "_law_mixed" 1 f1 fd1 P__law_mixed sp_mixed) (D__law_text : Def P w K mg base "_law_text" 2 f2 fd2 P__law_text sp_text) (D__law_small : Def P w K mg base "_law_small" 1 f3 fd3 P__law_small sp_small) (D__law_size : Def P w K mg base "_law_size" 1 f4 fd4 P__law_size sp_size) : FnOk P w K mg base CX0 3 f fd P__law_address sp_laddr := by
  refine F.ok sc__law_address (fun vs H Q E h => ?_) (fun cdv A outer s H vs Q E hr h => ?_)
  · obtain ⟨c, rfl, _⟩ := h
    rfl
  · have nd := sc__law_address.nd
    obtain ⟨c, rfl, q⟩ := h
    refine ⟨_, (pss_cons (ps_set (i := 1) nd rfl (.inl rfl) (pe_def D__law_mixed (hr.mono (by decide)) (pa_cons (pv 0) (pa_cons pe_int pa_nil))))
      (pss_cons (ps_set (i := 2) nd rfl (.inl rfl) (pe_def D__law_text (hr.mono (by decide)) (pa_cons (pv 0) (pa_cons pe_int (pa_cons (pe_op op_add_str (pe_def0 D__law_small (hr.mono (by decide))) pe_str) (pa_cons (pe_def D__law_size (hr.mono (by decide)) (pa_cons (pv 1) (pa_cons pe_int pa_nil))) pa_nil))))))
      (pss_cons (ps_set (i := 3) nd rfl (.inl rfl) (pe_lst pa_nil))
      (pss_cons (ps_for PassesOwn.never rfl (pi_range1 (by rfl) T.n_range (pa_cons (pe_op op_add pe_int (pe_op op_mod (pe_op op_fdiv (pv 1) pe_int) pe_int)) pa_nil)) (pg_name (i := 4) nd rfl (Or.inl rfl))
        (pss_cons (ps_set (i := 5) nd rfl (.inl rfl) (pe_def D__law_mixed (hr.mono (by decide)) (pa_cons (pv 0) (pa_cons (pe_op op_add pe_int (pv 4)) pa_nil))))
        (pss_one (ps_expr (pe_bm PySem.F.plainAttrs_list PySem.F.slot_list_append PySem.F.type_list_append mt_append (pv 3) (pa_cons (pe_def D__law_text (hr.mono (by decide)) (pa_cons (pv 0) (pa_cons (pe_op op_add pe_int (pe_op op_mul pe_int (pv 4))) (pa_cons (pe_op op_add_str (pe_def0 D__law_small (hr.mono (by decide))) pe_str) (pa_cons (pe_def D__law_size (hr.mono (by decide)) (pa_cons (pv 5) (pa_cons pe_int pa_nil))) pa_nil))))) pa_nil))))))
      (pss_one (ps_ret (pe_op op_add_str (pe_op op_add_str (pv 2) pe_str) (pe_join pe_str (pv 3))))))))), ?_⟩
    dsimp only [tSeq, tAsg]
    refine ⟨_, rfl, c, 1, rfl, by decide, by decide, fun m hm H1 s1 => ?_⟩
    dsimp only [gName, tSeq, tAsg]
    refine ⟨_, rfl, rfl, _, _, rfl, rfl, by decide +kernel, _, rfl, m, 20, rfl, by decide, by decide, fun s0 s01 s02 H2 s2 => ?_⟩
    refine ⟨c, 10, _, s0, rfl, by decide, by omega, by decide +kernel, by decide +kernel, fun lo hlo hlos H3 s3 => ?_⟩
    dsimp only [gName, tSeq, tAsg]
    refine ⟨Nat.zero_le _, fun p np => ?_⟩
    have hm80 : ∃ j : Nat, 1 + (m : Int) / 80 % 3 = (j : Int) ∧ 1 ≤ j ∧ j ≤ 3 := ⟨(1 + (m : Int) / 80 % 3).toNat, by omega, by omega, by omega⟩
    obtain ⟨j, hj, hj1, hj3⟩ := hm80
    have sH := s1.trans (s2.trans s3)
    have npH : H p = none := sH.free np
    dsimp only [gName, tSeq, tAsg]
    refine ⟨_, rfl, _, 80, rfl, rfl, ⟨by decide, by decide⟩, _, 3, rfl, rfl, (show (0 : Int) < 3 by decide), 1, _, rfl, rfl, (j : Int), congrArg (fun x => [V.int x]) hj, by omega, by omega, for_it walk_range (fun i σ H' => ∃ (hs : List (List Nat)) (y4 y5 : Option V), σ = [some (.int c), some (.int (m : Nat)), some (.str (S' lo)), some (.ref p), y4, y5] ∧ Same H H' ∧ H' p = some (.lst ((sL hs).map V.str)) ∧ hs.length = i ∧ ∀ x ∈ hs, RunL (TL.tl HOUSET) 10 x)
      ⟨[], none, none, rfl, sH.trans (same_upd np), upd_same, rfl, fun _ h => by cases h⟩ (fun _ _ _ _ _ => trivial) (fun i x σ H' H'' hi hP hy => ?_) (fun σ H' hP => ?_)⟩
    · obtain ⟨hs, y4, y5, rfl, sm, ep, hsl, hall⟩ := hP
      obtain ⟨rfl, rfl⟩ := hy
      have hi : i < j := by simpa using hi
      dsimp only [gName, tSeq, tAsg]
      refine ⟨_, rfl, _, rfl, 2, _, rfl, rfl, c, 2 + (0 + (i : Int)), rfl, by omega, by omega, fun m2 hm2 H4 s4 => ?_⟩
      dsimp only [gName, tSeq, tAsg]
      refine ⟨.ref p, rfl, .inl ⟨rfl, _, .inl (.inl (s4 _ _ ep))⟩, _, rfl, _, rfl, 11, _, rfl, rfl, .inl ⟨by decide, by decide⟩, 40, _, rfl, rfl, rfl, _, _, rfl, rfl, by decide +kernel, _, rfl, m2, 10, rfl, by decide, by decide, fun s5 s51 s52 H5 s5' => ?_⟩
      refine ⟨c, 40 + 11 * (0 + (i : Int)), _, s5, rfl, by omega, by omega, by decide +kernel, by decide +kernel, fun h hh hhs H6 s6 => ?_⟩
      have s46 := s4.trans (s5'.trans s6)
      refine ⟨p, _, _, rfl, rfl, s46 _ _ ep, by rw [List.length_map, sL_len, sizeLine_eq]; omega, hs ++ [h], _, _, rfl, ?_, by rw [upd_same, sL_app], by rw [List.length_append, hsl]; rfl, fun x hx => ?_⟩
      · intro b o hb
        rw [upd_ne (ne_of_none hb npH)]
        exact s46 _ _ (sm _ _ hb)
      · rcases List.mem_append.mp hx with hx | hx
        · exact hall x hx
        · rw [List.mem_singleton.mp hx]
          exact ⟨by omega, by omega, fun y hy => hou_in y (hhs y hy)⟩
    · obtain ⟨hs, y4, y5, rfl, sm, ep, hsl, hall⟩ := hP
      have hsl : hs.length = j := by simpa using hsl
      obtain ⟨h, t, rfl⟩ : ∃ h t, hs = h :: t := by
        cases hs with
        | nil => simp at hsl; omega
        | cons h t => exact ⟨h, t, rfl⟩
      have hat1 : (Str.ofString "@").length = 1 := by decide +kernel
      have hdt1 : (Str.ofString ".").length = 1 := by decide +kernel
      have hjl := join_len_le (sep := Str.ofString ".") (ws := sL (h :: t)) (k := 10) (n := 3) (fun x hx => by
        obtain ⟨u, hu, rfl⟩ := List.mem_map.mp hx
        rw [len_S']
        exact (hall u hu).2.1) (by rw [sL_len]; omega)
      have hjt : TL.tl (Txt.join (Str.ofString ".") (sL (h :: t))) = h ++ tailT [46] t := by rw [TL.join_eq, TL.tl_join, sL_tls, tl_dot, joinL_tail]
      rw [hdt1] at hjl
      have hjn : (Txt.join (Str.ofString ".") (sL (h :: t))).length ≤ 33 := by
        rw [TL.len_tl, hjt, ← joinL_tail]
        have := joinL_len [46] (h :: t)
        have e1 : [46].length = 1 := rfl
        rw [e1] at this
        have e2 : (sL (h :: t)).map (·.length) = (h :: t).map List.length := by
          unfold sL
          rw [List.map_map]
          exact List.map_congr_left fun u _ => len_S' u
        rw [e2, sL_len] at hjl
        omega
      refine ⟨_, rfl, _, _, rfl, rfl, by rw [len_S', hat1, sizeLine_eq]; omega, ⟨_, rfl⟩, .ref p, rfl, Str.ofString ".", p, _, rfl, rfl, .inl (.inl (.inl ep)), by rw [hdt1]; omega, _, _, rfl, rfl, by rw [len_app, len_S', hat1, sizeLine_eq]; omega, ?_⟩
      have er : S' lo ++ Str.ofString "@" ++ Txt.join (Str.ofString ".") (sL (h :: t)) = S' (lo ++ 64 :: (h ++ tailT [46] t)) := TL.ext_tl (by rw [TL.tl_append, TL.tl_append, hjt, tl_at, tl_S', tl_S', List.append_assoc]; rfl)
      show Q (.str (S' lo ++ Str.ofString "@" ++ Txt.join (Str.ofString ".") (sL (h :: t)))) H'
      rw [er]
      simp only [List.length_cons] at hsl
      exact q _ ⟨lo, h, t, rfl, ⟨by omega, by omega, fun x hx => loc_in x (hlos x hx)⟩, hall h (List.mem_cons_self ..), by omega, fun x hx => hall x (List.mem_cons_of_mem _ hx)⟩ _ sm
end
end K15

namespace K15
open PySem PySem.Spec PyProof.Rows L2 LH
theorem join_split (s : Nat) : ∀ l : List Nat, TL.joinL [s] (splitL s l) = l
  | [] => rfl
  | c :: r => by
    have ih := join_split s r
    have hne := splitL_ne s r
    unfold splitL
    split
    · rename_i h
      obtain ⟨x, y, e⟩ := List.exists_cons_of_ne_nil hne
      rw [e] at ih ⊢
      rw [TL.joinL, ih, h]
      rfl
    · obtain ⟨x, y, e⟩ := List.exists_cons_of_ne_nil hne
      rw [e] at ih ⊢
      show TL.joinL [s] ((c :: x) :: y) = c :: r
      cases y with
      | nil =>
        show c :: x = c :: r
        rw [← ih]; rfl
      | cons z t =>
        rw [TL.joinL] at ih ⊢
        rw [← ih]; rfl
theorem split_free (s : Nat) : ∀ l : List Nat, ∀ p ∈ splitL s l, s ∉ p
  | [], p, hp => by simp [splitL] at hp; simp [hp]
  | c :: r, p, hp => by
    unfold splitL at hp
    split at hp
    · rcases List.mem_cons.mp hp with rfl | hp
      · simp
      · exact split_free s r p hp
    · rename_i hc
      rcases List.mem_cons.mp hp with rfl | hp
      · intro h
        rcases List.mem_cons.mp h with h | h
        · exact hc h.symm
        · refine split_free s r _ ?_ h
          rw [splitL_eta s r]
          exact List.mem_cons_self
      · refine split_free s r p ?_
        rw [splitL_eta s r]
        exact List.mem_cons_of_mem _ hp
theorem getDn (l : List Nat) {i : Nat} (h : i < l.length) : l.getD i 0 ∈ l := by
  rw [List.getD_eq_getElem?_getD, List.getElem?_eq_getElem h]
  exact List.getElem_mem h
def IsWords (u : List Nat) : Prop := ∃ h hs, u = h ++ tailT [32] hs ∧ RunL (TL.tl CALLEDT) 12 h ∧ hs.length ≤ 3 ∧ ∀ x ∈ hs, RunL (TL.tl CALLEDT) 12 x
def GoodName (u : List Nat) : Prop := IsWords u ∨ QGood u
theorem cal_in : ∀ x ∈ TL.tl CALLEDL, x ∈ TL.tl CALLEDT := by decide +kernel
theorem cal_on : ∀ x ∈ TL.tl CALLEDT, x ∈ TL.tl CALLEDL := by decide +kernel
theorem cal_qc : ∀ x ∈ TL.tl CALLEDT, x ∈ TL.tl QUOTEDT := by decide +kernel
theorem qc_signs : ∀ x ∈ TL.tl SIGNSL, QC x := by unfold QC; decide +kernel
theorem qc_b : ∀ x ∈ TL.tl (Str.ofString "ab \"\\"), QC x := by unfold QC; decide +kernel
theorem qc_c : ∀ x ∈ TL.tl (Str.ofString "ab c"), QC x := by unfold QC; decide +kernel
theorem run_ok {u : List Nat} (h : RunL (TL.tl CALLEDT) 12 u) : 32 ∉ u := fun h32 => cno32 (h.2.2 32 h32)
theorem words_split {h : List Nat} {hs : List (List Nat)} (hh : RunL (TL.tl CALLEDT) 12 h) (hall : ∀ x ∈ hs, RunL (TL.tl CALLEDT) 12 x) : splitL 32 (h ++ tailT [32] hs) = h :: hs := by
  rw [← joinL_tail]
  refine splitL_join 32 (h :: hs) (by simp) fun p hp => ?_
  rcases List.mem_cons.mp hp with rfl | hp
  · exact run_ok hh
  · exact run_ok (hall p hp)
theorem words_ne {u : List Nat} (h : IsWords u) : u ≠ [] := by
  obtain ⟨h, hs, rfl, hh, _⟩ := h
  intro e
  have := congrArg List.length e
  rw [List.length_append] at this
  have := hh.1
  simp only [List.length_nil] at *
  omega
theorem nodbl_of {u : List Nat} (h : dbl 32 u = false) : NoDbl u := by
  intro p c s e hc hl
  subst hc
  have : dbl 32 u = true := by
    rw [dbl_iff]
    obtain ⟨q, rfl⟩ : ∃ q, p = q ++ [32] := by
      rcases List.eq_nil_or_concat p with hp | ⟨q, d, hp⟩
      · rw [hp] at hl; exact nomatch hl
      · rw [List.concat_eq_append] at hp
        rw [hp, List.getLast?_append] at hl
        simp at hl
        exact ⟨q, by rw [hp, hl]⟩
    refine ⟨q.length, ?_, ?_⟩
    · rw [e, List.append_assoc]
      simp
    · rw [e, List.append_assoc, List.getElem?_append_right (by omega)]
      simp
  rw [this] at h
  exact nomatch h
theorem words_qgood {u : List Nat} (h : IsWords u) (hl : u.length ≤ 30) : QGood u := by
  have hne := words_ne h
  obtain ⟨h, hs, rfl, hh, hn, hall⟩ := h
  have hsp := words_split hh hall
  refine ⟨List.length_pos_iff.mpr hne, hl, fun c hc => ?_, nodbl_of ?_⟩
  · rw [← join_split 32 (h ++ tailT [32] hs), hsp] at hc
    rcases joinL_mem [32] _ c hc with h32 | ⟨w, hw, hcw⟩
    · exact .inl (List.mem_singleton.mp h32)
    · refine .inr (.inr (.inr (cal_qc c ?_)))
      rcases List.mem_cons.mp hw with rfl | hw
      · exact hh.2.2 c hcw
      · exact (hall w hw).2.2 c hcw
  · have hb := blanks_iff 32 (h ++ tailT [32] hs) hne
    rw [hsp, decide_eq_false (show [] ∉ h :: hs from fun hm => by
      rcases List.mem_cons.mp hm with e | hm
      · rw [← e] at hh; exact absurd hh.1 (by decide)
      · exact absurd (hall [] hm).1 (by decide))] at hb
    simp only [Bool.or_eq_false_iff] at hb
    exact hb.2.2
/-- what the law asks of a name of words -/
def isWB (u : List Nat) : Bool := decide ((splitL 32 u).length ≤ 4) && ((u.all fun c => decide (c = 32) || decide (c ∈ TL.tl CALLEDL)) && (splitL 32 u).all fun x => decide (1 ≤ x.length) && decide (x.length ≤ 12))
theorem isWB_iff (u : List Nat) : isWB u = true ↔ IsWords u := by
  unfold isWB
  simp only [Bool.and_eq_true, decide_eq_true_eq, List.all_eq_true, Bool.or_eq_true]
  constructor
  · rintro ⟨h1, h2, h3⟩
    have hr : ∀ x ∈ splitL 32 u, RunL (TL.tl CALLEDT) 12 x := fun x hx => ⟨(h3 x hx).1, (h3 x hx).2, fun c hc => by
      rcases h2 c (splitL_mem 32 u x hx c hc) with rfl | h
      · exact absurd hc (split_free 32 u x hx)
      · exact cal_in c h⟩
    obtain ⟨h, hs, e⟩ := List.exists_cons_of_ne_nil (splitL_ne 32 u)
    have hj := join_split 32 u
    rw [e] at hj hr h1
    rw [joinL_tail] at hj
    exact ⟨h, hs, hj.symm, hr h (List.mem_cons_self ..), by simpa using h1, fun x hx => hr x (List.mem_cons_of_mem _ hx)⟩
  · rintro ⟨h, hs, rfl, hh, hn, hall⟩
    have hr : ∀ x ∈ h :: hs, RunL (TL.tl CALLEDT) 12 x := fun x hx => by
      rcases List.mem_cons.mp hx with rfl | hx
      · exact hh
      · exact hall x hx
    have hsp := words_split hh hall
    rw [hsp]
    refine ⟨by simpa using hn, fun c hc => ?_, fun x hx => ⟨(hr x hx).1, (hr x hx).2.1⟩⟩
    rw [← joinL_tail] at hc
    rcases joinL_mem [32] _ c hc with h32 | ⟨w, hw, hcw⟩
    · exact .inl (List.mem_singleton.mp h32)
    · exact .inr (cal_on c ((hr w hw).2.2 c hcw))
section
variable {P : Program} {w : World} {K : PySem.W.Frag} {mg : Str → Option Value} {base : Heap} {tk : Nat → Tok} {ca : Nat → Addr} {C : Addr}
/-! ### _law_named -/
abbrev s__law_named : Stmt := topS 49
abbrev N__law_named : List Str := ["_law_cell", "_law_number", "_law_signs_here", "_law_found", "_law_sizes", "_law_j", "_law_size_here"]
abbrev P__law_named : List Str := ["_law_cell"]
theorem sc__law_named : FnScope N__law_named ["_law_cell"] (defScope s__law_named) := ⟨rfl, rfl, rfl, by decide +kernel, rfl, by decide +kernel, by decide +kernel⟩
def sp_named : Sp := fun vs H Q _ => ∃ c : Int, vs = [.int c] ∧ ∀ u, GoodName u → Tell H (.str (S' u)) Q
theorem ok_named {f f1 f2 f3 f4 f5 : Addr} {fd fd1 fd2 fd3 fd4 fd5 : FuncData} (F : Fun K "_law_named" "_law_named" s__law_named f fd) (T : Tx mg tk) (D__law_mixed : Def P w K mg base "_law_mixed" 1 f1 fd1 P__law_mixed sp_mixed) (D__law_text : Def P w K mg base "_law_text" 2 f2 fd2 P__law_text sp_text) (D__law_called : Def P w K mg base "_law_called" 2 f3 fd3 P__law_called sp_called) (D__law_size : Def P w K mg base "_law_size" 1 f4 fd4 P__law_size sp_size) (D__law_signs : Def P w K mg base "_law_signs" 1 f5 fd5 P__law_signs sp_signs) : FnOk P w K mg base CX0 3 f fd P__law_named sp_named := by
  refine F.ok sc__law_named (fun vs H Q E h => ?_) (fun cdv A outer s H vs Q E hr h => ?_)
  · obtain ⟨c, rfl, _⟩ := h
    rfl
  · have nd := sc__law_named.nd
    obtain ⟨c, rfl, q⟩ := h
    refine ⟨_, (pss_cons (ps_set (i := 1) nd rfl (.inr rfl) (pe_def D__law_mixed (hr.mono (by decide)) (pa_cons (pv 0) (pa_cons pe_int pa_nil))))
      (pss_cons (ps_if (pt_cmpR op_eq (pe_op op_mod (pv 1) pe_int) pe_int (nomark _))
        (pss_cons (ps_setLc (i := 4) (own := [("_law_j", 5)]) (g := gName 5) (by rfl) nd rfl rfl (sw_true rfl rfl rfl (by decide +kernel)) (pi_range1 (by rfl) T.n_range (pa_cons (pe_op op_add pe_int (pe_op op_mod (pe_op op_fdiv (pv 1) pe_int) pe_int)) pa_nil)) (blkOk_by (N := N__law_named) (sc := defScope s__law_named) (by decide +kernel)) (fun _ _ _ _ _ => (pg_name (i := 5) nd rfl (Or.inl rfl))) (fun _ _ _ _ _ => pts_nil) (fun _ _ _ _ _ => (pe_def D__law_size (hr.mono (by decide)) (pa_cons (pe_op op_add (pe_op op_fdiv (pv 1) pe_int) (pv 5)) (pa_cons pe_int pa_nil)))))
        (pss_one (ps_ret (pe_join pe_str (pe_lc (own := [("_law_j", 5), ("_law_size_here", 6)]) (g := gTup K 2 (gCons (gName 5) (gCons (gName 6) gNil))) (by rfl) nd (pi_enum (by rfl) T.n_enumerate (pa_cons (pv 4) pa_nil)) (blkOk_by (N := N__law_named) (sc := defScope s__law_named) (by decide +kernel)) (fun _ _ _ _ _ => by exact (pg_tup rfl (pgs_cons (pg_name (i := 5) nd rfl (Or.inl rfl)) (pgs_cons (pg_name (i := 6) nd rfl (Or.inl rfl)) pgs_nil)))) (fun _ _ _ _ _ => pts_nil) (fun _ _ _ _ _ => (pe_def D__law_text (hr.mono (by decide)) (pa_cons (pv 0) (pa_cons (pe_op op_add pe_int (pe_op op_mul pe_int (pv 5))) (pa_cons (pe_def0 D__law_called (hr.mono (by decide))) (pa_cons (pv 6) pa_nil)))))))))))
        pss_nil)
      (pss_cons (ps_if (pt_cmpR op_eq (pe_op op_mod (pv 1) pe_int) pe_int (nomark _))
        (pss_one (ps_ret (pe_def D__law_text (hr.mono (by decide)) (pa_cons (pv 0) (pa_cons pe_int (pa_cons (pe_def0 D__law_called (hr.mono (by decide))) (pa_cons (pe_def D__law_size (hr.mono (by decide)) (pa_cons (pe_op op_fdiv (pv 1) pe_int) (pa_cons pe_int pa_nil))) pa_nil)))))))
        pss_nil)
      (pss_cons (ps_set (i := 2) nd rfl (.inl rfl) (pe_ix (ixL K) (pe_lst (pa_cons (pe_def0 D__law_signs (hr.mono (by decide))) (pa_cons pe_str (pa_cons pe_str pa_nil)))) (pe_op op_mod (pe_op op_fdiv (pv 1) pe_int) pe_int) (fun _ _ => rfl)))
      (pss_cons (ps_set (i := 3) nd rfl (.inl rfl) (pe_def D__law_text (hr.mono (by decide)) (pa_cons (pv 0) (pa_cons pe_int (pa_cons (pv 2) (pa_cons (pe_def D__law_size (hr.mono (by decide)) (pa_cons (pe_op op_fdiv (pv 1) pe_int) (pa_cons pe_int pa_nil))) pa_nil))))))
      (pss_cons (ps_whileT PassesOwn.never (ptt_inStr op_in_str (pv 3) (by rfl)) (CwR.psst_one (pst_set (i := 3) nd rfl (.inl rfl) (CwR.pet_replC (pv 3)))))
      (pss_one (ps_ret (pv 3))))))))), ?_⟩
    dsimp only [tSeq, tAsg]
    refine ⟨_, rfl, c, 6, rfl, by decide, by decide, fun m hm H1 s1 => ?_⟩
    dsimp only [gName, tSeq, tAsg]
    have cl1 : CALLEDL.length = 62 := by decide +kernel
    refine ifT (decide ((m : Int) % 3 = 0)) (fun k q1 => ⟨_, rfl, _, 3, rfl, rfl, (show (0 : Int) < 3 by decide), rfl, _, rfl, TellB.eq (vint_dec _ _) q1 _ (Same.refl _)⟩) (fun _ H2 s2 => ?_) (fun _ H2 s2 => ?_)
    · dsimp only [tSeq, tAsg]
      obtain ⟨j, hj, hj1, hj4⟩ : ∃ j : Nat, 1 + (m : Int) / 3 % 4 = (j : Int) ∧ 1 ≤ j ∧ j ≤ 4 := ⟨(1 + (m : Int) / 3 % 4).toNat, by omega, by omega, by omega⟩
      refine ⟨_, rfl, _, 3, rfl, rfl, ⟨by decide, by decide⟩, _, 4, rfl, rfl, (show (0 : Int) < 4 by decide), 1, _, rfl, rfl, (j : Int), congrArg (fun x => [V.int x]) hj, by omega, by omega, fun D hD => lc_dem (fun j => .int (0 + (j : Int))) (fun _ v => ∃ x : Nat, (1 ≤ x ∧ x ≤ 12) ∧ v = .int (x : Nat)) walk_range (fun _ _ => trivial) hD (by rw [sizeLine_eq]; omega) (fun i H4 Q4 hi s4 q4 => ?_) (fun H4 vs s4 hl hv e4 => ?_)⟩
      · refine ⟨_, rfl, _, 12, rfl, rfl, ⟨by decide, by decide⟩, _, rfl, _, _, rfl, rfl, m / 12 + i, 12, congrArg (fun x => [V.int x, V.int 12]) (by omega), by decide, by decide, fun x x1 x2 H5 s5 => q4 _ _ s5 ⟨x, ⟨x1, x2⟩, rfl⟩⟩
      have hl : vs.length = j := by simpa using hl
      obtain ⟨ns, hnl, hns, rfl⟩ := pick_list (fun x : Nat => V.int (x : Nat)) (fun x => 1 ≤ x ∧ x ≤ 12) vs fun i hi => hv i (by simpa using (show i < j by omega))
      rw [hl] at hnl
      dsimp only [gName, tSeq, tAsg]
      have hml : (ns.map fun x : Nat => V.int (x : Nat)).length = j := by rw [List.length_map, hnl]
      refine ⟨⟨_, rfl⟩, .ref D, rfl, D, _, rfl, .inl (.inl e4), fun D2 hD2 => lc_enumD (ns.map fun x : Nat => V.int (x : Nat)) (fun _ v => ∃ u, RunL (TL.tl CALLEDT) 12 u ∧ v = .str (S' u)) (by decide) (.inl (.inl e4)) hD2 (by rw [hml, sizeLine_eq]; omega) (fun i H5 Q5 hi s5 q5 => ?_) (fun H5 vs s5 hl2 hv2 e5 => ?_)⟩
      · rw [hml] at hi
        have hx : (ns.map fun x : Nat => V.int (x : Nat)).getD i .non = .int ((ns.getD i 0 : Nat) : Int) := by
          rw [List.getD_eq_getElem?_getD, List.getElem?_map, List.getElem?_eq_getElem (by omega), List.getD_eq_getElem?_getD, List.getElem?_eq_getElem (by omega)]
          rfl
        have hx2 := hns _ (getDn ns (show i < ns.length by omega))
        rw [hx]
        generalize ns.getD i 0 = n at *
        exact ⟨_, rfl, _, rfl, 13, _, rfl, rfl, .inl ⟨by decide, by decide⟩, 90, _, rfl, rfl, rfl, _, rfl, c, 90 + 13 * (i : Int), CALLEDL, n, rfl, by omega, by omega, by omega, by omega, fun u hu hus H6 s6 => q5 _ _ s6 ⟨u, ⟨by omega, by omega, fun x hx => cal_in x (hus x hx)⟩, rfl⟩⟩
      · rw [hml] at hl2
        obtain ⟨us, hul, hus, rfl⟩ := pick_list (fun u => V.str (S' u)) (fun u => RunL (TL.tl CALLEDT) 12 u) vs fun i hi => hv2 i (by rw [hml]; omega)
        rw [hl2] at hul
        have e5 : H5 D2 = some (.lst ((sL us).map V.str)) := by
          rw [e5]
          unfold sL
          rw [List.map_map]
          rfl
        obtain ⟨h, hs, rfl⟩ : ∃ h hs, us = h :: hs := by
          cases us with
          | nil => simp at hul; omega
          | cons h hs => exact ⟨h, hs, rfl⟩
        have hsp1 : (Str.ofString " ").length = 1 := by decide +kernel
        have hjl := join_len_le (sep := Str.ofString " ") (ws := sL (h :: hs)) (k := 12) (n := 4) (fun x hx => by
          obtain ⟨u, hu, rfl⟩ := List.mem_map.mp hx
          rw [len_S']
          exact (hus u hu).2.1) (by rw [sL_len]; omega)
        rw [hsp1] at hjl
        have hjt : TL.tl (Txt.join (Str.ofString " ") (sL (h :: hs))) = h ++ tailT [32] hs := by rw [TL.join_eq, TL.tl_join, sL_tls, tl_sp, joinL_tail]
        refine ⟨Str.ofString " ", D2, _, rfl, rfl, .inl (.inl (.inl e5)), by rw [hsp1]; omega, ?_⟩
        rw [show Txt.join (Str.ofString " ") (sL (h :: hs)) = S' (h ++ tailT [32] hs) from TL.ext_tl hjt]
        simp only [List.length_cons] at hul
        exact q _ (.inl ⟨h, hs, rfl, hus h (List.mem_cons_self ..), by omega, fun x hx => hus x (List.mem_cons_of_mem _ hx)⟩) _ (s1.trans (s2.trans (s4.trans s5)))
    · dsimp only [tNext, tSeq, tAsg]
      refine ifT (decide ((m : Int) % 3 = 1)) (fun k q1 => ⟨_, rfl, _, 3, rfl, rfl, (show (0 : Int) < 3 by decide), rfl, _, rfl, TellB.eq (vint_dec _ _) q1 _ (Same.refl _)⟩) (fun _ H3 s3 => ?_) (fun _ H3 s3 => ?_)
      · refine ⟨_, rfl, rfl, _, rfl, _, 12, rfl, rfl, ⟨by decide, by decide⟩, m / 12, 12, congrArg (fun x => [V.int x, V.int 12]) (by omega), by decide, by decide, fun x x1 x2 H5 s5 => ?_⟩
        refine ⟨c, 90, CALLEDL, x, rfl, by decide, by omega, by omega, by omega, fun u hu hus H6 s6 => ?_⟩
        exact q u (.inl ⟨u, [], by show u = u ++ []; rw [List.append_nil], ⟨by omega, by omega, fun y hy => cal_in y (hus y hy)⟩, Nat.zero_le _, fun _ h => by cases h⟩) _ (s1.trans (s2.trans (s3.trans (s5.trans s6))))
      · dsimp only [tNext, tSeq, tAsg]
        refine ⟨rfl, Nat.le_of_lt (small1000 (show 3 ≤ 1000 by decide)), fun p np => ?_⟩
        obtain ⟨v, hv, ev⟩ := pickL [V.str SIGNSL, .str (Str.ofString "ab \"\\"), .str (Str.ofString "ab c")] ((m : Int) / 3 % 3) (by omega) (by show _ < (3 : Int); omega)
        obtain ⟨sg, rfl, hsg, hl1, hl2⟩ : ∃ sg : Str, v = .str sg ∧ (∀ x ∈ TL.tl sg, QC x) ∧ 1 ≤ sg.length ∧ sg.length ≤ 1000 := by
          simp only [List.mem_cons, List.mem_nil_iff, or_false] at hv
          rcases hv with rfl | rfl | rfl
          · exact ⟨_, rfl, qc_signs, by decide +kernel, by decide +kernel⟩
          · exact ⟨_, rfl, qc_b, by decide +kernel, by decide +kernel⟩
          · exact ⟨_, rfl, qc_c, by decide +kernel, by decide +kernel⟩
        refine ⟨_, rfl, _, 3, rfl, rfl, ⟨by decide, by decide⟩, _, 3, rfl, rfl, (show (0 : Int) < 3 by decide), p, _, _, .str sg, rfl, rfl, .inl (.inl upd_same), ev, ?_⟩
        dsimp only [gName, tSeq, tAsg]
        refine ⟨_, rfl, _, rfl, _, rfl, _, 9, rfl, rfl, ⟨by decide, by decide⟩, m / 9, 30, congrArg (fun x => [V.int x, V.int 30]) (by omega), by decide, by decide, fun x x1 x2 H5 s5 => ?_⟩
        refine ⟨c, 90, sg, x, rfl, by decide, by omega, hl1, hl2, fun u hu hus H6 s6 => ?_⟩
        dsimp only [gName, tSeq, tAsg]
        have S6 := s1.trans (s2.trans (s3.trans ((same_upd np).trans (s5.trans s6))))
        refine whileN (fun n σ H' => ∃ u : List Nat, n = u.length ∧ σ = [some (.int c), some (.int (m : Nat)), some (.str sg), some (.str (S' u)), none, none, none] ∧ Same H H' ∧ 1 ≤ u.length ∧ u.length ≤ 30 ∧ ∀ x ∈ u, QC x) u.length ⟨u, rfl, rfl, S6, by omega, by omega, fun y hy => hsg y (hus y hy)⟩ (fun n σ H' hP => ?_)
        obtain ⟨u, rfl, rfl, sm, u1, u2, u3⟩ := hP
        have two : TL.tl (Str.ofString "  ") = [32, 32] := by decide +kernel
        obtain ⟨r1, r2, r3, r4⟩ := repl2 u.length u (Nat.le_refl _)
        refine ⟨dbl 32 u, fun k q1 => ⟨_, rfl, _, _, rfl, rfl, _, rfl, TellB.eq (in_two two) q1 _ (Same.refl _)⟩, fun hb H7 s7 => ?_, fun hb H7 s7 => ?_⟩
        · have hrep : Txt.replace (S' u) (Str.ofString "  ") (Str.ofString " ") = S' (PySem.StrLaws.replL [32, 32] [32] u) := TL.ext_tl (by
            have := PySem.StrLaws.replace_list (x := S' u) (y := Str.ofString "  ") (z := Str.ofString " ") (by decide +kernel)
            rw [show TL.tl (Txt.replace (S' u) (Str.ofString "  ") (Str.ofString " ")) = _ from this]
            rw [show (Str.ofString "  ").cps.toList = [32, 32] from two, show (Str.ofString " ").cps.toList = [32] from tl_sp]
            rfl)
          refine ⟨_, rfl, _, rfl, by rw [len_S', show (Str.ofString " ").length = 1 by decide +kernel]; omega, ?_⟩
          rw [hrep]
          refine ⟨(PySem.StrLaws.replL [32, 32] [32] u).length, r4 hb, _, rfl, rfl, sm.trans s7, ?_, by omega, fun x hx => u3 x (r3 x hx)⟩
          exact List.length_pos_iff.mpr (r2 (List.length_pos_iff.mp u1))
        · exact ⟨_, rfl, q u (.inr ⟨u1, u2, u3, nodbl_of hb⟩) _ (sm.trans s7)⟩
end
end K15

namespace K15
open PySem PySem.Spec PyProof.Rows L2 LH
theorem filt_nil {α : Type} (n : Nat) (b : Nat → Bool) (f : Nat → α) : ((List.range n).filter b).map f = [] ↔ ((List.range n).all fun i => !b i) = true := by
  rw [List.map_eq_nil_iff, List.filter_eq_nil_iff, List.all_eq_true]
  exact ⟨fun h x hx => by simpa using h x hx, fun h x hx => by simpa using h x hx⟩
theorem filt_dec {α : Type} [DecidableEq α] (n : Nat) (b : Nat → Bool) (f : Nat → α) : decide (((List.range n).filter b).map f = []) = (List.range n).all fun i => !b i := by
  rw [Bool.eq_iff_iff, decide_eq_true_eq]
  exact filt_nil n b f
theorem all_rangeL {α : Type} (d : α) (p : α → Bool) : ∀ l : List α, ((List.range l.length).all fun i => p (l.getD i d)) = l.all p
  | [] => rfl
  | x :: r => by
    rw [List.length_cons, List.range_succ_eq_map, List.all_cons, List.all_map]
    show (p x && (List.range r.length).all fun i => p (r.getD i d)) = (p x && r.all p)
    rw [all_rangeL d p r]
theorem sL_at (us : List (List Nat)) (i : Nat) (h : i < us.length) : ((sL us).map V.str).getD i .non = .str (S' (us.getD i [])) := by
  rw [List.getD_eq_getElem?_getD, List.getElem?_map]
  unfold sL
  rw [List.getElem?_map, List.getElem?_eq_getElem h, List.getD_eq_getElem?_getD, List.getElem?_eq_getElem h]
  rfl
theorem qc_small {c : Nat} (h : QC c) : c < 128 := by
  have hq : ∀ x ∈ TL.tl QUOTEDT, x < 128 := by decide +kernel
  rcases h with rfl | rfl | rfl | h
  · decide
  · decide
  · decide
  · exact hq c h
theorem good_small {u : List Nat} (h : GoodName u) : (∀ c ∈ u, c < 128) ∧ 1 ≤ u.length ∧ u.length ≤ 60 := by
  rcases h with h | ⟨h1, h2, h3, _⟩
  · have hne := words_ne h
    obtain ⟨g, hs, rfl, hg, hn, hall⟩ := h
    have hr : ∀ x ∈ g :: hs, RunL (TL.tl CALLEDT) 12 x := fun x hx => by
      rcases List.mem_cons.mp hx with rfl | hx
      · exact hg
      · exact hall x hx
    refine ⟨fun c hc => ?_, List.length_pos_iff.mpr hne, ?_⟩
    · rw [← joinL_tail] at hc
      rcases joinL_mem [32] _ c hc with h32 | ⟨w, hw, hcw⟩
      · rw [List.mem_singleton.mp h32]; decide
      · exact qc_small (.inr (.inr (.inr (cal_qc c ((hr w hw).2.2 c hcw)))))
    · rw [← joinL_tail]
      have hl := joinL_len [32] (g :: hs)
      have e1 : [32].length = 1 := rfl
      rw [e1] at hl
      have hs1 := sum_le 12 ((g :: hs).map List.length) fun x hx => by
        obtain ⟨y, hy, rfl⟩ := List.mem_map.mp hx
        exact (hr y hy).2.1
      rw [List.length_map] at hs1
      simp only [List.length_cons] at hl hs1
      omega
  · exact ⟨fun c hc => qc_small (h3 c hc), h1, by omega⟩
theorem esc_len (u : List Nat) : (escL u).length ≤ 2 * u.length := by
  induction u with
  | nil => exact Nat.zero_le _
  | cons c r ih =>
    rw [escL_cons, List.length_append, List.length_cons]
    have : (escC c).length ≤ 2 := by unfold escC; split <;> simp
    omega
section
variable {P : Program} {w : World} {K : PySem.W.Frag} {mg : Str → Option Value} {base : Heap} {tk : Nat → Tok} {ca : Nat → Addr} {C : Addr}
/-! ### _law_is_words -/
abbrev s__law_is_words : Stmt := topS 50
abbrev N__law_is_words : List Str := ["_law_name", "_law_words", "_law_strange", "_law_sign", "_law_word"]
abbrev P__law_is_words : List Str := ["_law_name"]
theorem sc__law_is_words : FnScope N__law_is_words ["_law_name"] (defScope s__law_is_words) := ⟨rfl, rfl, rfl, by decide +kernel, rfl, by decide +kernel, by decide +kernel⟩
def sp_isw : Sp := fun vs H Q _ => ∃ u, vs = [.str (S' u)] ∧ GoodName u ∧ Tell H (.bl (isWB u)) Q
theorem ok_isw {f f1 : Addr} {fd fd1 : FuncData} (F : Fun K "_law_is_words" "_law_is_words" s__law_is_words f fd) (T : Tx mg tk) (D__law_called : Def P w K mg base "_law_called" 2 f1 fd1 P__law_called sp_called) : FnOk P w K mg base CX0 3 f fd P__law_is_words sp_isw := by
  refine F.ok sc__law_is_words (fun vs H Q E h => ?_) (fun cdv A outer s H vs Q E hr h => ?_)
  · obtain ⟨u, rfl, _⟩ := h
    rfl
  · have nd := sc__law_is_words.nd
    obtain ⟨u, rfl, hg, q⟩ := h
    refine ⟨_, (pss_cons (ps_set (i := 1) nd rfl (.inl rfl) (pe_split (pv 0) pe_str))
      (pss_cons (ps_setLc (i := 2) (own := [("_law_sign", 3)]) (g := gName 3) (by rfl) nd rfl rfl (sw_true rfl rfl rfl (by decide +kernel)) (pi_str (pv 0)) (blkOk_by (N := N__law_is_words) (sc := defScope s__law_is_words) (by decide +kernel)) (fun _ _ _ _ _ => (pg_name (i := 3) nd rfl (Or.inl rfl))) (fun _ _ _ _ _ => (pts_one (PW.pt (pw_and (pt_cmpR op_ne (pv 3) pe_str (nomark _)) (pw_and1 (pt_cmpR op_notIn_sign (pv 3) (pe_def0 D__law_called (hr.mono (by decide))) rfl)))))) (fun _ _ _ _ _ => (pv 3)))
      (pss_one (ps_ret (pe_and (pe_cmpR op_le (pe_callB (cLen K) (by rfl) T.n_len (by decide +kernel) (pa_cons (pv 1) pa_nil)) pe_int (nomark _)) (pe_and (pe_cmpR (oEqD K hr.units) (pv 2) (pe_lst pa_nil) (nomark _)) (pe_one (pe_cmpR (oEqD K hr.units) (pe_lc (own := [("_law_word", 4)]) (g := gName 4) (by rfl) nd (pi_list (pv 1)) (blkOk_by (N := N__law_is_words) (sc := defScope s__law_is_words) (by decide +kernel)) (fun _ _ _ _ _ => (pg_name (i := 4) nd rfl (Or.inl rfl))) (fun _ _ _ _ _ => (pts_one (pt_not (pt_chain op_le op_le pe_int (pe_callB call_len_str (by rfl) T.n_len (by decide +kernel) (pa_cons (pv 4) pa_nil)) pe_int)))) (fun _ _ _ _ _ => (pv 4))) (pe_lst pa_nil) (nomark _))))))))), ?_⟩
    dsimp only [tSeq, tAsg]
    obtain ⟨hc, hl1, hl2⟩ := good_small hg
    have hz : (S' u).length = u.length := len_S' u
    have hsp : Txt.split (S' u) (Str.ofString " ") = sL (splitL 32 u) := TL.map_tl_inj (by rw [split_tl tl_sp (by decide), sL_tls]; rfl)
    refine ⟨_, rfl, ⟨_, rfl⟩, S' u, Str.ofString " ", rfl, rfl, by decide +kernel, by rw [hz, sizeLine_eq]; omega, fun p np => ?_⟩
    rw [hsp]
    have hwn := splitL_len 32 u
    have hwl : ∀ x ∈ splitL 32 u, x.length ≤ u.length := fun x hx => splitL_le 32 u x hx
    have hwc : ∀ x ∈ splitL 32 u, ∀ c ∈ x, c < 128 := fun x hx c hcx => hc c (splitL_mem 32 u x hx c hcx)
    unfold isWB at q
    generalize splitL 32 u = us at *
    have s1 := same_upd (o := .lst ((sL us).map V.str)) np
    have ep : upd H p (.lst ((sL us).map V.str)) p = _ := upd_same
    generalize upd H p (.lst ((sL us).map V.str)) = H1 at *
    dsimp only [gName, tSeq, tAsg]
    have hus : ((sL us).map V.str).length = us.length := by rw [List.length_map, sL_len]
    obtain ⟨L1, hL1⟩ : ∃ L : List Str, L = ((List.range u.length).filter fun i => !decide (u.getD i 0 = 32) && !decide (u.getD i 0 ∈ TL.tl CALLEDL)).map fun i => (⟨#[u.getD i 0]⟩ : Str) := ⟨_, rfl⟩
    have c1 : decide (L1 = []) = u.all fun c => decide (c = 32) || decide (c ∈ TL.tl CALLEDL) := by
      rw [hL1, filt_dec, ← all_rangeL 0 (fun c => decide (c = 32) || decide (c ∈ TL.tl CALLEDL)) u]
      congr 1
      funext i
      simp only [Bool.not_and, Bool.not_not]
    have ok1 : ∀ x ∈ L1, OkS x := fun x hx => by
      rw [hL1] at hx
      obtain ⟨i, hi, rfl⟩ := List.mem_map.mp hx
      intro c hcx
      have hcx : c = u.getD i 0 := List.mem_singleton.mp hcx
      have := hc _ (getDn u (List.mem_range.mp (List.mem_filter.mp hi).1))
      omega
    obtain ⟨L2s, hL2⟩ : ∃ L : List Str, L = ((List.range us.length).filter fun i => !(decide (1 ≤ (us.getD i []).length) && decide ((us.getD i []).length ≤ 12))).map fun i => S' (us.getD i []) := ⟨_, rfl⟩
    have c2 : decide (L2s = []) = us.all fun x => decide (1 ≤ x.length) && decide (x.length ≤ 12) := by
      rw [hL2, filt_dec, ← all_rangeL [] (fun x => decide (1 ≤ x.length) && decide (x.length ≤ 12)) us]
      congr 1
      funext i
      simp only [Bool.not_not]
    have hmem : ∀ i, i < us.length → us.getD i [] ∈ us := fun i hi => by
      rw [List.getD_eq_getElem?_getD, List.getElem?_eq_getElem hi]
      exact List.getElem_mem hi
    have ok2 : ∀ x ∈ L2s, OkS x := fun x hx => by
      rw [hL2] at hx
      obtain ⟨i, hi, rfl⟩ := List.mem_map.mp hx
      intro c hcx
      have := hwc _ (hmem i (List.mem_range.mp (List.mem_filter.mp hi).1)) c hcx
      omega
    have e32 : ∀ c : Nat, decide (V.str (⟨#[c]⟩ : Str) = V.str (Str.ofString " ")) = decide (c = 32) := fun c => decide_eq_decide.mpr ⟨fun h => by have := congrArg TL.tl (V.str.inj h); rw [tl_sp] at this; exact (List.cons.inj this).1, fun h => congrArg V.str (TL.ext_tl (by rw [tl_sp, h]))⟩
    refine ⟨_, rfl, S' u, rfl, fun D hD => lc_filt (fun i => .str ⟨#[u.getD i 0]⟩) (fun i => .str ⟨#[u.getD i 0]⟩) (fun i => !decide (u.getD i 0 = 32) && !decide (u.getD i 0 ∈ TL.tl CALLEDL)) walk_strF (fun _ _ => trivial) hD (by rw [sizeLine_eq]; show u.length ≤ _; omega) (fun i H2 Q2 hi s3 q2 => ?_) (fun i H2 Q2 hi s3 hf q2 => ⟨_, rfl, q2 _ (Same.refl _)⟩) (fun H2 s3 e => ?_)⟩
    · refine andT _ _ (fun k q3 => ⟨_, rfl, rfl, _, rfl, TellB.eq (congrArg (! ·) (e32 _)) q3 _ (Same.refl _)⟩) (fun _ H4 k s4 q3 => ⟨_, rfl, rfl, _, CALLEDL, rfl, rfl, _, rfl, q3 _ (Same.refl _)⟩) q2
    have e : H2 D = some (.lst (L1.map V.str)) := by rw [e, hL1, List.map_map]; rfl
    dsimp only [gName, tSeq, tAsg]
    refine andV (decide (us.length ≤ 4)) _ (fun Q' q' => ⟨.ref p, rfl, p, _, rfl, .inl (.inl (.inl (s3 _ _ ep))), _, 4, rfl, rfl, ?_⟩) (fun _ H4 Q' s4 q' => andV (u.all fun c => decide (c = 32) || decide (c ∈ TL.tl CALLEDL)) (us.all fun x => decide (1 ≤ x.length) && decide (x.length ≤ 12)) (fun Q2 q2 => ⟨.ref D, rfl, Nat.zero_le _, fun g ng => ⟨_, _, dp_strs (.inl (.inl (same_upd ng _ _ (s4 _ _ e)))), dp_strs (bs := []) (.inl (.inl upd_same)), shaped_strs L1 ok1, shaped_strs [] (fun _ h => by cases h), ?_⟩⟩) (fun _ H5 Q2 s5 q2 => ⟨.ref p, rfl, p, rfl, ⟨_, .inl (.inl (s5 _ _ (s4 _ _ (s3 _ _ ep))))⟩, fun D2 hD2 => lc_filt (fun i => ((sL us).map V.str).getD i .non) (fun i => ((sL us).map V.str).getD i .non) (fun i => !(decide (1 ≤ (us.getD i []).length) && decide ((us.getD i []).length ≤ 12))) walk_listF (fun H6 s6 => s6.seq (.inl (.inl (s5 _ _ (s4 _ _ (s3 _ _ ep)))))) hD2 (by rw [hus, sizeLine_eq]; omega) (fun i H6 Q6 hi s6 q6 => ?_) (fun i H6 Q6 hi s6 hf q6 => ⟨_, rfl, q6 _ (Same.refl _)⟩) (fun H6 s6 e6 => ?_)⟩) q') (fun H5 s5 => q _ (s1.trans (s3.trans s5)))
    · show Q' (.bl (decide (((((sL us).map V.str).length : Nat) : Int) ≤ 4))) H2
      rw [show decide (((((sL us).map V.str).length : Nat) : Int) ≤ 4) = decide (us.length ≤ 4) from decide_eq_decide.mpr (by omega)]
      exact q' _ (Same.refl _)
    · rw [eqv_strsL, c1]
      exact q2 _ (same_upd ng)
    · rw [hus] at hi
      rw [sL_at us i hi]
      have hx := hwl _ (hmem i hi)
      generalize us.getD i [] = x at *
      refine notT _ (fun k q7 => ?_) q6
      have hx2 : (S' x).length = x.length := len_S' x
      refine ⟨_, rfl, S' x, rfl, by rw [hx2, sizeLine_eq]; omega, 1, _, rfl, rfl, _, rfl, ?_⟩
      by_cases h1 : 1 ≤ x.length
      · rw [decide_eq_true (show (1 : Int) ≤ ((S' x).length : Nat) by omega), if_pos rfl]
        exact ⟨_, 12, rfl, rfl, _, rfl, TellB.eq (by rw [decide_eq_true h1, Bool.true_and, hx2]; exact decide_eq_decide.mpr (by omega)) q7 _ (Same.refl _)⟩
      · rw [decide_eq_false (show ¬ (1 : Int) ≤ ((S' x).length : Nat) by omega), if_neg Bool.false_ne_true]
        exact ⟨_, rfl, TellB.eq (by rw [decide_eq_false h1, Bool.false_and]) q7 _ (Same.refl _)⟩
    · rw [hus] at e6
      have e6 : H6 D2 = some (.lst (L2s.map V.str)) := by
        rw [e6, hL2, List.map_map]
        exact congrArg (fun x => some (HO.lst x)) (List.map_congr_left fun i hi => sL_at us i (List.mem_range.mp (List.mem_filter.mp hi).1))
      refine ⟨Nat.zero_le _, fun g ng => ⟨_, _, dp_strs (.inl (.inl (same_upd ng _ _ e6))), dp_strs (bs := []) (.inl (.inl upd_same)), shaped_strs L2s ok2, shaped_strs [] (fun _ h => by cases h), ?_⟩⟩
      rw [eqv_strsL, c2]
      exact q2 _ (s6.trans (same_upd ng))
/-! ### _law_called_text -/
abbrev s__law_called_text : Stmt := topS 51
abbrev N__law_called_text : List Str := ["_law_name", "_law_is_quoted", "_law_found", "_law_sign"]
abbrev P__law_called_text : List Str := ["_law_name", "_law_is_quoted"]
theorem sc__law_called_text : FnScope N__law_called_text ["_law_name", "_law_is_quoted"] (defScope s__law_called_text) := ⟨rfl, rfl, rfl, by decide +kernel, rfl, by decide +kernel, by decide +kernel⟩
/-- how a name is told; b: in quotes even where it need not be -/
def calL (b : Bool) (u : List Nat) : List Nat := if (isWB u && (!b || decide (30 < u.length))) = true then u else 34 :: (escL u ++ [34])
def sp_ctext : Sp := fun vs H Q _ => ∃ (u : List Nat) (b : Bool), vs = [.str (S' u), .bl b] ∧ GoodName u ∧ ∀ N, NameT u N → N = calL b u → N.length ≤ 70 → Tell H (.str (S' N)) Q
theorem in_two_signs (c : Nat) : inV (.str ⟨#[c]⟩) [V.str (Str.ofString "\\"), .str (Str.ofString "\"")] = decide (c = 92 ∨ c = 34) := by
  have e : ∀ (z : Str) (d : Nat), TL.tl z = [d] → eqV (.str z) (.str ⟨#[c]⟩) = decide (c = d) := fun z d hz => by
    obtain rfl : z = ⟨#[d]⟩ := TL.ext_tl hz
    show ((⟨#[d]⟩ : Str) == ⟨#[c]⟩) = decide (c = d)
    rw [Bool.eq_iff_iff, beq_iff_eq, decide_eq_true_eq]
    exact ⟨fun h => by have := congrArg TL.tl h; exact (List.cons.inj this).1.symm, fun h => by rw [h]⟩
  unfold inV
  rw [List.any_cons, List.any_cons, List.any_nil, e _ 92 tl_bs, e _ 34 tl_qu, Bool.or_false, Bool.eq_iff_iff]
  simp
theorem ok_ctext {f f1 : Addr} {fd fd1 : FuncData} (F : Fun K "_law_called_text" "_law_called_text" s__law_called_text f fd) (T : Tx mg tk) (D__law_is_words : Def P w K mg base "_law_is_words" 3 f1 fd1 P__law_is_words sp_isw) : FnOk P w K mg base CX0 4 f fd P__law_called_text sp_ctext := by
  refine F.ok sc__law_called_text (fun vs H Q E h => ?_) (fun cdv A outer s H vs Q E hr h => ?_)
  · obtain ⟨u, b, rfl, _⟩ := h
    rfl
  · have nd := sc__law_called_text.nd
    obtain ⟨u, b, rfl, hg, q⟩ := h
    refine ⟨_, (pss_cons (ps_if (PW.pt (pw_and (pt_val (pe_def D__law_is_words (hr.mono (by decide)) (pa_cons (pv 0) pa_nil))) (pw_and1 (PW.pt (pw_or (pt_not (pt_val (pv 1))) (pw_or1 (pt_cmpR op_gt (pe_callB call_len_str (by rfl) T.n_len (by decide +kernel) (pa_cons (pv 0) pa_nil)) pe_int (nomark _))))))))
        (pss_one (ps_ret (pv 0)))
        pss_nil)
      (pss_cons (ps_set (i := 2) nd rfl (.inl rfl) pe_str)
      (pss_cons (ps_for PassesOwn.never rfl (pi_str (pv 0)) (pg_name (i := 3) nd rfl (Or.inl rfl))
        (pss_one (ps_set (i := 2) nd rfl (.inl rfl) (pe_op op_add_str (pe_op op_add_str (pv 2) (pe_ix (ixL K) (pe_lst (pa_cons pe_str (pa_cons pe_str pa_nil))) (pe_callTy call_int1 (by rfl) T.n_int (by decide +kernel) (pa_cons (pe_cmpR (oIn K) (pv 3) (pe_tup (pa_cons pe_str (pa_cons pe_str pa_nil))) (by rfl)) pa_nil)) (fun _ _ => rfl))) (pv 3)))))
      (pss_one (ps_ret (pe_op op_add_str (pe_op op_add_str pe_str (pv 2)) pe_str)))))), ?_⟩
    dsimp only [tSeq, tAsg]
    obtain ⟨_, hl1, hl2⟩ := good_small hg
    have hz : (S' u).length = u.length := len_S' u
    have hzs : (S' u).length ≤ sizeLine := by rw [hz, sizeLine_eq]; omega
    refine ifT (isWB u && (!b || decide (30 < u.length))) (fun k q1 => andT _ _ (fun k2 q2 => ⟨_, rfl, u, rfl, hg, fun H2 s2 => ⟨_, rfl, q2 _ s2⟩⟩) (fun _ H2 k2 s2 q2 => orT _ _ (fun k3 q3 => notT _ (fun k4 q4 => ⟨_, rfl, _, rfl, q4 _ (Same.refl _)⟩) q3) (fun _ H3 k3 s3 q3 => ⟨_, rfl, _, rfl, hzs, _, 30, rfl, rfl, _, rfl, TellB.eq (decide_eq_decide.mpr (by rw [hz]; omega)) q3 _ (Same.refl _)⟩) q2) q1) (fun hb H1 s1 => ?_) (fun hb H1 s1 => ?_)
    · have hcal : u = calL b u := by unfold calL; rw [if_pos hb]
      rw [Bool.and_eq_true] at hb
      obtain ⟨h, hs, hu, hh, hn, hall⟩ := (isWB_iff u).mp hb.1
      exact ⟨_, rfl, q u (.inr (.inl ⟨rfl, h, hs, hu, hh, hn, hall⟩)) hcal (by omega) _ s1⟩
    · have hcal : 34 :: (escL u ++ [34]) = calL b u := by unfold calL; rw [if_neg (by rw [hb]; exact Bool.false_ne_true)]
      have hq : QGood u := by
        rcases hg with hw | hq
        · refine words_qgood hw ?_
          rw [(isWB_iff u).mpr hw, Bool.true_and, Bool.or_eq_false_iff] at hb
          have := of_decide_eq_false hb.2
          omega
        · exact hq
      dsimp only [tNext, tSeq, tAsg, gName]
      have e0 : Str.ofString "" = S' (escL (u.take 0)) := TL.ext_tl (by rw [tl_em]; rfl)
      refine ⟨_, rfl, S' u, rfl, for_it walk_strF (fun i σ H' => ∃ y3 : Option V, σ = [some (.str (S' u)), some (.bl b), some (.str (S' (escL (u.take i)))), y3] ∧ Same H H') ⟨none, by rw [← e0]; rfl, s1⟩ (fun _ _ _ _ _ => trivial) (fun i x σ H' H'' hi hP hy => ?_) (fun σ H' hP => ?_)⟩
      · obtain ⟨y3, rfl, sm⟩ := hP
        obtain ⟨rfl, rfl⟩ := hy
        have hi : i < u.length := hi
        have hx : (TL.tl (S' u)).getD i 0 = u.getD i 0 := rfl
        have htk : u.take (i + 1) = u.take i ++ [u.getD i 0] := by
          rw [List.take_add_one, List.getElem?_eq_getElem hi, List.getD_eq_getElem?_getD, List.getElem?_eq_getElem hi]
          rfl
        dsimp only [gName, tSeq, tAsg]
        rw [hx]
        have hel := esc_len (u.take i)
        rw [List.length_take] at hel
        generalize u.getD i 0 = c at *
        have hle : (S' (escL (u.take i))).length ≤ 120 := by rw [len_S']; omega
        refine ⟨_, rfl, Nat.le_of_lt (small1000 (show 2 ≤ 1000 by decide)), fun p np => ⟨_, rfl, Nat.le_of_lt (small1000 (show 2 ≤ 1000 by decide)), fun p2 np2 => ?_⟩⟩
        have t1 := same_upd (o := .lst [V.str (Str.ofString ""), .str (Str.ofString "\\")]) np
        have g1 : upd H'' p (.lst [V.str (Str.ofString ""), .str (Str.ofString "\\")]) p = _ := upd_same
        generalize upd H'' p (.lst [V.str (Str.ofString ""), .str (Str.ofString "\\")]) = G1 at *
        have t2 := same_upd (o := .tup [V.str (Str.ofString "\\"), .str (Str.ofString "\"")]) np2
        have g2 : upd G1 p2 (.tup [V.str (Str.ofString "\\"), .str (Str.ofString "\"")]) p2 = _ := upd_same
        refine ⟨p2, _, rfl, .inr (.inl (.inl g2)), rfl, rfl, .inr ⟨_, rfl, ?_⟩⟩
        have b1 : (Str.ofString "\\").length = 1 := by decide +kernel
        have b0 : (Str.ofString "").length = 0 := by decide +kernel
        have s12 := sm.trans (t1.trans t2)
        rw [if_neg Bool.false_ne_true, in_two_signs]
        have he1 : escL (u.take (i + 1)) = escL (u.take i) ++ escC c := by rw [htk, escL_app, escL_cons]; show _ ++ (escC c ++ []) = _; rw [List.append_nil]
        by_cases hc : c = 92 ∨ c = 34
        · rw [decide_eq_true hc, if_pos rfl]
          have ec : escC c = [92, c] := if_pos hc
          have er : S' (escL (u.take i)) ++ Str.ofString "\\" ++ (⟨#[c]⟩ : Str) = S' (escL (u.take (i + 1))) := TL.ext_tl (by rw [he1, ec, TL.tl_append, TL.tl_append, tl_bs, tl_S', tl_S', List.append_assoc]; rfl)
          refine ⟨p, _, _, .str (Str.ofString "\\"), rfl, rfl, .inl (.inl (t2 _ _ g1)), rfl, _, _, rfl, rfl, by rw [b1, sizeLine_eq]; omega, _, rfl, _, _, rfl, rfl, by rw [len_app, b1, sizeLine_eq]; show _ + 1 ≤ _; omega, some (.str ⟨#[c]⟩), ?_, s12⟩
          rw [← er]
          rfl
        · rw [decide_eq_false hc, if_neg Bool.false_ne_true]
          have ec : escC c = [c] := if_neg hc
          have er : S' (escL (u.take i)) ++ Str.ofString "" ++ (⟨#[c]⟩ : Str) = S' (escL (u.take (i + 1))) := TL.ext_tl (by rw [he1, ec, TL.tl_append, TL.tl_append, tl_em, tl_S', tl_S', List.append_nil])
          refine ⟨p, _, _, .str (Str.ofString ""), rfl, rfl, .inl (.inl (t2 _ _ g1)), rfl, _, _, rfl, rfl, by rw [b0, sizeLine_eq]; omega, _, rfl, _, _, rfl, rfl, by rw [len_app, b0, sizeLine_eq]; show _ + 1 ≤ _; omega, some (.str ⟨#[c]⟩), ?_, s12⟩
          rw [← er]
          rfl
      · obtain ⟨y3, rfl, sm⟩ := hP
        have hl : (TL.tl (S' u)).length = u.length := rfl
        rw [hl, List.take_length]
        have hel := esc_len u
        have q1 : (Str.ofString "\"").length = 1 := by decide +kernel
        have hu30 := hq.2.1
        refine ⟨_, rfl, _, _, rfl, rfl, by rw [q1, len_S', sizeLine_eq]; omega, _, _, rfl, rfl, by rw [len_app, q1, len_S', sizeLine_eq]; omega, ?_⟩
        have er : Str.ofString "\"" ++ S' (escL u) ++ Str.ofString "\"" = S' (34 :: (escL u ++ [34])) := TL.ext_tl (by rw [TL.tl_append, TL.tl_append, tl_qu, tl_S', tl_S']; rfl)
        show Q (.str (Str.ofString "\"" ++ S' (escL u) ++ Str.ofString "\"")) _
        rw [er]
        exact q _ (.inr (.inr ⟨hq, rfl⟩)) hcal (by simp only [List.length_cons, List.length_append, List.length_nil]; omega) _ sm
/-! ### _law_one -/
abbrev s__law_one : Stmt := topS 52
abbrev N__law_one : List Str := ["_law_cell", "_law_name"]
abbrev P__law_one : List Str := ["_law_cell"]
theorem sc__law_one : FnScope N__law_one ["_law_cell"] (defScope s__law_one) := ⟨rfl, rfl, rfl, by decide +kernel, rfl, by decide +kernel, by decide +kernel⟩
def GoodOne (o : List Nat × List Nat) : Prop := (o.1 = [] ∨ GoodName o.1) ∧ GoodAddr o.2
def sp_lone : Sp := fun vs H Q _ => ∃ c : Int, vs = [.int c] ∧ ∀ o, GoodOne o → ∀ H' t, Same H H' → H' t = some (.tup (oneF o)) → Q (.ref t) H'
theorem ok_lone {f f1 f2 f3 : Addr} {fd fd1 fd2 fd3 : FuncData} (F : Fun K "_law_one" "_law_one" s__law_one f fd) (T : Tx mg tk) (D__law_mixed : Def P w K mg base "_law_mixed" 1 f1 fd1 P__law_mixed sp_mixed) (D__law_named : Def P w K mg base "_law_named" 3 f2 fd2 P__law_named sp_named) (D__law_address : Def P w K mg base "_law_address" 3 f3 fd3 P__law_address sp_laddr) : FnOk P w K mg base CX0 4 f fd P__law_one sp_lone := by
  refine F.ok sc__law_one (fun vs H Q E h => ?_) (fun cdv A outer s H vs Q E hr h => ?_)
  · obtain ⟨c, rfl, _⟩ := h
    rfl
  · have nd := sc__law_one.nd
    obtain ⟨c, rfl, q⟩ := h
    refine ⟨_, (pss_cons (ps_set (i := 1) nd rfl (.inl rfl) (pe_ix (ixL K) (pe_lst (pa_cons pe_str (pa_cons (pe_def D__law_named (hr.mono (by decide)) (pa_cons (pv 0) pa_nil)) pa_nil))) (pe_callTy call_int1 (by rfl) T.n_int (by decide +kernel) (pa_cons (pe_cmpR op_gt (pe_op op_mod (pe_def D__law_mixed (hr.mono (by decide)) (pa_cons (pv 0) (pa_cons pe_int pa_nil))) pe_int) pe_int (nomark _)) pa_nil)) (fun _ _ => rfl)))
      (pss_one (ps_ret (pe_tup (pa_cons pe_str (pa_cons (pv 1) (pa_cons (pe_def D__law_address (hr.mono (by decide)) (pa_cons (pv 0) pa_nil)) pa_nil))))))), ?_⟩
    dsimp only [tSeq, tAsg]
    refine ⟨_, rfl, c, rfl, fun u hu H1 s1 => ⟨Nat.le_of_lt (small1000 (show 2 ≤ 1000 by decide)), fun p np => ?_⟩⟩
    have t1 := same_upd (o := .lst [V.str (Str.ofString ""), .str (S' u)]) np
    have g1 : upd H1 p (.lst [V.str (Str.ofString ""), .str (S' u)]) p = _ := upd_same
    generalize upd H1 p (.lst [V.str (Str.ofString ""), .str (S' u)]) = G1 at *
    refine ⟨_, rfl, c, 7, rfl, by decide, by decide, fun m hm H2 s2 => ⟨_, 4, rfl, rfl, (show (0 : Int) < 4 by decide), _, 0, rfl, rfl, .inr ⟨_, rfl, ?_⟩⟩⟩
    have key : ∀ x : List Nat, (x = [] ∨ GoodName x) → atI [V.str (Str.ofString ""), .str (S' u)] (if decide ((0 : Int) < (m : Int) % 4) = true then 1 else 0) = some (.str (S' x)) → (tSeq (tAsg (tC (.str (S' x))) (gName 1)) (fun D σ H => D.nx σ H)) = (tSeq (tAsg (tC (.str (S' x))) (gName 1)) (fun D σ H => D.nx σ H)) := fun _ _ _ => rfl
    clear key
    obtain ⟨x, hx, ex⟩ : ∃ x : List Nat, (x = [] ∨ GoodName x) ∧ atI [V.str (Str.ofString ""), .str (S' u)] (if decide ((0 : Int) < (m : Int) % 4) = true then 1 else 0) = some (.str (S' x)) := by
      split
      · exact ⟨u, .inr hu, rfl⟩
      · refine ⟨[], .inl rfl, ?_⟩
        rw [show S' [] = Str.ofString "" from TL.ext_tl (by rw [tl_em]; rfl)]
        rfl
    refine ⟨p, _, _, .str (S' x), rfl, rfl, .inl (.inl (s2 _ _ g1)), ex, ?_⟩
    dsimp only [gName, tSeq, tAsg]
    refine ⟨_, rfl, _, rfl, c, rfl, fun ad had H3 s3 => ⟨Nat.le_of_lt (small1000 (show 3 ≤ 1000 by decide)), fun t nt => ?_⟩⟩
    exact q (x, ad) ⟨hx, had⟩ _ t (s1.trans (t1.trans (s2.trans (s3.trans (same_upd nt))))) upd_same
/-! ### _law_one_text -/
abbrev s__law_one_text : Stmt := topS 53
abbrev N__law_one_text : List Str := ["_law_one_here", "_law_is_quoted", "_law_ahead"]
abbrev P__law_one_text : List Str := ["_law_one_here", "_law_is_quoted"]
theorem sc__law_one_text : FnScope N__law_one_text ["_law_one_here", "_law_is_quoted"] (defScope s__law_one_text) := ⟨rfl, rfl, rfl, by decide +kernel, rfl, by decide +kernel, by decide +kernel⟩
theorem addr_len {ad : List Nat} (h : GoodAddr ad) : ad.length ≤ 60 := by
  obtain ⟨lo, g, hs, rfl, l, hg, hn, hall⟩ := h
  have h1 : ∀ hs : List (List Nat), (∀ x ∈ hs, RunL (TL.tl HOUSET) 10 x) → (tailT [46] hs).length ≤ 11 * hs.length := fun hs => by
    induction hs with
    | nil => intro _; exact Nat.zero_le _
    | cons x r ih =>
      intro hh
      have := ih fun y hy => hh y (List.mem_cons_of_mem _ hy)
      have := (hh x (List.mem_cons_self ..)).2.1
      rw [tailT_cons]
      simp only [List.length_append, List.length_cons, List.length_nil]
      omega
  have := h1 hs hall
  have := l.2.1
  have := hg.2.1
  simp only [List.length_append, List.length_cons]
  omega
def oneL (b : Bool) (o : List Nat × List Nat) : List Nat := (if o.1 = [] then [] else calL b o.1 ++ [32]) ++ 60 :: (o.2 ++ [62])
def sp_onetext : Sp := fun vs H Q _ => ∃ (t : Addr) (o : List Nat × List Nat) (b : Bool), vs = [.ref t, .bl b] ∧ H t = some (.tup (oneF o)) ∧ GoodOne o ∧ ∀ X, OneTx o X → X = oneL b o → X.length ≤ 140 → Tell H (.str (S' X)) Q
theorem ok_onetext {f f1 : Addr} {fd fd1 : FuncData} (F : Fun K "_law_one_text" "_law_one_text" s__law_one_text f fd) (T : Tx mg tk) (D__law_called_text : Def P w K mg base "_law_called_text" 4 f1 fd1 P__law_called_text sp_ctext) : FnOk P w K mg base CX0 5 f fd P__law_one_text sp_onetext := by
  refine F.ok sc__law_one_text (fun vs H Q E h => ?_) (fun cdv A outer s H vs Q E hr h => ?_)
  · obtain ⟨t, o, b, rfl, _⟩ := h
    rfl
  · have nd := sc__law_one_text.nd
    obtain ⟨t, ⟨u, ad⟩, b, rfl, et, ⟨hu, had⟩, q⟩ := h
    refine ⟨_, (pss_cons (ps_set (i := 2) nd rfl (.inl rfl) (pe_ifExp (pt_cmpR op_eq (pe_ix (ixT K) (pv 0) pe_int (fun _ _ => rfl)) pe_str (nomark _)) pe_str (pe_op op_add_str (pe_def D__law_called_text (hr.mono (by decide)) (pa_cons (pe_ix (ixT K) (pv 0) pe_int (fun _ _ => rfl)) (pa_cons (pv 1) pa_nil))) pe_str)))
      (pss_one (ps_ret (pe_op op_add_str (pe_op op_add_str (pe_op op_add_str (pv 2) pe_str) (pe_ix (ixT K) (pv 0) pe_int (fun _ _ => rfl))) pe_str)))), ?_⟩
    dsimp only [tSeq, tAsg] at hu had q ⊢
    have hal := addr_len had
    have hdec : decide (V.str (S' u) = V.str (Str.ofString "")) = decide (u = []) := decide_eq_decide.mpr ⟨fun h => by have := congrArg TL.tl (V.str.inj h); rw [tl_em] at this; exact this, fun h => congrArg V.str (TL.ext_tl (by rw [tl_em, h]; rfl))⟩
    have i1 : ∀ H', Same H H' → SqT K H' t (oneF (u, ad)) := fun H' s' => .inl (.inl (s' _ _ et))
    have q1 : (Str.ofString "<").length = 1 := by decide +kernel
    have q2 : (Str.ofString ">").length = 1 := by decide +kernel
    have q3 : (Str.ofString " ").length = 1 := by decide +kernel
    have fin : ∀ (A X : List Nat) (H2 : Hp), Same H H2 → A.length ≤ 71 → X = A ++ (60 :: (ad ++ [62])) → OneTx (u, ad) X → X = oneL b (u, ad) → tRet (tOp (fun x y H Q => ∃ i j, x = V.str i ∧ y = V.str j ∧ i.length + j.length ≤ sizeLine ∧ Q (V.str (i ++ j)) H) (tOp (fun x y H Q => ∃ i j, x = V.str i ∧ y = V.str j ∧ i.length + j.length ≤ sizeLine ∧ Q (V.str (i ++ j)) H) (tOp (fun x y H Q => ∃ i j, x = V.str i ∧ y = V.str j ∧ i.length + j.length ≤ sizeLine ∧ Q (V.str (i ++ j)) H) (tVar 2) (tC (V.str (Str.ofString "<")))) (tOp (rIxT K) (tVar 0) (tC (V.int 2)))) (tC (V.str (Str.ofString ">")))) { nx := fun x H' => Q V.non H', rt := Q } [some (.ref t), some (.bl b), some (.str (S' A))] H2 := fun A X H2 s2 hA hX hT hXe => by
      have hsn : (u, ad).snd.length = ad.length := rfl
      refine ⟨_, rfl, _, _, rfl, rfl, by rw [len_S', q1, sizeLine_eq]; omega, .ref t, rfl, t, _, 2, _, rfl, rfl, i1 _ s2, rfl, _, _, rfl, rfl, by rw [len_app, len_S', q1, len_S', sizeLine_eq]; omega, _, _, rfl, rfl, by rw [len_app, len_app, len_S', q1, len_S', q2, sizeLine_eq]; omega, ?_⟩
      have er : S' A ++ Str.ofString "<" ++ S' ad ++ Str.ofString ">" = S' X := TL.ext_tl (by rw [TL.tl_append, TL.tl_append, TL.tl_append, tl_lt, tl_gt, tl_S', tl_S', tl_S', hX]; simp)
      show Q (.str (S' A ++ Str.ofString "<" ++ S' ad ++ Str.ofString ">")) H2
      rw [er]
      exact q X hT hXe (by rw [hX]; simp only [List.length_append, List.length_cons, List.length_nil]; omega) _ s2
    refine ⟨.ref t, rfl, t, _, 1, _, rfl, rfl, i1 _ (Same.refl _), rfl, rfl, _, rfl, ?_⟩
    rw [hdec]
    by_cases h0 : u = []
    · rw [decide_eq_true h0]
      refine iteT ?_
      have := fin [] (60 :: (ad ++ [62])) H (Same.refl _) (Nat.zero_le _) rfl ⟨[], .inl ⟨h0, rfl⟩, had, by rw [if_pos h0]; rfl⟩ (by unfold oneL; rw [if_pos h0]; rfl)
      rw [show S' [] = Str.ofString "" from TL.ext_tl (by rw [tl_em]; rfl)] at this
      exact this
    · rw [decide_eq_false h0]
      refine iteF ⟨.ref t, rfl, t, _, 1, _, rfl, rfl, i1 _ (Same.refl _), rfl, _, rfl, u, b, rfl, hu.resolve_left h0, fun N hN hNe hNl H2 s2 => ⟨_, _, rfl, rfl, by rw [len_S', q3, sizeLine_eq]; omega, ?_⟩⟩
      have := fin (N ++ [32]) (N ++ ([32] ++ (60 :: (ad ++ [62])))) H2 s2 (by rw [List.length_append]; simp only [List.length_cons, List.length_nil]; omega) (by rw [List.append_assoc]) ⟨N, hN, had, by rw [if_neg h0]⟩ (by unfold oneL; rw [if_neg h0, hNe, List.append_assoc])
      rw [show S' (N ++ [32]) = S' N ++ Str.ofString " " from TL.ext_tl (by rw [TL.tl_append, tl_sp]; rfl)] at this
      exact this
end
end K15

namespace K15
open PySem PySem.Spec PyProof.Rows L2 LH
/-! ### people written -/
def GoodItem (it : Item) : Prop := match it with
  | .one o => GoodOne o
  | .grp u os => GoodName u ∧ (∀ o ∈ os, GoodOne o) ∧ os.length ≤ 10
theorem OnesR.at {H : Hp} : ∀ {vs : List V} {os : List (List Nat × List Nat)}, OnesR H vs os → ∀ i, i < os.length → ∃ t, vs.getD i .non = .ref t ∧ H t = some (.tup (oneF (os.getD i ([], []))))
  | [], [], _, i, h => absurd h (Nat.not_lt_zero i)
  | _ :: _, _ :: _, h, 0, _ => h.1
  | _ :: vs, _ :: os, h, i + 1, hi => OnesR.at (vs := vs) (os := os) h.2 i (Nat.lt_of_succ_lt_succ hi)
  | [], _ :: _, h, _, _ => h.elim
  | _ :: _, [], h, _, _ => h.elim
theorem Rs.at {β : Type} {ER : Hp → V → β → List Addr → Prop} {H : Hp} (d : β) : ∀ {vs : List V} {xs : List β} {As : List (List Addr)}, Rs ER H vs xs As → ∀ i, i < xs.length → ER H (vs.getD i .non) (xs.getD i d) (As.getD i [])
  | [], [], [], _, i, h => absurd h (Nat.not_lt_zero i)
  | _ :: _, _ :: _, _ :: _, h, 0, _ => h.1
  | _ :: vs, _ :: xs, _ :: As, h, i + 1, hi => Rs.at d (vs := vs) (xs := xs) (As := As) h.2 i (Nat.lt_of_succ_lt_succ hi)
  | [], [], _ :: _, h, _, _ => h.elim
  | [], _ :: _, _, h, _, _ => h.elim
  | _ :: _, [], _, h, _, _ => h.elim
  | _ :: _, _ :: _, [], h, _, _ => h.elim
theorem pick_two {β : Type} (R : β → List Nat → Prop) (k : Nat) (d : β) : ∀ (xs : List β) (vs : List V), vs.length = xs.length → (∀ i, i < xs.length → ∃ X, R (xs.getD i d) X ∧ X.length ≤ k ∧ vs.getD i .non = .str (S' X)) → ∃ Ts, Two R xs Ts ∧ (∀ T ∈ Ts, T.length ≤ k) ∧ vs = (sL Ts).map V.str
  | [], [], _, _ => ⟨[], trivial, (fun _ h => by cases h), rfl⟩
  | x :: xs, v :: vs, hl, h => by
    obtain ⟨X, hx, hk, e⟩ := h 0 (Nat.zero_lt_succ _)
    obtain ⟨Ts, h2, hk2, ev⟩ := pick_two R k d xs vs (Nat.succ.inj hl) fun i hi => h (i + 1) (Nat.succ_lt_succ hi)
    have e : v = .str (S' X) := e
    refine ⟨X :: Ts, ⟨hx, h2⟩, fun T hT => ?_, ?_⟩
    · rcases List.mem_cons.mp hT with rfl | hT
      · exact hk
      · exact hk2 T hT
    · rw [e, ev]
      rfl
  | [], _ :: _, hl, _ => nomatch hl
  | _ :: _, [], hl, _ => nomatch hl
theorem join_some (Ts : List (List Nat)) (k n : Nat) (hk : ∀ T ∈ Ts, T.length ≤ k) (hn : Ts.length ≤ n) : ((sL Ts).map (·.length)).sum + (sL Ts).length * (Str.ofString ", ").length ≤ n * (k + 2) ∧ Txt.join (Str.ofString ", ") (sL Ts) = S' (TL.joinL [44, 32] Ts) ∧ (TL.joinL [44, 32] Ts).length ≤ n * (k + 2) := by
  have h2 : (Str.ofString ", ").length = 2 := by decide +kernel
  have hjl := join_len_le (sep := Str.ofString ", ") (ws := sL Ts) (k := k) (n := n) (fun x hx => by
    obtain ⟨u, hu, rfl⟩ := List.mem_map.mp hx
    rw [len_S']
    exact hk u hu) (by rw [sL_len]; exact hn)
  rw [h2] at hjl ⊢
  refine ⟨hjl, TL.ext_tl (by rw [TL.join_eq, TL.tl_join, sL_tls, tl_cs]; rfl), ?_⟩
  have := joinL_len [44, 32] Ts
  have e1 : [44, 32].length = 2 := rfl
  rw [e1] at this
  have e2 : (sL Ts).map (·.length) = Ts.map List.length := by
    unfold sL
    rw [List.map_map]
    exact List.map_congr_left fun u _ => len_S' u
  rw [e2, sL_len] at hjl
  omega
theorem one_ne : decide (V.str (Str.ofString "one") = V.str (Str.ofString "one")) = true ∧ decide (V.str (Str.ofString "group") = V.str (Str.ofString "one")) = false ∧ decide (V.str (Str.ofString "one") = V.str (Str.ofString "group")) = false ∧ decide (V.str (Str.ofString "group") = V.str (Str.ofString "group")) = true := by
  have h1 : TL.tl (Str.ofString "one") ≠ TL.tl (Str.ofString "group") := by decide +kernel
  refine ⟨decide_eq_true rfl, decide_eq_false fun h => h1 (congrArg TL.tl (V.str.inj h)).symm, decide_eq_false fun h => h1 (congrArg TL.tl (V.str.inj h)), decide_eq_true rfl⟩
def itemL (b : Bool) : Item → List Nat
  | .one o => oneL b o
  | .grp u os => calL b u ++ ([58, 32] ++ (TL.joinL [44, 32] (os.map (oneL b)) ++ [59]))
theorem two_fun {β : Type} {R : β → List Nat → Prop} {g : β → List Nat} : ∀ {xs : List β} {Ts : List (List Nat)}, Two (fun x X => R x X ∧ X = g x) xs Ts → Two R xs Ts ∧ Ts = xs.map g
  | [], [], _ => ⟨trivial, rfl⟩
  | x :: xs, T :: Ts, h => by
    obtain ⟨⟨h1, h2⟩, h3⟩ := h
    obtain ⟨h4, h5⟩ := two_fun h3
    exact ⟨⟨h1, h4⟩, by rw [h5, h2]; rfl⟩
  | [], _ :: _, h => h.elim
  | _ :: _, [], h => h.elim
section
variable {P : Program} {w : World} {K : PySem.W.Frag} {mg : Str → Option Value} {base : Heap} {tk : Nat → Tok} {ca : Nat → Addr} {C : Addr}
/-! ### _law_item_text -/
abbrev s__law_item_text : Stmt := topS 55
abbrev N__law_item_text : List Str := ["_law_item", "_law_is_quoted", "_law_inner", "_law_one_here"]
abbrev P__law_item_text : List Str := ["_law_item", "_law_is_quoted"]
theorem sc__law_item_text : FnScope N__law_item_text ["_law_item", "_law_is_quoted"] (defScope s__law_item_text) := ⟨rfl, rfl, rfl, by decide +kernel, rfl, by decide +kernel, by decide +kernel⟩
def sp_itext : Sp := fun vs H Q _ => ∃ (v : V) (it : Item) (A : List Addr) (b : Bool), vs = [v, .bl b] ∧ ItemR H v it A ∧ GoodItem it ∧ ∀ X, ItemTx it X → X = itemL b it → X.length ≤ 1600 → Tell H (.str (S' X)) Q
theorem ok_itext {f f1 f2 : Addr} {fd fd1 fd2 : FuncData} (F : Fun K "_law_item_text" "_law_item_text" s__law_item_text f fd) (T : Tx mg tk) (D__law_one_text : Def P w K mg base "_law_one_text" 5 f1 fd1 P__law_one_text sp_onetext) (D__law_called_text : Def P w K mg base "_law_called_text" 4 f2 fd2 P__law_called_text sp_ctext) : FnOk P w K mg base CX0 6 f fd P__law_item_text sp_itext := by
  refine F.ok sc__law_item_text (fun vs H Q E h => ?_) (fun cdv A outer s H vs Q E hr h => ?_)
  · obtain ⟨v, it, A, b, rfl, _⟩ := h
    rfl
  · have nd := sc__law_item_text.nd
    obtain ⟨v, it, A, b, rfl, hi, hg, q⟩ := h
    refine ⟨_, (pss_cons (ps_if (pt_cmpR op_eq (pe_ix (ixT K) (pv 0) pe_int (fun _ _ => rfl)) pe_str (nomark _))
        (pss_one (ps_ret (pe_def D__law_one_text (hr.mono (by decide)) (pa_cons (pv 0) (pa_cons (pv 1) pa_nil)))))
        pss_nil)
      (pss_cons (ps_set (i := 2) nd rfl (.inl rfl) (pe_join pe_str (pe_lc (own := [("_law_one_here", 3)]) (g := gName 3) (by rfl) nd (pi_list (pe_ix (ixT K) (pv 0) pe_int (fun _ _ => rfl))) (blkOk_by (N := N__law_item_text) (sc := defScope s__law_item_text) (by decide +kernel)) (fun _ _ _ _ _ => (pg_name (i := 3) nd rfl (Or.inl rfl))) (fun _ _ _ _ _ => pts_nil) (fun _ _ _ _ _ => (pe_def D__law_one_text (hr.mono (by decide)) (pa_cons (pv 3) (pa_cons (pv 1) pa_nil)))))))
      (pss_one (ps_ret (pe_op op_add_str (pe_op op_add_str (pe_op op_add_str (pe_def D__law_called_text (hr.mono (by decide)) (pa_cons (pe_ix (ixT K) (pv 0) pe_int (fun _ _ => rfl)) (pa_cons (pv 1) pa_nil))) pe_str) (pv 2)) pe_str))))), ?_⟩
    dsimp only [tSeq, tAsg]
    cases it with
    | one o =>
      obtain ⟨rfl, t, rfl, et⟩ := hi
      refine ifT true (fun k q1 => ⟨.ref t, rfl, t, _, 0, _, rfl, rfl, .inl (.inl et), rfl, rfl, _, rfl, TellB.eq one_ne.1 q1 _ (Same.refl _)⟩) (fun _ H1 s1 => ?_) (fun h => nomatch h)
      exact ⟨.ref t, rfl, _, rfl, t, o, b, rfl, s1 _ _ et, hg, fun X hX hXe hl H2 s2 => q X hX hXe (by omega) _ (s1.trans s2)⟩
    | grp u os =>
      obtain ⟨t, p, us, rfl, rfl, et, ep, hos⟩ := hi
      obtain ⟨hu, hall, hn⟩ := hg
      refine ifT false (fun k q1 => ⟨.ref t, rfl, t, _, 0, _, rfl, rfl, .inl (.inl et), rfl, rfl, _, rfl, TellB.eq one_ne.2.1 q1 _ (Same.refl _)⟩) (fun h => nomatch h) (fun _ H1 s1 => ?_)
      dsimp only [tNext, tSeq, tAsg]
      have et1 := s1 _ _ et
      have ep1 := s1 _ _ ep
      have hul := hos.len
      refine ⟨⟨_, rfl⟩, .ref t, rfl, t, _, 2, _, rfl, rfl, .inl (.inl et1), rfl, p, rfl, ⟨_, .inl (.inl ep1)⟩, fun D hD => lc_dem (fun i => us.getD i .non) (fun i v => ∃ X, (OneTx (os.getD i ([], [])) X ∧ X = oneL b (os.getD i ([], []))) ∧ X.length ≤ 140 ∧ v = .str (S' X)) walk_listF (fun H2 s2 => s2.seq (.inl (.inl ep1))) hD (by rw [sizeLine_eq]; omega) (fun i H2 Q2 hi s2 q2 => ?_) (fun H2 vs s2 hl hv e2 => ?_)⟩
      · rw [hul] at hi
        obtain ⟨ti, ei, hti⟩ := hos.at i hi
        rw [ei]
        have hgi : GoodOne (os.getD i ([], [])) := hall _ (by
          rw [List.getD_eq_getElem?_getD, List.getElem?_eq_getElem hi]
          exact List.getElem_mem hi)
        exact ⟨_, rfl, _, rfl, ti, _, b, rfl, s2 _ _ (s1 _ _ hti), hgi, fun X hX hXe hXl H3 s3 => q2 _ _ s3 ⟨X, ⟨hX, hXe⟩, hXl, rfl⟩⟩
      · rw [hul] at hl
        obtain ⟨Ts, h2, hk, rfl⟩ := pick_two (fun o X => OneTx o X ∧ X = oneL b o) 140 ([], []) os vs hl fun i hi => hv i (by omega)
        obtain ⟨h2, hTs⟩ := two_fun h2
        have hTl : Ts.length = os.length := h2.len.symm
        obtain ⟨j1, j2, j3⟩ := join_some Ts 140 10 hk (by omega)
        refine ⟨Str.ofString ", ", D, _, rfl, rfl, .inl (.inl (.inl e2)), by omega, ?_⟩
        rw [j2]
        dsimp only [gName, tSeq, tAsg]
        have l2 : (Str.ofString ": ").length = 2 := by decide +kernel
        have l1 : (Str.ofString ";").length = 1 := by decide +kernel
        refine ⟨.ref t, rfl, t, _, 1, _, rfl, rfl, .inl (.inl (s2 _ _ et1)), rfl, _, rfl, u, b, rfl, hu, fun N hN hNe hNl H3 s3 => ⟨_, _, rfl, rfl, by rw [len_S', l2, sizeLine_eq]; omega, _, rfl, _, _, rfl, rfl, by rw [len_app, len_S', l2, len_S', sizeLine_eq]; omega, _, _, rfl, rfl, by rw [len_app, len_app, len_S', l2, len_S', l1, sizeLine_eq]; omega, ?_⟩⟩
        have er : S' N ++ Str.ofString ": " ++ S' (TL.joinL [44, 32] Ts) ++ Str.ofString ";" = S' (N ++ ([58, 32] ++ (TL.joinL [44, 32] Ts ++ [59]))) := TL.ext_tl (by rw [TL.tl_append, TL.tl_append, TL.tl_append, tl_cosp, tl_semi, tl_S', tl_S', tl_S']; simp)
        show Q (.str (S' N ++ Str.ofString ": " ++ S' (TL.joinL [44, 32] Ts) ++ Str.ofString ";")) H3
        rw [er]
        refine q _ ⟨?_, N, hN, ?_⟩ (by show _ = calL b u ++ ([58, 32] ++ (TL.joinL [44, 32] (os.map (oneL b)) ++ [59])); rw [← hTs, hNe]) (by simp only [List.length_append, List.length_cons, List.length_nil]; omega) _ (s1.trans (s2.trans s3))
        · obtain ⟨_, g1, _⟩ := good_small hu
          intro h
          rw [h] at g1
          exact absurd g1 (by decide)
        · cases Ts with
          | nil =>
            rw [show os = [] from h2.nil]
            exact .inl ⟨rfl, rfl⟩
          | cons T0 Ts =>
            refine .inr ⟨T0, Ts, h2, by simp only [List.length_cons] at hTl; omega, ?_⟩
            rw [joinL_tail]
/-! ### _law_people_text -/
abbrev s__law_people_text : Stmt := topS 56
abbrev N__law_people_text : List Str := ["_law_people_here", "_law_is_quoted", "_law_item"]
abbrev P__law_people_text : List Str := ["_law_people_here", "_law_is_quoted"]
theorem sc__law_people_text : FnScope N__law_people_text ["_law_people_here", "_law_is_quoted"] (defScope s__law_people_text) := ⟨rfl, rfl, rfl, by decide +kernel, rfl, by decide +kernel, by decide +kernel⟩
def sp_ptext : Sp := fun vs H Q _ => ∃ (l : Addr) (us : List V) (xs : List Item) (As : List (List Addr)) (b : Bool), vs = [.ref l, .bl b] ∧ H l = some (.lst us) ∧ Rs ItemR H us xs As ∧ (∀ x ∈ xs, GoodItem x) ∧ xs ≠ [] ∧ xs.length ≤ 20 ∧ ∀ z T0 Ts, TL.tl z = T0 ++ tailT [44, 32] Ts → Two ItemTx xs (T0 :: Ts) → z = S' (TL.joinL [44, 32] (xs.map (itemL b))) → z.length ≤ 100000 → Tell H (.str z) Q
theorem ok_ptext {f f1 : Addr} {fd fd1 : FuncData} (F : Fun K "_law_people_text" "_law_people_text" s__law_people_text f fd) (T : Tx mg tk) (D__law_item_text : Def P w K mg base "_law_item_text" 6 f1 fd1 P__law_item_text sp_itext) : FnOk P w K mg base CX0 7 f fd P__law_people_text sp_ptext := by
  refine F.ok sc__law_people_text (fun vs H Q E h => ?_) (fun cdv A outer s H vs Q E hr h => ?_)
  · obtain ⟨l, us, xs, As, b, rfl, _⟩ := h
    rfl
  · have nd := sc__law_people_text.nd
    obtain ⟨l, us, xs, As, b, rfl, el, hrs, hg, hne, hn, q⟩ := h
    refine ⟨_, (pss_one (ps_ret (pe_join pe_str (pe_lc (own := [("_law_item", 2)]) (g := gName 2) (by rfl) nd (pi_list (pv 0)) (blkOk_by (N := N__law_people_text) (sc := defScope s__law_people_text) (by decide +kernel)) (fun _ _ _ _ _ => (pg_name (i := 2) nd rfl (Or.inl rfl))) (fun _ _ _ _ _ => pts_nil) (fun _ _ _ _ _ => (pe_def D__law_item_text (hr.mono (by decide)) (pa_cons (pv 2) (pa_cons (pv 1) pa_nil)))))))), ?_⟩
    have hul := hrs.len
    refine ⟨⟨_, rfl⟩, .ref l, rfl, l, rfl, ⟨_, .inl (.inl el)⟩, fun D hD => lc_dem (fun i => us.getD i .non) (fun i v => ∃ X, (ItemTx (xs.getD i (.grp [] [])) X ∧ X = itemL b (xs.getD i (.grp [] []))) ∧ X.length ≤ 1600 ∧ v = .str (S' X)) walk_listF (fun H2 s2 => s2.seq (.inl (.inl el))) hD (by rw [sizeLine_eq]; omega) (fun i H2 Q2 hi s2 q2 => ?_) (fun H2 vs s2 hl hv e2 => ?_)⟩
    · rw [hul] at hi
      have hr2 : Rs ItemR H2 us xs As := Rs.stab item_stab hrs (fun b ys hh => s2 _ _ hh) fun b hb => by
        obtain ⟨ys, hh⟩ := Rs.live item_live hrs b hb
        rw [hh]
        exact s2 _ _ hh
      have hgi : GoodItem (xs.getD i (.grp [] [])) := hg _ (by
        rw [List.getD_eq_getElem?_getD, List.getElem?_eq_getElem hi]
        exact List.getElem_mem hi)
      exact ⟨_, rfl, _, rfl, _, _, _, b, rfl, hr2.at _ i hi, hgi, fun X hX hXe hXl H3 s3 => q2 _ _ s3 ⟨X, ⟨hX, hXe⟩, hXl, rfl⟩⟩
    · rw [hul] at hl
      obtain ⟨Ts, h2, hk, rfl⟩ := pick_two (fun it X => ItemTx it X ∧ X = itemL b it) 1600 (.grp [] []) xs vs hl fun i hi => hv i (by omega)
      obtain ⟨h2, hTs⟩ := two_fun h2
      have hTl : Ts.length = xs.length := h2.len.symm
      obtain ⟨j1, j2, j3⟩ := join_some Ts 1600 20 hk (by omega)
      refine ⟨Str.ofString ", ", D, _, rfl, rfl, .inl (.inl (.inl e2)), by omega, ?_⟩
      rw [j2]
      cases Ts with
      | nil => exact absurd h2.nil hne
      | cons T0 Ts => exact q _ T0 Ts (by rw [tl_S', joinL_tail]) h2 (by rw [hTs]) (by rw [len_S']; omega) _ s2
end
end K15

namespace K15
open PySem PySem.Spec PyProof.Rows L2 LH
/-! ### people as data; changed, copied -/
def Fine (it : Item) : Prop := match it with
  | .one o => GoodOne o
  | .grp u os => GoodName u ∧ ∀ o ∈ os, GoodOne o
theorem GoodItem.fine {it : Item} (h : GoodItem it) : Fine it := by
  cases it with
  | one o => exact h
  | grp u os => exact ⟨h.1, h.2.1⟩
def dOne (o : List Nat × List Nat) : PyData := .tuple [.str (Str.ofString "one"), .str (S' o.1), .str (S' o.2)]
def dItem (it : Item) : PyData := match it with
  | .one o => dOne o
  | .grp u os => .tuple [.str (Str.ofString "group"), .str (S' u), .list (os.map dOne)]
theorem oks_S {l : List Nat} (h : ∀ c ∈ l, c < 128) : OkS (S' l) := fun c hc => by
  have := h c hc
  omega
theorem oks_lit {x : Str} (h : (TL.tl x).all (fun c => decide (c < 128)) = true) : OkS x := fun c hc => by
  have := of_decide_eq_true (List.all_eq_true.mp h c hc)
  omega
theorem loc_small : ∀ x ∈ TL.tl LOCALT, x < 128 := by decide +kernel
theorem hou_small : ∀ x ∈ TL.tl HOUSET, x < 128 := by decide +kernel
theorem tail_small {s : Nat} (h : s < 128) : ∀ hs : List (List Nat), (∀ x ∈ hs, ∀ c ∈ x, c < 128) → ∀ c ∈ tailT [s] hs, c < 128
  | [], _, c, hc => by cases hc
  | x :: r, hh, c, hc => by
    rw [tailT_cons] at hc
    rcases List.mem_append.mp hc with hc | hc
    · rcases List.mem_append.mp hc with hc | hc
      · rw [List.mem_singleton.mp hc]; exact h
      · exact hh x (List.mem_cons_self ..) c hc
    · exact tail_small h r (fun y hy => hh y (List.mem_cons_of_mem _ hy)) c hc
theorem addr_small {ad : List Nat} (h : GoodAddr ad) : ∀ c ∈ ad, c < 128 := by
  obtain ⟨lo, g, hs, rfl, l, hg, hn, hall⟩ := h
  intro c hc
  rcases List.mem_append.mp hc with hc | hc
  · exact loc_small c (l.2.2 c hc)
  · rcases List.mem_cons.mp hc with rfl | hc
    · decide
    · rcases List.mem_append.mp hc with hc | hc
      · exact hou_small c (hg.2.2 c hc)
      · exact tail_small (by decide) hs (fun x hx c hc => hou_small c ((hall x hx).2.2 c hc)) c hc
theorem name_small {u : List Nat} (h : u = [] ∨ GoodName u) : ∀ c ∈ u, c < 128 := by
  rcases h with rfl | h
  · intro c hc; cases hc
  · exact (good_small h).1
theorem lay_one {o : List Nat × List Nat} (h : GoodOne o) : (dOne o).canLay0 = true := by
  have h1 := strOk_of (Str.ofString "one") (oks_lit (by decide +kernel))
  have h2 := strOk_of (S' o.1) (oks_S (name_small h.1))
  have h3 := strOk_of (S' o.2) (oks_S (addr_small h.2))
  simp [dOne, PyData.canLay0, PyData.canLayAll0, h1, h2, h3]
theorem lay_ones : ∀ os : List (List Nat × List Nat), (∀ o ∈ os, GoodOne o) → PyData.canLayAll0 (os.map dOne) = true
  | [], _ => by simp [PyData.canLayAll0]
  | o :: os, h => by
    show PyData.canLayAll0 (dOne o :: os.map dOne) = true
    simp [PyData.canLayAll0, lay_one (h o (List.mem_cons_self ..)), lay_ones os fun x hx => h x (List.mem_cons_of_mem _ hx)]
theorem lay_item {it : Item} (h : Fine it) : (dItem it).canLay0 = true := by
  cases it with
  | one o => exact lay_one h
  | grp u os =>
    have h1 := strOk_of (Str.ofString "group") (oks_lit (by decide +kernel))
    have h2 := strOk_of (S' u) (oks_S (good_small h.1).1)
    simp [dItem, PyData.canLay0, PyData.canLayAll0, h1, h2, lay_ones os h.2]
theorem lay_items : ∀ xs : List Item, (∀ x ∈ xs, Fine x) → PyData.canLayAll0 (xs.map dItem) = true
  | [], _ => by simp [PyData.canLayAll0]
  | x :: xs, h => by
    show PyData.canLayAll0 (dItem x :: xs.map dItem) = true
    simp [PyData.canLayAll0, lay_item (h x (List.mem_cons_self ..)), lay_items xs fun y hy => h y (List.mem_cons_of_mem _ hy)]
theorem depth_ones : ∀ os : List (List Nat × List Nat), PyData.depthAll (os.map dOne) ≤ 1
  | [] => by simp [PyData.depthAll]
  | o :: os => by
    have := depth_ones os
    show PyData.depthAll (dOne o :: os.map dOne) ≤ 1
    simp [PyData.depthAll, PyData.depth, dOne]
    omega
theorem depth_items : ∀ xs : List Item, PyData.depthAll (xs.map dItem) ≤ 3
  | [] => by simp [PyData.depthAll]
  | x :: xs => by
    have := depth_items xs
    show PyData.depthAll (dItem x :: xs.map dItem) ≤ 3
    cases x with
    | one o =>
      simp [PyData.depthAll, PyData.depth, dOne, dItem]
      omega
    | grp u os =>
      have := depth_ones os
      simp [PyData.depthAll, PyData.depth, dItem]
      omega
theorem shaped_items {xs : List Item} (h : ∀ x ∈ xs, Fine x) : SeqAt.shaped (.list (xs.map dItem)) = true := by
  have := depth_items xs
  simp [SeqAt.shaped, PyData.canLay0, PyData.depth, lay_items xs h]
  omega
theorem eqv_items {xs : List Item} (h : ∀ x ∈ xs, Fine x) : PyData.eqv (.list (xs.map dItem)) (.list (xs.map dItem)) = true := SeqAt.eqv_refl _ (SeqAt.canLay_of_shaped (shaped_items h))
theorem dp_ones {K : PySem.W.Frag} {H : Hp} : ∀ {vs : List V} {os : List (List Nat × List Nat)}, OnesR H vs os → DpAll K H vs (os.map dOne)
  | [], [], _ => .nil
  | v :: vs, o :: os, h => by
    obtain ⟨t, rfl, ht⟩ := h.1
    exact .cons (.tup (.inl (.inl ht)) (.cons (.str _) (.cons (.str _) (.cons (.str _) .nil)))) (dp_ones h.2)
  | [], _ :: _, h => h.elim
  | _ :: _, [], h => h.elim
theorem dp_item {K : PySem.W.Frag} {H : Hp} {v : V} {it : Item} {A : List Addr} (h : ItemR H v it A) : Dp K H v (dItem it) := by
  cases it with
  | one o =>
    obtain ⟨_, t, rfl, ht⟩ := h
    exact .tup (.inl (.inl ht)) (.cons (.str _) (.cons (.str _) (.cons (.str _) .nil)))
  | grp u os =>
    obtain ⟨t, p, vs, _, rfl, ht, hp, ho⟩ := h
    exact .tup (.inl (.inl ht)) (.cons (.str _) (.cons (.str _) (.cons (.lst (.inl (.inl hp)) (dp_ones ho)) .nil)))
theorem dp_items {K : PySem.W.Frag} {H : Hp} : ∀ {vs : List V} {xs : List Item} {As : List (List Addr)}, Rs ItemR H vs xs As → DpAll K H vs (xs.map dItem)
  | [], [], [], _ => .nil
  | _ :: _, _ :: _, _ :: _, h => .cons (dp_item h.1) (dp_items h.2)
  | [], [], _ :: _, h => h.elim
  | [], _ :: _, _, h => h.elim
  | _ :: _, [], _, h => h.elim
  | _ :: _, _ :: _, [], h => h.elim
def rListOf (K : PySem.W.Frag) : List V → Hp → (V → Hp → Prop) → Prop := fun xs H Q => ∃ p ys, xs = [V.ref p] ∧ (SqL K H p ys ∨ SqT K H p ys) ∧ ∀ l, H l = none → Q (.ref l) (upd H l (.lst ys))
theorem cListOf (K : PySem.W.Frag) {X : Cx} (h : X.K = K := by rfl) : CallR X (.type "list") (rListOf K) := h ▸ call_list_of
theorem catT (K : PySem.W.Frag) {X : Cx} (h : X.K = K := by rfl) : OpR X (binaryOp .Add) (rCatT K) := h ▸ op_catT
/-- one of them put otherwise, the others as they are -/
theorem Rs.put {β : Type} {ER : Hp → V → β → List Addr → Prop} (st : Stab ER) {H H' : Hp} : ∀ {us : List V} {xs : List β} {As : List (List Addr)} (i : Nat) (x : β), Rs ER H us xs As → i < xs.length → As.flatten.Nodup → (∀ b ys, H b = some (.tup ys) → H' b = some (.tup ys)) → (∀ b ∈ As.flatten, b ∉ As.getD i [] → H' b = H b) → ER H' (us.getD i .non) x (As.getD i []) → Rs ER H' us (xs.set i x) As
  | u :: us, y :: ys, A :: As, 0, x, h, _, nd, ht, ha, hx => by
    refine ⟨hx, Rs.stab st h.2 ht fun b hb => ha b (by rw [List.flatten_cons]; exact List.mem_append_right _ hb) fun hbA => ?_⟩
    rw [List.flatten_cons] at nd
    exact (List.nodup_append.mp nd).2.2 b hbA b hb rfl
  | u :: us, y :: ys, A :: As, i + 1, x, h, hi, nd, ht, ha, hx => by
    rw [List.flatten_cons] at nd
    have nd3 := (List.nodup_append.mp nd).2.2
    have hsub : ∀ b ∈ As.getD i [], b ∈ As.flatten := fun b hb => by
      rw [List.getD_eq_getElem?_getD] at hb
      cases hh : As[i]? with
      | none => rw [hh] at hb; cases hb
      | some B => rw [hh] at hb; exact List.mem_flatten.mpr ⟨B, List.mem_of_getElem? hh, hb⟩
    refine ⟨st H H' u y A h.1 ht fun b hb => ha b (by rw [List.flatten_cons]; exact List.mem_append_left _ hb) fun hb2 => nd3 b hb b (hsub b hb2) rfl, Rs.put st i x h.2 (Nat.lt_of_succ_lt_succ hi) (List.nodup_append.mp nd).2.1 ht (fun b hb hn => ha b (by rw [List.flatten_cons]; exact List.mem_append_right _ hb) hn) hx⟩
  | [], [], [], _, _, _, h, _, _, _, _ => absurd h (Nat.not_lt_zero _)
  | [], [], _ :: _, _, _, h, _, _, _, _, _ => h.elim
  | [], _ :: _, _, _, _, h, _, _, _, _, _ => h.elim
  | _ :: _, [], _, _, _, h, _, _, _, _, _ => h.elim
  | _ :: _, _ :: _, [], _, _, h, _, _, _, _, _ => h.elim
theorem OnesR.app {H : Hp} {v : V} {o : List Nat × List Nat} (h1 : ∃ t, v = .ref t ∧ H t = some (.tup (oneF o))) : ∀ {vs : List V} {os : List (List Nat × List Nat)}, OnesR H vs os → OnesR H (vs ++ [v]) (os ++ [o])
  | [], [], _ => ⟨h1, trivial⟩
  | _ :: _, _ :: _, h => ⟨h.1, OnesR.app h1 h.2⟩
  | [], _ :: _, h => h.elim
  | _ :: _, [], h => h.elim
/-- a comprehension whose elements are new things -/
theorem lc_rs {β : Type} {ER : Hp → V → β → List Addr → Prop} (st : Stab ER) (lv : Live ER) (Pe : Nat → β → Prop) (db : β) {J : It} {n : Nat} {G : Hp → Prop} {te : TE} {c : Nat} {σ : L2.St} {H1 : Hp} {D : Addr} {Qd : Hp → Prop} (src : Nat → V) (w : Walk J n G (YFn src)) (hG : ∀ H, Same H1 H → G H) (hD : H1 D = none) (hn : n ≤ sizeLine)
    (he : ∀ i H Q, i < n → Same H1 H → (∀ H' v x A, Same H H' → Pe i x → ER H' v x A → (∀ b ∈ A, H b = none) → A.Nodup → Q v H') → te ((σ.set c none).set c (some (src i))) H Q)
    (hd : ∀ H vs xs As, Same H1 H → xs.length = n → (∀ i, i < n → Pe i (xs.getD i db)) → Rs ER H vs xs As → (∀ b ∈ As.flatten, H1 b = none ∧ b ≠ D) → As.flatten.Nodup → H D = some (.lst vs) → Qd H) :
    ∃ W : Nat → Nat → Hp → Prop, (∃ m, W 0 m (upd H1 D (.lst []))) ∧ ∀ i m H, W i m H →
      (J.stop i H ∧ Qd H) ∨ (J.go i H ∧ ∃ Nx : Hp → Prop, (∀ H', Nx H' → ∃ m', m' < m ∧ W (i + 1) m' H') ∧ ∀ x H', J.yld i H x H' → gName c x (wipe σ [c]) H' fun σ2 H2 => wipe σ2 [c] = wipe σ [c] ∧ tYes σ2 H2 fun b H3 =>
        if b = true then te σ2 H3 fun y H4 => ∃ acc, H4 D = some (.lst acc) ∧ acc.length < sizeLine ∧ Nx (upd H4 D (.lst (acc ++ [y]))) else Nx H3) := by
  refine lc_it w (fun i H => Same H1 H ∧ ∃ (vs : List V) (xs : List β) (As : List (List Addr)), xs.length = i ∧ (∀ j, j < i → Pe j (xs.getD j db)) ∧ Rs ER H vs xs As ∧ (∀ b ∈ As.flatten, H1 b = none ∧ b ≠ D) ∧ As.flatten.Nodup ∧ H D = some (.lst vs)) ⟨same_upd hD, [], [], [], rfl, (fun j hj => absurd hj (Nat.not_lt_zero j)), trivial, (fun b hb => by cases hb), List.nodup_nil, upd_same⟩ (fun i H _ h => hG H h.1) (fun i x H H' hi hP hy => ?_) (fun H h => by
    obtain ⟨sm, vs, xs, As, h1, h2, h3, h4, h5, h6⟩ := h
    exact hd H vs xs As sm h1 h2 h3 h4 h5 h6)
  obtain ⟨sm, vs, xs, As, hl, hv, hrs, hfr, hnd, eD⟩ := hP
  obtain ⟨rfl, rfl⟩ := hy
  refine ⟨?_, ?_⟩
  rotate_left
  · unfold tYes
    dsimp only
    rw [if_pos rfl]
    refine he i H' _ hi sm fun H3 v x A s3 px er fr ndA => ⟨_, s3 _ _ eD, ?_, ?_, vs ++ [v], xs ++ [x], As ++ [A], ?_, ?_, ?_, ?_, ?_, upd_same⟩
    · rw [hrs.len]; omega
    · intro b' o hb'
      rw [upd_ne (ne_of_none hb' hD)]
      exact s3 _ _ (sm _ _ hb')
    · rw [List.length_append, hl]; rfl
    · intro j hj
      by_cases hj2 : j < i
      · rw [getD_app_l _ _ _ (by omega)]
        exact hv j hj2
      · have : j = i := by omega
        subst this
        rw [getD_app_r _ _ _ (by omega), hl, Nat.sub_self]
        exact px
    · have hAD : ∀ b ∈ A, b ≠ D := fun b hb e => by have := fr b hb; rw [e, eD] at this; exact nomatch this
      refine Rs.app (st _ _ _ _ _ er (fun b ys hh => ?_) fun b hb => upd_ne (hAD b hb)) (Rs.stab st hrs (fun b ys hh => ?_) fun b hb => ?_)
      · rw [upd_ne (fun e => by rw [e, s3 _ _ eD] at hh; exact nomatch hh)]
        exact hh
      · rw [upd_ne (fun e => by rw [e, eD] at hh; exact nomatch hh)]
        exact s3 _ _ hh
      · obtain ⟨ys, hh⟩ := Rs.live lv hrs b hb
        rw [upd_ne (hfr b hb).2, hh]
        exact s3 _ _ hh
    · intro b hb
      rw [List.flatten_append] at hb
      rcases List.mem_append.mp hb with hb | hb
      · exact hfr b hb
      · have hb : b ∈ A := by simpa using hb
        exact ⟨sm.free (fr b hb), fun e => by have := fr b hb; rw [e, eD] at this; exact nomatch this⟩
    · rw [List.flatten_append]
      refine List.nodup_append.mpr ⟨hnd, by simpa using ndA, fun b hb c hc hbc => ?_⟩
      have hc : c ∈ A := by simpa using hc
      obtain ⟨ys, hh⟩ := Rs.live lv hrs b hb
      rw [hbc, fr c hc] at hh
      exact nomatch hh
  · show (((σ.set c none).set c (some (src i))).set c none) = σ.set c none
    rw [List.set_set, List.set_set]
section
variable {P : Program} {w : World} {K : PySem.W.Frag} {mg : Str → Option Value} {base : Heap} {tk : Nat → Tok} {ca : Nat → Addr} {C : Addr}
/-! ### _law_copied -/
abbrev s__law_copied : Stmt := topS 57
abbrev N__law_copied : List Str := ["_law_people_here", "_law_item"]
abbrev P__law_copied : List Str := ["_law_people_here"]
theorem sc__law_copied : FnScope N__law_copied ["_law_people_here"] (defScope s__law_copied) := ⟨rfl, rfl, rfl, by decide +kernel, rfl, by decide +kernel, by decide +kernel⟩
def sp_copied : Sp := fun vs H Q _ => ∃ (l : Addr) (us : List V) (xs : List Item) (As : List (List Addr)), vs = [.ref l] ∧ H l = some (.lst us) ∧ Rs ItemR H us xs As ∧ xs.length ≤ 1000 ∧
  ∀ H' D vs' As', Same H H' → H D = none → H' D = some (.lst vs') → Rs ItemR H' vs' xs As' → (∀ b ∈ As'.flatten, H b = none ∧ b ≠ D) → As'.flatten.Nodup → Q (.ref D) H'
theorem ok_copied {f : Addr} {fd : FuncData} {k : Nat} (F : Fun K "_law_copied" "_law_copied" s__law_copied f fd) (T : Tx mg tk) : FnOk P w K mg base CX0 (k + 1) f fd P__law_copied sp_copied := by
  refine F.ok sc__law_copied (fun vs H Q E h => ?_) (fun cdv A outer s H vs Q E hr h => ?_)
  · obtain ⟨l, us, xs, As, rfl, _⟩ := h
    rfl
  · have nd := sc__law_copied.nd
    obtain ⟨l, us, xs, As, rfl, el, hrs, hn, q⟩ := h
    refine ⟨_, (pss_one (ps_ret (pe_lc (own := [("_law_item", 1)]) (g := gName 1) (by rfl) nd (pi_list (pv 0)) (blkOk_by (N := N__law_copied) (sc := defScope s__law_copied) (by decide +kernel)) (fun _ _ _ _ _ => (pg_name (i := 1) nd rfl (Or.inl rfl))) (fun _ _ _ _ _ => pts_nil) (fun _ _ _ _ _ => (pe_ifExp (pt_cmpR op_eq (pe_ix (ixT K) (pv 1) pe_int (fun _ _ => rfl)) pe_str (nomark _)) (pe_op (catT K) (pe_slice (slA K) (pv 1) po_none (po_some pe_int)) (pe_tup (pa_cons (pe_callTy (cListOf K) (by rfl) T.n_list (by decide +kernel) (pa_cons (pe_ix (ixT K) (pv 1) pe_int (fun _ _ => rfl)) pa_nil)) pa_nil))) (pv 1)))))), ?_⟩
    have hul := hrs.len
    refine ⟨.ref l, rfl, l, rfl, ⟨_, .inl (.inl el)⟩, fun D hD => lc_rs item_stab item_live (fun i x => x = xs.getD i (.grp [] [])) (.grp [] []) (fun i => us.getD i .non) walk_listF (fun H2 s2 => s2.seq (.inl (.inl el))) hD (by rw [sizeLine_eq]; omega) (fun i H2 Q2 hi s2 q2 => ?_) (fun H2 vs ys As' s2 hl hv hr2 hfr hnd e2 => ?_)⟩
    · rw [hul] at hi
      have hr2 : Rs ItemR H2 us xs As := Rs.stab item_stab hrs (fun b ys hh => s2 _ _ hh) fun b hb => by
        obtain ⟨ys, hh⟩ := Rs.live item_live hrs b hb
        rw [hh]
        exact s2 _ _ hh
      have hit := hr2.at (.grp [] []) i hi
      generalize us.getD i .non = v at *
      generalize As.getD i [] = A at *
      generalize xs.getD i (.grp [] []) = it at *
      cases it with
      | one o =>
        obtain ⟨rfl, t, rfl, et⟩ := hit
        refine ⟨.ref t, rfl, t, _, 0, _, rfl, rfl, .inl (.inl et), rfl, rfl, _, rfl, ?_⟩
        rw [one_ne.2.2.1]
        exact iteF ⟨.ref t, rfl, q2 _ _ _ [] (Same.refl _) rfl ⟨rfl, t, rfl, et⟩ (fun b hb => by cases hb) List.nodup_nil⟩
      | grp u os =>
        obtain ⟨t, p, ws, rfl, rfl, et, ep, hos⟩ := hit
        refine ⟨.ref t, rfl, t, _, 0, _, rfl, rfl, .inl (.inl et), rfl, rfl, _, rfl, ?_⟩
        rw [one_ne.2.2.2]
        refine iteT ?_
        dsimp only [tOp, tSl, tNoPart, tPart, tC]
        refine ⟨.ref t, rfl, 2, rfl, t, _, rfl, .inl (.inl et), fun hz => absurd hz.2 (show ¬((2:Nat) = 3) by decide), fun _ a ha => ?_⟩
        dsimp only [tTup, tCons, tCB, tOp, tNil, rCatT]
        have sa : Same H2 (upd H2 a (.tup (cutV (grpF u p) none (some 2)))) := same_upd ha
        generalize eH3 : upd H2 a (.tup (cutV (grpF u p) none (some 2))) = H3 at sa ⊢
        have ea : H3 a = some (.tup [.str (Str.ofString "group"), .str (S' u)]) := by rw [← eH3]; exact upd_same
        refine ⟨.ref t, rfl, t, _, 2, _, rfl, rfl, .inl (.inl (sa t _ et)), rfl, p, ws, rfl, .inl (.inl (.inl (sa p _ ep))), fun p2 hp2 => ⟨by rw [sizeLine_eq]; exact (by decide : (1 : Nat) ≤ 16777216), fun c hc => ?_⟩⟩
        have sb : Same H3 (upd H3 p2 (.lst ws)) := same_upd hp2
        have eb : upd H3 p2 (.lst ws) p2 = some (.lst ws) := upd_same
        generalize upd H3 p2 (.lst ws) = H4 at sb eb hc ⊢
        have sc : Same H4 (upd H4 c (.tup [.ref p2])) := same_upd hc
        have ec : upd H4 c (.tup [.ref p2]) c = some (.tup [.ref p2]) := upd_same
        generalize upd H4 c (.tup [.ref p2]) = H5 at sc ec ⊢
        refine ⟨a, c, _, _, rfl, rfl, .inl (.inl (sc _ _ (sb _ _ ea))), .inl (.inl ec), List.cons_ne_nil _ _, by rw [sizeLine_eq]; exact (by decide : (3 : Nat) ≤ 16777216), fun e => absurd e (List.cons_ne_nil _ _), fun _ g hg => ?_⟩
        have sg : Same H5 (upd H5 g (.tup ([.str (Str.ofString "group"), .str (S' u)] ++ [.ref p2]))) := same_upd hg
        have eg : upd H5 g (.tup ([.str (Str.ofString "group"), .str (S' u)] ++ [.ref p2])) g = some (.tup (grpF u p2)) := upd_same
        refine q2 _ _ _ [p2] (((sa.trans sb).trans sc).trans sg) rfl ⟨g, p2, ws, rfl, rfl, eg, sg _ _ (sc _ _ eb), ?_⟩ (fun b hb => ?_) (List.nodup_cons.mpr ⟨List.not_mem_nil, List.nodup_nil⟩)
        · exact OnesR.stab (fun b ys hh => (((sa.trans sb).trans sc).trans sg) _ _ hh) hos
        · rw [List.mem_singleton.mp hb]
          exact sa.free hp2
    · exact q H2 D vs As' s2 hD e2 (by
        have : ys = xs := by
          refine List.ext_getElem? fun j => ?_
          by_cases hj : j < us.length
          · have := hv j hj
            rw [List.getD_eq_getElem?_getD, List.getD_eq_getElem?_getD, List.getElem?_eq_getElem (by omega), List.getElem?_eq_getElem (by omega)] at this
            rw [List.getElem?_eq_getElem (by omega), List.getElem?_eq_getElem (by omega)]
            simpa using this
          · rw [List.getElem?_eq_none (by omega), List.getElem?_eq_none (by omega)]
        rw [← this]; exact hr2) hfr hnd
end
end K15

namespace K15
open PySem PySem.Spec PyProof.Rows L2 LH
/-! ### what a caller changes in a told list -/
def chg1 : Item → Item
  | .one o => .one o
  | .grp u os => .grp u (os ++ [([], [122, 64, 122])])
def chgN : Nat → List Item → List Item
  | 0, xs => xs
  | _ + 1, [] => []
  | i + 1, x :: xs => chg1 x :: chgN i xs
def chg (xs : List Item) : List Item := xs.map chg1 ++ [.one ([], [122, 64, 122])]
theorem chgN_len : ∀ (i : Nat) (xs : List Item), (chgN i xs).length = xs.length
  | 0, _ => rfl
  | _ + 1, [] => rfl
  | i + 1, _ :: xs => congrArg (· + 1) (chgN_len i xs)
theorem chgN_all : ∀ xs : List Item, chgN xs.length xs = xs.map chg1
  | [] => rfl
  | x :: xs => congrArg (chg1 x :: ·) (chgN_all xs)
theorem chgN_at (d : Item) : ∀ (i : Nat) (xs : List Item), (chgN i xs).getD i d = xs.getD i d
  | 0, _ => rfl
  | _ + 1, [] => rfl
  | i + 1, _ :: xs => chgN_at d i xs
theorem chgN_set (d : Item) : ∀ (i : Nat) (xs : List Item), i < xs.length → (chgN i xs).set i (chg1 (xs.getD i d)) = chgN (i + 1) xs
  | _, [], h => absurd h (Nat.not_lt_zero _)
  | 0, x :: xs, _ => rfl
  | i + 1, x :: xs, h => congrArg (chg1 x :: ·) (chgN_set d i xs (Nat.lt_of_succ_lt_succ h))
theorem zz_good : GoodAddr [122, 64, 122] := ⟨[122], [122], [], rfl, ⟨by decide, by decide, by decide +kernel⟩, ⟨by decide, by decide, by decide +kernel⟩, by decide, fun x h => by cases h⟩
theorem zz_one : GoodOne ([], [122, 64, 122]) := ⟨.inl rfl, zz_good⟩
theorem chg1_fine {x : Item} (h : Fine x) : Fine (chg1 x) := by
  cases x with
  | one o => exact h
  | grp u os =>
    refine ⟨h.1, fun o ho => ?_⟩
    rcases List.mem_append.mp ho with ho | ho
    · exact h.2 o ho
    · rw [List.mem_singleton.mp ho]; exact zz_one
theorem chg_fine {xs : List Item} (h : ∀ x ∈ xs, Fine x) : ∀ x ∈ chg xs, Fine x := by
  intro x hx
  rcases List.mem_append.mp hx with hx | hx
  · obtain ⟨y, hy, rfl⟩ := List.mem_map.mp hx
    exact chg1_fine (h y hy)
  · rw [List.mem_singleton.mp hx]; exact zz_one
theorem zz_F : [V.str (Str.ofString "one"), .str (Str.ofString ""), .str (Str.ofString "z@z")] = oneF ([], [122, 64, 122]) := by
  have h1 : Str.ofString "" = S' [] := TL.ext_tl (by decide +kernel)
  have h2 : Str.ofString "z@z" = S' [122, 64, 122] := TL.ext_tl (by decide +kernel)
  unfold oneF
  rw [h1, h2]
theorem Rs.up {H H' : Hp} {us : List V} {xs : List Item} {As : List (List Addr)} (h : Rs ItemR H us xs As) (sm : Same H H') : Rs ItemR H' us xs As := Rs.stab item_stab h (fun b ys hh => sm _ _ hh) fun b hb => by
  obtain ⟨ys, hh⟩ := Rs.live item_live h b hb
  rw [hh]
  exact sm _ _ hh
theorem at_flat {As : List (List Addr)} {i : Nat} {b : Addr} (hb : b ∈ As.getD i []) : b ∈ As.flatten := by
  rw [List.getD_eq_getElem?_getD] at hb
  cases hh : As[i]? with
  | none => rw [hh] at hb; cases hb
  | some B => rw [hh] at hb; exact List.mem_flatten.mpr ⟨B, List.mem_of_getElem? hh, hb⟩
section
variable {P : Program} {w : World} {K : PySem.W.Frag} {mg : Str → Option Value} {base : Heap} {tk : Nat → Tok} {ca : Nat → Addr} {C : Addr}
/-! ### _law_people_right -/
abbrev s__law_people_right : Stmt := topS 58
abbrev N__law_people_right : List Str := ["_law_found", "_law_due", "_law_item"]
abbrev P__law_people_right : List Str := ["_law_found", "_law_due"]
theorem sc__law_people_right : FnScope N__law_people_right ["_law_found", "_law_due"] (defScope s__law_people_right) := ⟨rfl, rfl, rfl, by decide +kernel, rfl, by decide +kernel, by decide +kernel⟩
def sp_right : Sp := fun vs H Q _ => ∃ (lf ld : Addr) (us ws : List V) (xs : List Item) (As Bs : List (List Addr)), vs = [.ref lf, .ref ld] ∧ H lf = some (.lst us) ∧ H ld = some (.lst ws) ∧ Rs ItemR H us xs As ∧ Rs ItemR H ws xs Bs ∧ xs.length ≤ 1000 ∧ (∀ x ∈ xs, Fine x) ∧ Tell H (.bl true) Q
theorem ok_right {f : Addr} {fd : FuncData} (F : Fun K "_law_people_right" "_law_people_right" s__law_people_right f fd) (T : Tx mg tk) : FnOk P w K mg base CX0 1 f fd P__law_people_right sp_right := by
  refine F.ok sc__law_people_right (fun vs H Q E h => ?_) (fun cdv A outer s H vs Q E hr h => ?_)
  · obtain ⟨lf, ld, us, ws, xs, As, Bs, rfl, _⟩ := h
    rfl
  · have nd := sc__law_people_right.nd
    obtain ⟨lf, ld, us, ws, xs, As, Bs, rfl, ef, ed, hf, hd, hn, hfi, q⟩ := h
    refine ⟨_, (pss_cons (ps_if (PW.pt (pw_or (pt_not (pt_val (pe_callB (cIsi K) (by rfl) T.n_isinstance (by decide +kernel) (pa_cons (pv 0) (pa_cons (pe_bltn (v := .ty "list") (by rfl) T.n_list (by decide +kernel) rfl) pa_nil))))) (pw_or1 (pt_cmpR (oNeD K hr.units) (pv 0) (pv 1) (nomark _)))))
        (pss_one (ps_ret pe_bl))
        pss_nil)
      (pss_cons (ps_for PassesOwn.never rfl (pi_list (pv 0)) (pg_name (i := 2) nd rfl (Or.inl rfl))
        (pss_one (ps_if (PW.pt (pw_or (pt_not (pt_val (pe_callB (cIsi K) (by rfl) T.n_isinstance (by decide +kernel) (pa_cons (pv 2) (pa_cons (pe_bltn (v := .ty "tuple") (by rfl) T.n_tuple (by decide +kernel) rfl) pa_nil))))) (pw_or1 (PW.pt (pw_and (pt_cmpR op_eq (pe_ix (ixT K) (pv 2) pe_int (fun _ _ => rfl)) pe_str (nomark _)) (pw_and1 (pt_not (pt_val (pe_callB (cIsi K) (by rfl) T.n_isinstance (by decide +kernel) (pa_cons (pe_ix (ixT K) (pv 2) pe_int (fun _ _ => rfl)) (pa_cons (pe_bltn (v := .ty "list") (by rfl) T.n_list (by decide +kernel) rfl) pa_nil)))))))))))
          (pss_one (ps_ret pe_bl))
          pss_nil)))
      (pss_one (ps_ret pe_bl)))), ?_⟩
    have hul := hf.len
    refine ifT false (fun k q1 => orT false false (fun k q2 => notT true (fun k q3 => ⟨.ref lf, rfl, .ref lf, .ty "list", _, _, true, rfl, .ty _, .base (.lst ef), kit_ty (by decide +kernel), true, rfl, q3 _ (Same.refl _)⟩) q2) (fun _ H1 k s1 q2 => ⟨.ref lf, rfl, .ref ld, rfl, _, _, .lst (.inl (.inl (s1 _ _ ef))) (dp_items (hf.up s1)), .lst (.inl (.inl (s1 _ _ ed))) (dp_items (hd.up s1)), shaped_items hfi, shaped_items hfi, _, rfl, TellB.eq (congrArg (! ·) (eqv_items hfi)) q2 _ (Same.refl _)⟩) q1) (fun h => nomatch h) (fun _ H1 s1 => ?_)
    dsimp only [tNext, tSeq]
    refine ⟨.ref lf, rfl, lf, rfl, ⟨us, .inl (.inl (s1 _ _ ef))⟩, for_it (walk_listF (xs := us)) (fun i σ H' => ∃ y2 : Option V, σ = [some (.ref lf), some (.ref ld), y2] ∧ Same H H') ⟨none, rfl, s1⟩ (fun i σ H' _ h => by obtain ⟨_, rfl, sm⟩ := h; exact .inl (.inl (sm _ _ ef))) (fun i x σ H1 H2 hi hP hy => ?_) (fun σ H1 hP => ?_)⟩
    · obtain ⟨_, rfl, sm⟩ := hP
      obtain ⟨rfl, rfl⟩ := hy
      rw [hul] at hi
      have hit := (hf.up sm).at (.grp [] []) i hi
      have key : ∀ H3, Same H H3 → ∃ y2 : Option V, [some (V.ref lf), some (.ref ld), some (us.getD i .non)] = [some (V.ref lf), some (.ref ld), y2] ∧ Same H H3 := fun H3 s3 => ⟨_, rfl, s3⟩
      show tIfS _ _ _ _ [some (V.ref lf), some (.ref ld), some (us.getD i .non)] _
      generalize us.getD i .non = v at *
      generalize As.getD i [] = A at *
      generalize xs.getD i (.grp [] []) = it at *
      refine ifT false (fun k q1 => ?_) (fun h => nomatch h) (fun _ H3 s3 => key H3 (sm.trans s3))
      cases it with
      | one o =>
        obtain ⟨rfl, t, rfl, et⟩ := hit
        refine orT false false (fun k q2 => notT true (fun k q3 => ⟨.ref t, rfl, .ref t, .ty "tuple", _, _, true, rfl, .ty _, .base (.tup et), kit_ty (by decide +kernel), true, rfl, q3 _ (Same.refl _)⟩) q2) (fun _ H3 k s3 q2 => andT false false (fun k q3 => ⟨.ref t, rfl, t, _, 0, _, rfl, rfl, .inl (.inl (s3 _ _ et)), rfl, rfl, _, rfl, TellB.eq one_ne.2.2.1 q3 _ (Same.refl _)⟩) (fun h => nomatch h) q2) q1
      | grp u os =>
        obtain ⟨t, p, ws2, rfl, rfl, et, ep, hos⟩ := hit
        refine orT false false (fun k q2 => notT true (fun k q3 => ⟨.ref t, rfl, .ref t, .ty "tuple", _, _, true, rfl, .ty _, .base (.tup et), kit_ty (by decide +kernel), true, rfl, q3 _ (Same.refl _)⟩) q2) (fun _ H3 k s3 q2 => andT true false (fun k q3 => ⟨.ref t, rfl, t, _, 0, _, rfl, rfl, .inl (.inl (s3 _ _ et)), rfl, rfl, _, rfl, TellB.eq one_ne.2.2.2 q3 _ (Same.refl _)⟩) (fun _ H4 k s4 q4 => notT true (fun k q5 => ⟨.ref t, rfl, t, _, 2, _, rfl, rfl, .inl (.inl (s4 _ _ (s3 _ _ et))), rfl, .ref p, .ty "list", _, _, true, rfl, .ty _, .base (.lst (s4 _ _ (s3 _ _ ep))), kit_ty (by decide +kernel), true, rfl, q5 _ (Same.refl _)⟩) q4) q2) q1
    · obtain ⟨_, rfl, sm⟩ := hP
      exact q _ sm
end
end K15

namespace K15
open PySem PySem.Spec PyProof.Rows L2 LH
/-! ### people drawn -/
theorem atL {α : Type} {us : List α} {n : Nat} (d : α) (h : us.length = n + 1) : atI us (-1) = some (us.getD n d) := by
  rcases List.eq_nil_or_concat us with rfl | ⟨b, x, rfl⟩
  · exact absurd h (by simp)
  · rw [List.concat_eq_append] at h ⊢
    rw [List.length_append] at h
    have hb : b.length = n := by simpa using h
    rw [getD_app_r _ _ _ (by omega), hb, Nat.sub_self]
    exact atI_last _ _
def gB : Item → Bool
  | .one _ => false
  | .grp _ _ => true
def gN : Item → Nat
  | .one _ => 0
  | .grp _ os => os.length
/-- people told, as the law has them in hand -/
def PeopleAt (H0 : Hp) (H : Hp) (D : Addr) (us : List V) (xs : List Item) (As : List (List Addr)) : Prop := H0 D = none ∧ H D = some (.lst us) ∧ Rs ItemR H us xs As ∧ (∀ b ∈ As.flatten, H0 b = none ∧ b ≠ D) ∧ As.flatten.Nodup ∧ xs ≠ [] ∧ xs.length ≤ 20 ∧ (∀ x ∈ xs, GoodItem x)
theorem PeopleAt.up {H0 H H' : Hp} {D : Addr} {us : List V} {xs : List Item} {As : List (List Addr)} (h : PeopleAt H0 H D us xs As) (sm : Same H H') : PeopleAt H0 H' D us xs As := ⟨h.1, sm _ _ h.2.1, h.2.2.1.up sm, h.2.2.2⟩
theorem PeopleAt.app {H0 H : Hp} {D : Addr} {us : List V} {xs : List Item} {As : List (List Addr)} (h : PeopleAt H0 H D us xs As) {v : V} {x : Item} {A : List Addr} (hx : ItemR H v x A) (hA : ∀ b ∈ A, H0 b = none ∧ b ≠ D ∧ b ∉ As.flatten) (nA : A.Nodup) (hg : GoodItem x) (hl : xs.length < 20) : PeopleAt H0 (upd H D (.lst (us ++ [v]))) D (us ++ [v]) (xs ++ [x]) (As ++ [A]) := by
  obtain ⟨h1, h2, h3, h4, h5, h6, h7, h8⟩ := h
  have ht : ∀ b ys, H b = some (HO.tup ys) → upd H D (.lst (us ++ [v])) b = some (HO.tup ys) := fun b ys hb => by
    rw [upd_ne (fun e => by rw [e, h2] at hb; exact nomatch hb)]
    exact hb
  refine ⟨h1, upd_same, Rs.app (item_stab _ _ _ _ _ hx ht fun b hb => upd_ne (hA b hb).2.1) (Rs.stab item_stab h3 ht fun b hb => upd_ne (h4 b hb).2), fun b hb => ?_, ?_, by simp, by rw [List.length_append, List.length_singleton]; omega, fun y hy => ?_⟩
  · rw [List.flatten_append] at hb
    rcases List.mem_append.mp hb with hb | hb
    · exact h4 b hb
    · have hb : b ∈ A := by simpa using hb
      exact ⟨(hA b hb).1, (hA b hb).2.1⟩
  · rw [List.flatten_append]
    refine List.nodup_append.mpr ⟨h5, by simpa using nA, fun b hb c hc hbc => ?_⟩
    have hc : c ∈ A := by simpa using hc
    exact (hA c hc).2.2 (by rw [← hbc]; exact hb)
  · rcases List.mem_append.mp hy with hy | hy
    · exact h8 y hy
    · rw [List.mem_singleton.mp hy]; exact hg
section
variable {P : Program} {w : World} {K : PySem.W.Frag} {mg : Str → Option Value} {base : Heap} {tk : Nat → Tok} {ca : Nat → Addr} {C : Addr}
/-! ### _law_people -/
abbrev s__law_people : Stmt := topS 54
abbrev N__law_people : List Str := ["_law_cells", "_law_found", "_law_cell", "_law_number", "_law_j"]
abbrev P__law_people : List Str := ["_law_cells"]
theorem sc__law_people : FnScope N__law_people ["_law_cells"] (defScope s__law_people) := ⟨rfl, rfl, rfl, by decide +kernel, rfl, by decide +kernel, by decide +kernel⟩
def sp_lpeople : Sp := fun vs H Q _ => ∃ (c : Addr) (ns : List Int), vs = [.ref c] ∧ H c = some (.lst (ns.map V.int)) ∧ ns.length ≤ 100 ∧
  ∀ H' D us xs As, Same H H' → H D = none → H' D = some (.lst us) → Rs ItemR H' us xs As → (∀ b ∈ As.flatten, H b = none ∧ b ≠ D) → As.flatten.Nodup → xs ≠ [] → xs.length ≤ 20 → (∀ x ∈ xs, GoodItem x) → Q (.ref D) H'
theorem ok_lpeople {f f1 f2 f3 : Addr} {fd fd1 fd2 fd3 : FuncData} (F : Fun K "_law_people" "_law_people" s__law_people f fd) (T : Tx mg tk) (D__law_one : Def P w K mg base "_law_one" 4 f1 fd1 P__law_one sp_lone) (D__law_mixed : Def P w K mg base "_law_mixed" 1 f2 fd2 P__law_mixed sp_mixed) (D__law_named : Def P w K mg base "_law_named" 3 f3 fd3 P__law_named sp_named) : FnOk P w K mg base CX0 5 f fd P__law_people sp_lpeople := by
  refine F.ok sc__law_people (fun vs H Q E h => ?_) (fun cdv A outer s H vs Q E hr h => ?_)
  · obtain ⟨c, ns, rfl, _⟩ := h
    rfl
  · have nd := sc__law_people.nd
    obtain ⟨c, ns, rfl, ec, hn, q⟩ := h
    refine ⟨_, (pss_cons (ps_set (i := 1) nd rfl (.inl rfl) (pe_lst (pa_cons (pe_def D__law_one (hr.mono (by decide)) (pa_cons (pe_ix (ixL K) (pe_op op_cat (pv 0) (pe_lst (pa_cons pe_int pa_nil))) pe_int (fun _ _ => rfl)) pa_nil)) pa_nil)))
      (pss_cons (ps_for PassesOwn.never rfl (pi_list (pe_slice (slL K) (pv 0) (po_some pe_int) po_none)) (pg_name (i := 2) nd rfl (Or.inr rfl))
        (pss_cons (ps_set (i := 3) nd rfl (.inl rfl) (pe_def D__law_mixed (hr.mono (by decide)) (pa_cons (pv 2) (pa_cons pe_int pa_nil))))
        (pss_one (ps_if (PW.pt (pw_or (PW.pt (pw_and (pt_cmpR op_eq (pe_op op_mod (pv 3) pe_int) pe_int (nomark _)) (pw_and (pt_cmpR op_eq (pe_ix (ixT K) (pe_ix (ixL K) (pv 1) (pe_un un_neg pe_int) (fun _ _ => rfl)) pe_int (fun _ _ => rfl)) pe_str (nomark _)) (pw_and1 (pt_cmpR op_lt (pe_callB (cLen K) (by rfl) T.n_len (by decide +kernel) (pa_cons (pe_ix (ixT K) (pe_ix (ixL K) (pv 1) (pe_un un_neg pe_int) (fun _ _ => rfl)) pe_int (fun _ _ => rfl)) pa_nil)) pe_int (nomark _)))))) (pw_or1 (pt_cmpR op_eq (pe_callB (cLen K) (by rfl) T.n_len (by decide +kernel) (pa_cons (pv 1) pa_nil)) pe_int (nomark _)))))
          (pss_one (ps_if (PW.pt (pw_and (pt_cmpR op_eq (pe_ix (ixT K) (pe_ix (ixL K) (pv 1) (pe_un un_neg pe_int) (fun _ _ => rfl)) pe_int (fun _ _ => rfl)) pe_str (nomark _)) (pw_and1 (pt_cmpR op_lt (pe_callB (cLen K) (by rfl) T.n_len (by decide +kernel) (pa_cons (pe_ix (ixT K) (pe_ix (ixL K) (pv 1) (pe_un un_neg pe_int) (fun _ _ => rfl)) pe_int (fun _ _ => rfl)) pa_nil)) pe_int (nomark _)))))
            (pss_one (ps_expr (pe_bm PySem.F.plainAttrs_list PySem.F.slot_list_append PySem.F.type_list_append mt_append (pe_ix (ixT K) (pe_ix (ixL K) (pv 1) (pe_un un_neg pe_int) (fun _ _ => rfl)) pe_int (fun _ _ => rfl)) (pa_cons (pe_def D__law_one (hr.mono (by decide)) (pa_cons (pv 2) pa_nil)) pa_nil))))
            pss_nil))
          (pss_one (ps_if (pt_cmpR op_eq (pe_op op_mod (pv 3) pe_int) pe_int (nomark _))
            (pss_one (ps_expr (pe_bm PySem.F.plainAttrs_list PySem.F.slot_list_append PySem.F.type_list_append mt_append (pv 1) (pa_cons (pe_tup (pa_cons pe_str (pa_cons (pe_def D__law_named (hr.mono (by decide)) (pa_cons (pv 2) pa_nil)) (pa_cons (pe_lc (own := [("_law_j", 4)]) (g := gName 4) (by rfl) nd (pi_range1 (by rfl) T.n_range (pa_cons (pe_op op_mod (pe_op op_fdiv (pv 3) pe_int) pe_int) pa_nil)) (blkOk_by (N := N__law_people) (sc := defScope s__law_people) (by decide +kernel)) (fun _ _ _ _ _ => (pg_name (i := 4) nd rfl (Or.inl rfl))) (fun _ _ _ _ _ => pts_nil) (fun _ _ _ _ _ => (pe_def D__law_one (hr.mono (by decide)) (pa_cons (pe_op op_add (pe_op op_add (pv 2) pe_int) (pv 4)) pa_nil)))) pa_nil)))) pa_nil))))
            (pss_one (ps_expr (pe_bm PySem.F.plainAttrs_list PySem.F.slot_list_append PySem.F.type_list_append mt_append (pv 1) (pa_cons (pe_def D__law_one (hr.mono (by decide)) (pa_cons (pv 2) pa_nil)) pa_nil))))))))))
      (pss_one (ps_ret (pv 1))))), ?_⟩
    dsimp only [gName, tSeq, tAsg]
    have h1 : (1 : Nat) ≤ sizeLine := by rw [sizeLine_eq]; decide
    have h3 : (3 : Nat) ≤ sizeLine := by rw [sizeLine_eq]; decide
    obtain ⟨x, hx⟩ : ∃ x, atI (ns.map V.int ++ [V.int 0]) 0 = some (.int x) := by
      cases ns with
      | nil => exact ⟨0, rfl⟩
      | cons y r => exact ⟨y, atI_nat (xs := V.int y :: (r.map V.int ++ [V.int 0])) (j := 0) rfl⟩
    refine ⟨.ref c, rfl, h1, fun a ha => ⟨c, a, _, [.int 0], rfl, rfl, same_upd ha _ _ ec, upd_same, by rw [sizeLine_eq, List.length_map, List.length_singleton]; omega, fun b hb => ⟨b, _, 0, .int x, rfl, rfl, .inl (.inl upd_same), hx, x, rfl, fun o ho H1 t s1 et => ⟨h1, fun D hD => ?_⟩⟩⟩⟩
    have sH1 : Same H H1 := ((same_upd ha).trans (same_upd hb)).trans s1
    have p2 : PeopleAt H (upd H1 D (.lst [.ref t])) D [.ref t] [.one o] [[]] := ⟨sH1.free hD, upd_same, ⟨⟨rfl, t, rfl, same_upd hD _ _ et⟩, trivial⟩, (fun b hb => by cases hb), List.nodup_nil, List.cons_ne_nil _ _, (by decide : (1 : Nat) ≤ 20), fun x hx => by rw [List.mem_singleton.mp hx]; exact ho⟩
    have s2 : Same H (upd H1 D (.lst [.ref t])) := sH1.trans (same_upd hD)
    generalize upd H1 D (.lst [.ref t]) = H2 at p2 s2 ⊢
    refine ⟨.ref c, rfl, 1, rfl, c, _, rfl, .inl (.inl (s2 _ _ ec)), fun r hr => ?_⟩
    rw [show (1 : Int) = ((1 : Nat) : Int) from rfl, cutV_from, ← List.map_drop]
    have p3 := p2.up (same_upd hr (o := .lst ((ns.drop 1).map V.int)))
    have s3 := s2.trans (same_upd hr (o := .lst ((ns.drop 1).map V.int)))
    have er : upd H2 r (.lst ((ns.drop 1).map V.int)) r = some (.lst ((ns.drop 1).map V.int)) := upd_same
    have hrD : r ≠ D := fun e => by rw [e, p2.2.1] at hr; exact nomatch hr
    generalize upd H2 r (.lst ((ns.drop 1).map V.int)) = H3 at p3 s3 er ⊢
    generalize ns.drop 1 = ms at *
    refine ⟨r, rfl, ⟨_, .inl (.inl er)⟩, for_it (walk_listF (xs := ms.map V.int)) (fun i σ H' => ∃ (y2 y3 : Option V) (us : List V) (xs : List Item) (As : List (List Addr)), σ = [some (.ref c), some (.ref D), y2, y3, none] ∧ Same H H' ∧ PeopleAt H H' D us xs As ∧ (∀ b ∈ As.flatten, b ≠ r) ∧ H' r = some (.lst (ms.map V.int))) ⟨none, none, _, _, _, rfl, s3, p3, (fun b hb => by cases hb), er⟩ (fun i σ H' _ h => by obtain ⟨_, _, _, _, _, rfl, _, _, _, e⟩ := h; exact .inl (.inl e)) (fun i x σ H4 H5 hi hP hy => ?_) (fun σ H4 hP => ?_)⟩
    · obtain ⟨_, _, us, xs, As, rfl, s5, p5, n5, er5⟩ := hP
      obtain ⟨rfl, rfl⟩ := hy
      dsimp only
      rw [LH.getD_map_int _ _ (by rw [List.length_map] at hi; exact hi)]
      generalize ms.getD i 0 = cell
      show tSeq _ _ _ [some (V.ref c), some (.ref D), some (.int cell), _, none] _
      dsimp only [gName, tSeq, tAsg]
      refine ⟨_, rfl, cell, 8, rfl, by decide, by decide, fun m hm H6 s6 => ?_⟩
      show tIfS _ _ _ _ [some (V.ref c), some (.ref D), some (.int cell), some (.int (m : Nat)), none] _
      have p6 := p5.up s6
      have s7 := s5.trans s6
      have er6 := s6 _ _ er5
      clear p5 s5 er5
      have hul := p6.2.2.1.len
      obtain ⟨n, hn1⟩ : ∃ n, us.length = n + 1 := by
        cases xs with
        | nil => exact absurd rfl p6.2.2.2.2.2.1
        | cons y l => exact ⟨l.length, by rw [hul]; rfl⟩
      have hat : atI us (-1) = some (us.getD n .non) := atL _ hn1
      have hit := p6.2.2.1.at (.grp [] []) n (by omega)
      have hgi : GoodItem (xs.getD n (.grp [] [])) := p6.2.2.2.2.2.2.2 _ (by
        rw [List.getD_eq_getElem?_getD, List.getElem?_eq_getElem (by omega)]
        exact List.getElem_mem (by omega))
      have key : ∀ H' us xs As, Same H H' → PeopleAt H H' D us xs As → (∀ b ∈ As.flatten, b ≠ r) → H' r = some (.lst (ms.map V.int)) → ∃ (y2 y3 : Option V) (us : List V) (xs : List Item) (As : List (List Addr)), [some (V.ref c), some (.ref D), some (.int cell), some (.int (m : Nat)), none] = [some (V.ref c), some (.ref D), y2, y3, none] ∧ Same H H' ∧ PeopleAt H H' D us xs As ∧ (∀ b ∈ As.flatten, b ≠ r) ∧ H' r = some (.lst (ms.map V.int)) := fun H' us xs As a b c d => ⟨_, _, us, xs, As, rfl, a, b, c, d⟩
      have hput : ∀ H' x, (∀ b ys, H6 b = some (HO.tup ys) → H' b = some (HO.tup ys)) → (∀ b ∈ As.flatten, b ∉ As.getD n [] → H' b = H6 b) → ItemR H' (us.getD n .non) x (As.getD n []) → Rs ItemR H' us (xs.set n x) As := fun H' x a b d => Rs.put item_stab n x p6.2.2.1 (by omega) p6.2.2.2.2.1 a b d
      have hAs : ∀ b ∈ As.getD n [], b ∈ As.flatten := fun b hb => at_flat hb
      generalize us.getD n .non = v at *
      generalize As.getD n [] = A at *
      generalize xs.getD n (.grp [] []) = it at *
      have tg : ∀ Hx, Same H6 Hx → ∀ k, TellB Hx (gB it) k → tTest (tOp rEq (tOp (rIxT K) (tOp (rIxL K) (tVar 1) (tUn (rU fun i => V.int (-i)) (tC (V.int 1)))) (tC (V.int 0))) (tC (V.str (Str.ofString "group")))) [some (V.ref c), some (.ref D), some (.int cell), some (.int (m : Nat)), none] Hx k := fun Hx sx k qk => by
        cases it with
        | one o =>
          obtain ⟨rfl, t, rfl, et⟩ := hit
          exact ⟨.ref D, rfl, 1, rfl, D, us, -1, .ref t, rfl, rfl, .inl (.inl (sx _ _ p6.2.1)), hat, t, _, 0, _, rfl, rfl, .inl (.inl (sx _ _ et)), rfl, rfl, _, rfl, TellB.eq one_ne.2.2.1 qk _ (Same.refl _)⟩
        | grp u os =>
          obtain ⟨t, p, ws, rfl, rfl, et, ep, hos⟩ := hit
          exact ⟨.ref D, rfl, 1, rfl, D, us, -1, .ref t, rfl, rfl, .inl (.inl (sx _ _ p6.2.1)), hat, t, _, 0, _, rfl, rfl, .inl (.inl (sx _ _ et)), rfl, rfl, _, rfl, TellB.eq one_ne.2.2.2 qk _ (Same.refl _)⟩
      have tn : ∀ Hx, Same H6 Hx → ∀ k, gB it = true → TellB Hx (decide (gN it < 10)) k → tTest (tOp (rI0 fun i j => V.bl (decide (i < j))) (tCB (rLenS K) (tCons (tOp (rIxT K) (tOp (rIxL K) (tVar 1) (tUn (rU fun i => V.int (-i)) (tC (V.int 1)))) (tC (V.int 2))) tNil)) (tC (V.int 10))) [some (V.ref c), some (.ref D), some (.int cell), some (.int (m : Nat)), none] Hx k := fun Hx sx k hb qk => by
        cases it with
        | one o => exact nomatch hb
        | grp u os =>
          obtain ⟨t, p, ws, rfl, rfl, et, ep, hos⟩ := hit
          have hwl := hos.len
          exact ⟨.ref D, rfl, 1, rfl, D, us, -1, .ref t, rfl, rfl, .inl (.inl (sx _ _ p6.2.1)), hat, t, _, 2, _, rfl, rfl, .inl (.inl (sx _ _ et)), rfl, p, ws, rfl, .inl (.inl (.inl (sx _ _ ep))), _, 10, rfl, rfl, _, rfl, TellB.eq (decide_eq_decide.mpr (by show ((ws.length : Nat) : Int) < 10 ↔ os.length < 10; omega)) qk _ (Same.refl _)⟩
      refine ifT ((decide (V.int (((m : Nat) : Int) % 4) = V.int 0) && (gB it && decide (gN it < 10))) || decide (V.int ((us.length : Nat) : Int) = V.int 20)) (fun k q1 => orT _ _ (fun k q2 => andT _ _ (fun k q3 => ⟨_, rfl, _, 4, rfl, rfl, (show (0 : Int) < 4 by decide), rfl, _, rfl, q3 _ (Same.refl _)⟩) (fun _ H7 k s8 q3 => andT _ _ (fun k q4 => tg H7 s8 k q4) (fun hb H8 k s9 q4 => tn H8 (s8.trans s9) k hb q4) q3) q2) (fun _ H7 k s8 q2 => ⟨.ref D, rfl, D, us, rfl, .inl (.inl (.inl (s8 _ _ p6.2.1))), rfl, _, rfl, q2 _ (Same.refl _)⟩) q1) (fun _ H7 s8 => ?_) (fun hc H7 s8 => ?_)
      · refine ifT (gB it && decide (gN it < 10)) (fun k q3 => andT _ _ (fun k q4 => tg H7 s8 k q4) (fun hb H8 k s9 q4 => tn H8 (s8.trans s9) k hb q4) q3) (fun hc H8 s9 => ?_) (fun _ H8 s9 => key H8 us xs As (s7.trans (s8.trans s9)) (p6.up (s8.trans s9)) n5 ((s8.trans s9) _ _ er6))
        cases it with
        | one o => exact nomatch hc
        | grp u os =>
          have hlen : os.length < 10 := of_decide_eq_true hc
          obtain ⟨t, p, ws, rfl, rfl, et, ep, hos⟩ := hit
          have hwl := hos.len
          have p8 := p6.up (s8.trans s9)
          have hpA : p ∈ As.flatten := hAs p (List.mem_singleton.mpr rfl)
          refine ⟨.ref D, rfl, 1, rfl, D, us, -1, .ref t, rfl, rfl, .inl (.inl p8.2.1), hat, t, _, 2, _, rfl, rfl, .inl (.inl (s9 _ _ (s8 _ _ et))), rfl, .inl ⟨rfl, ws, .inl (.inl (s9 _ _ (s8 _ _ ep)))⟩, .int cell, rfl, cell, rfl, fun o2 ho2 H9 t2 s10 et2 => ?_⟩
          have s11 := (s8.trans s9).trans s10
          have p9 := p6.up s11
          have ep9 := s11 _ _ ep
          have ht : ∀ b ys, H6 b = some (HO.tup ys) → upd H9 p (.lst (ws ++ [.ref t2])) b = some (HO.tup ys) := fun b ys hb => by
            rw [upd_ne (fun e => by rw [e, ep] at hb; exact nomatch hb)]
            exact s11 _ _ hb
          have sa : Same H (upd H9 p (.lst (ws ++ [.ref t2]))) := fun b o hb => by
            rw [upd_ne (fun e => by rw [e, (p6.2.2.2.1 p hpA).1] at hb; exact nomatch hb)]
            exact s11 _ _ (s7 _ _ hb)
          refine ⟨p, ws, .ref t2, rfl, rfl, ep9, by rw [sizeLine_eq]; omega, key _ us (xs.set n (.grp u (os ++ [o2]))) As sa ⟨p9.1, ?_, hput _ _ ht (fun b hb hbp => ?_) ⟨t, p, _, rfl, rfl, ht _ _ et, upd_same, OnesR.app ⟨t2, rfl, ?_⟩ (OnesR.stab ht hos)⟩, p9.2.2.2.1, p9.2.2.2.2.1, ?_, ?_, fun y hy => ?_⟩ n5 ?_⟩
          · rw [upd_ne (fun e => (p6.2.2.2.1 p hpA).2 e.symm)]
            exact p9.2.1
          · rw [upd_ne (fun e => hbp (by rw [e]; exact List.mem_singleton.mpr rfl))]
            obtain ⟨ys, hy⟩ := Rs.live item_live p6.2.2.1 b hb
            rw [hy]
            exact s11 _ _ hy
          · rw [upd_ne (fun e => by rw [e, ep9] at et2; exact nomatch et2)]
            exact et2
          · intro h
            have := congrArg List.length h
            rw [List.length_set] at this
            exact p6.2.2.2.2.2.1 (List.eq_nil_of_length_eq_zero this)
          · rw [List.length_set]; exact p6.2.2.2.2.2.2.1
          · rcases List.mem_or_eq_of_mem_set hy with hy | rfl
            · exact p6.2.2.2.2.2.2.2 y hy
            · refine ⟨hgi.1, fun o ho => ?_, by rw [List.length_append, List.length_singleton]; omega⟩
              rcases List.mem_append.mp ho with ho | ho
              · exact hgi.2.1 o ho
              · rw [List.mem_singleton.mp ho]; exact ho2
          · rw [upd_ne (fun e => n5 p hpA e.symm)]
            exact s11 _ _ er6
      · have hlt : xs.length < 20 := by
          have := p6.2.2.2.2.2.2.1
          have h20 : us.length ≠ 20 := fun h => by
            rw [h] at hc
            simp at hc
          omega
        obtain ⟨j, hj, hj3⟩ : ∃ j : Nat, ((m : Nat) : Int) / 4 % 3 = (j : Nat) ∧ j < 3 := ⟨m / 4 % 3, by omega, by omega⟩
        have p7 := p6.up s8
        refine ifT (decide (V.int (((m : Nat) : Int) % 4) = V.int 1)) (fun k q3 => ⟨_, rfl, _, 4, rfl, rfl, (show (0 : Int) < 4 by decide), rfl, _, rfl, q3 _ (Same.refl _)⟩) (fun _ H8 s9 => ?_) (fun _ H8 s9 => ?_)
        · refine ⟨.ref D, rfl, .inl ⟨rfl, us, .inl (.inl (s9 _ _ p7.2.1))⟩, .int cell, rfl, cell, rfl, fun u hu H9 s10 => ⟨_, rfl, _, 4, rfl, rfl, ⟨by decide, by decide⟩, _, 3, rfl, rfl, (show (0 : Int) < 3 by decide), (j : Int), congrArg (fun x => [V.int x]) hj, by omega, by omega, fun D2 hD2 => lc_rs one_stab one_live (fun _ o => GoodOne o) ([], []) (fun j => .int (0 + (j : Int))) walk_range (fun _ _ => trivial) hD2 (by rw [sizeLine_eq]; omega) (fun i2 H10 Q2 hi2 s11 q2 => ?_) (fun H10 ws os Bs s11 hl hv hrs hfr hnd e10 => ?_)⟩⟩
          · exact ⟨.int cell, rfl, cell, 1, rfl, rfl, .int (0 + (i2 : Int)), rfl, _, _, rfl, rfl, _, rfl, fun o ho H11 t s12 et => q2 _ _ o [] s12 ho ⟨rfl, t, rfl, et⟩ (fun b hb => by cases hb) List.nodup_nil⟩
          · have s12 := (s8.trans s9).trans (s10.trans s11)
            have p10 := p6.up s12
            have hos : ∀ o ∈ os, GoodOne o := fun o ho => by
              obtain ⟨i3, hi3, rfl⟩ := List.mem_iff_getElem.mp ho
              have := hv i3 (by omega)
              rw [List.getD_eq_getElem?_getD, List.getElem?_eq_getElem hi3] at this
              exact this
            have hD2H : H D2 = none := (s7.trans ((s8.trans s9).trans s10)).free hD2
            refine ⟨h3, fun g hg => ⟨D, us, .ref g, rfl, rfl, same_upd hg _ _ p10.2.1, by rw [sizeLine_eq]; omega, ?_⟩⟩
            have s13 := s12.trans (same_upd hg (o := .tup [.str (Str.ofString "group"), .str (S' u), .ref D2]))
            have eg : upd H10 g (.tup [.str (Str.ofString "group"), .str (S' u), .ref D2]) g = some (.tup (grpF u D2)) := upd_same
            have e11 := same_upd hg (o := .tup [.str (Str.ofString "group"), .str (S' u), .ref D2]) _ _ e10
            have hos11 : OnesR (upd H10 g (.tup [.str (Str.ofString "group"), .str (S' u), .ref D2])) ws os := OnesR.stab (fun b ys hb => same_upd hg _ _ hb) (OnesR.of hrs)
            generalize upd H10 g (.tup [.str (Str.ofString "group"), .str (S' u), .ref D2]) = H11 at *
            have p11 := p6.up s13
            have hD2 : ∀ b o, H6 b = some o → b ≠ D2 := fun b o hb e => by
              have := s10 _ _ (s9 _ _ (s8 _ _ hb))
              rw [e, hD2] at this
              exact nomatch this
            have sa : Same H (upd H11 D (.lst (us ++ [.ref g]))) := fun b o hb => by
              rw [upd_ne (fun e => by rw [e, p6.1] at hb; exact nomatch hb)]
              exact s13 _ _ (s7 _ _ hb)
            refine key _ _ _ _ sa (p11.app (x := .grp u os) (A := [D2]) ⟨g, D2, ws, rfl, rfl, eg, e11, hos11⟩ (fun b hb => ?_) (List.nodup_cons.mpr ⟨List.not_mem_nil, List.nodup_nil⟩) ⟨hu, hos, by omega⟩ hlt) (fun b hb => ?_) ?_
            · rw [List.mem_singleton.mp hb]
              refine ⟨hD2H, (hD2 D _ p6.2.1).symm, fun h => ?_⟩
              obtain ⟨ys, hy⟩ := Rs.live item_live p6.2.2.1 D2 h
              exact hD2 D2 _ hy rfl
            · rw [List.flatten_append] at hb
              rcases List.mem_append.mp hb with hb | hb
              · exact n5 b hb
              · have hb : b = D2 := by simpa using hb
                rw [hb]
                exact (hD2 r _ er6).symm
            · rw [upd_ne hrD]
              exact s13 _ _ er6
        · have s10 := s8.trans s9
          refine ⟨.ref D, rfl, .inl ⟨rfl, us, .inl (.inl (s9 _ _ p7.2.1))⟩, .int cell, rfl, cell, rfl, fun o2 ho2 H9 t2 s11 et2 => ⟨D, us, .ref t2, rfl, rfl, s11 _ _ (s9 _ _ p7.2.1), by rw [sizeLine_eq]; omega, ?_⟩⟩
          have sa : Same H (upd H9 D (.lst (us ++ [.ref t2]))) := fun b o hb => by
            rw [upd_ne (fun e => by rw [e, p6.1] at hb; exact nomatch hb)]
            exact s11 _ _ (s10 _ _ (s7 _ _ hb))
          refine key _ _ _ _ sa ((p6.up (s10.trans s11)).app (x := .one o2) (A := []) ⟨rfl, t2, rfl, et2⟩ (fun b hb => by cases hb) List.nodup_nil ho2 hlt) (fun b hb => n5 b (by simpa using hb)) ?_
          rw [upd_ne hrD]
          exact s11 _ _ (s10 _ _ er6)
    · obtain ⟨_, _, us, xs, As, rfl, s5, p5, n5, er5⟩ := hP
      exact ⟨.ref D, rfl, q _ D us xs As s5 p5.1 p5.2.1 p5.2.2.1 p5.2.2.2.1 p5.2.2.2.2.1 p5.2.2.2.2.2.1 p5.2.2.2.2.2.2.1 p5.2.2.2.2.2.2.2⟩
end
end K15

namespace K15
open PySem PySem.Spec PyProof.Rows L2 LH
/-! ### people written by the program -/
section
variable {P : Program} {w : World} {K : PySem.W.Frag} {mg : Str → Option Value} {base : Heap} {tk : Nat → Tok} {ca : Nat → Addr} {C : Addr}
/-! ### is_plain_word -/
abbrev s_is_plain_word : Stmt := topS 39
abbrev N_is_plain_word : List Str := ["word", "sign"]
abbrev P_is_plain_word : List Str := ["word"]
theorem sc_is_plain_word : FnScope N_is_plain_word ["word"] (defScope s_is_plain_word) := ⟨rfl, rfl, rfl, by decide +kernel, rfl, by decide +kernel, by decide +kernel⟩
def plainW (u : List Nat) : Bool := (decide (1 ≤ u.length) && decide (u.length ≤ 12)) && u.all fun c => decide (c ∈ TL.tl CALLEDT)
def sp_pword : Sp := fun vs H Q _ => ∃ u, vs = [.str (S' u)] ∧ u.length ≤ 100 ∧ Tell H (.bl (plainW u)) Q
theorem ok_pword {f : Addr} {fd : FuncData} (F : Fun K "is_plain_word" "is_plain_word" s_is_plain_word f fd) (T : Tx mg tk) : FnOk P w K mg base CX0 1 f fd P_is_plain_word sp_pword := by
  refine F.ok sc_is_plain_word (fun vs H Q E h => ?_) (fun cdv A outer s H vs Q E hr h => ?_)
  · obtain ⟨u, rfl, _⟩ := h
    rfl
  · have nd := sc_is_plain_word.nd
    obtain ⟨u, rfl, hl, q⟩ := h
    refine ⟨_, (pss_one (ps_ret (pe_and (pe_chain op_le op_le pe_int (pe_callB call_len_str (by rfl) T.n_len (by decide +kernel) (pa_cons (pv 0) pa_nil)) (pe_glob (v := .int 12) (by rfl) T.m_CALLED_MOST ⟨_, rfl⟩)) (pe_one (pe_callB (cAll K) (by rfl) T.n_all (by decide +kernel) (pa_cons (pe_lc (own := [("sign", 1)]) (g := gName 1) (by rfl) nd (pi_str (pv 0)) (blkOk_by (N := N_is_plain_word) (sc := defScope s_is_plain_word) (by decide +kernel)) (fun _ _ _ _ _ => (pg_name (i := 1) nd rfl (Or.inl rfl))) (fun _ _ _ _ _ => pts_nil) (fun _ _ _ _ _ => (pe_cmpR op_in_sign (pv 1) (pe_glob (v := .str CALLEDT) (by rfl) T.m_CALLED_SIGNS ⟨_, rfl⟩) rfl))) pa_nil)))))), ?_⟩
    have hz : (S' u).length = u.length := len_S' u
    have hzs : (S' u).length ≤ sizeLine := by rw [hz, sizeLine_eq]; omega
    refine andV (decide (1 ≤ u.length) && decide (u.length ≤ 12)) (u.all fun c => decide (c ∈ TL.tl CALLEDT)) (fun Q' q' => ?_) (fun _ H1 Q' s1 q' => ?_) (fun H2 s2 => q H2 s2)
    · refine ⟨.str (S' u), rfl, S' u, rfl, hzs, 1, _, rfl, rfl, _, rfl, ?_⟩
      by_cases h1 : 1 ≤ u.length
      · rw [decide_eq_true (show (1 : Int) ≤ ((S' u).length : Nat) by omega), if_pos rfl]
        refine ⟨_, 12, rfl, rfl, ?_⟩
        have := q' H (Same.refl _)
        rw [decide_eq_true h1, Bool.true_and] at this
        dsimp only
        rw [hz, show decide (((u.length : Nat) : Int) ≤ 12) = decide (u.length ≤ 12) from decide_eq_decide.mpr (by omega)]
        exact this
      · rw [decide_eq_false (show ¬ (1 : Int) ≤ ((S' u).length : Nat) by omega), if_neg Bool.false_ne_true]
        have := q' H (Same.refl _)
        rw [decide_eq_false h1, Bool.false_and] at this
        exact this
    · refine ⟨.str (S' u), rfl, S' u, rfl, fun D hD => lc_pure (fun i => .str ⟨#[u.getD i 0]⟩) (fun i => .bl (decide (u.getD i 0 ∈ TL.tl CALLEDT))) walk_strF (fun _ _ => trivial) hD (by rw [sizeLine_eq]; show u.length ≤ _; omega) (fun i H2 Q2 hi s3 q2 => ⟨_, rfl, _, CALLEDT, rfl, rfl, q2 _ (Same.refl _)⟩) (fun H2 s3 e => ⟨D, (List.range u.length).map fun i => decide (u.getD i 0 ∈ TL.tl CALLEDT), rfl, .inl (.inl (by rw [e, List.map_map]; rfl)), ?_⟩)⟩
      rw [List.all_map]
      have := q' H2 s3
      rw [← all_rangeL 0 (fun c => decide (c ∈ TL.tl CALLEDT)) u] at this
      exact this
/-! ### is_plain_name -/
abbrev s_is_plain_name : Stmt := topS 38
abbrev N_is_plain_name : List Str := ["name", "words", "word"]
abbrev P_is_plain_name : List Str := ["name"]
theorem sc_is_plain_name : FnScope N_is_plain_name ["name"] (defScope s_is_plain_name) := ⟨rfl, rfl, rfl, by decide +kernel, rfl, by decide +kernel, by decide +kernel⟩
def plainN (u : List Nat) : Bool := decide ((splitL 32 u).length ≤ 4) && (splitL 32 u).all plainW
def sp_pname : Sp := fun vs H Q _ => ∃ u, vs = [.str (S' u)] ∧ GoodName u ∧ Tell H (.bl (plainN u)) Q
theorem ok_pname {f f1 : Addr} {fd fd1 : FuncData} (F : Fun K "is_plain_name" "is_plain_name" s_is_plain_name f fd) (T : Tx mg tk) (D_is_plain_word : Def P w K mg base "is_plain_word" 1 f1 fd1 P_is_plain_word sp_pword) : FnOk P w K mg base CX0 2 f fd P_is_plain_name sp_pname := by
  refine F.ok sc_is_plain_name (fun vs H Q E h => ?_) (fun cdv A outer s H vs Q E hr h => ?_)
  · obtain ⟨u, rfl, _⟩ := h
    rfl
  · have nd := sc_is_plain_name.nd
    obtain ⟨u, rfl, hg, q⟩ := h
    refine ⟨_, (pss_cons (ps_set (i := 1) nd rfl (.inl rfl) (pe_split (pv 0) pe_str))
      (pss_one (ps_ret (pe_and (pe_cmpR op_le (pe_callB (cLen K) (by rfl) T.n_len (by decide +kernel) (pa_cons (pv 1) pa_nil)) (pe_glob (v := .int 4) (by rfl) T.m_CALLED_WORDS ⟨_, rfl⟩) (nomark _)) (pe_one (pe_callB (cAll K) (by rfl) T.n_all (by decide +kernel) (pa_cons (pe_lc (own := [("word", 2)]) (g := gName 2) (by rfl) nd (pi_list (pv 1)) (blkOk_by (N := N_is_plain_name) (sc := defScope s_is_plain_name) (by decide +kernel)) (fun _ _ _ _ _ => (pg_name (i := 2) nd rfl (Or.inl rfl))) (fun _ _ _ _ _ => pts_nil) (fun _ _ _ _ _ => (pe_def D_is_plain_word (hr.mono (by decide)) (pa_cons (pv 2) pa_nil)))) pa_nil))))))), ?_⟩
    dsimp only [gName, tSeq, tAsg]
    obtain ⟨hc, hl1, hl2⟩ := good_small hg
    have hz : (S' u).length = u.length := len_S' u
    have hsp : Txt.split (S' u) (Str.ofString " ") = sL (splitL 32 u) := TL.map_tl_inj (by rw [split_tl tl_sp (by decide), sL_tls]; rfl)
    refine ⟨_, rfl, ⟨_, rfl⟩, S' u, Str.ofString " ", rfl, rfl, by decide +kernel, by rw [hz, sizeLine_eq]; omega, fun p np => ?_⟩
    rw [hsp]
    have hwn := splitL_len 32 u
    have hwl : ∀ x ∈ splitL 32 u, x.length ≤ u.length := fun x hx => splitL_le 32 u x hx
    unfold plainN at q
    generalize splitL 32 u = us at *
    have s1 := same_upd (o := .lst ((sL us).map V.str)) np
    have ep : upd H p (.lst ((sL us).map V.str)) p = _ := upd_same
    generalize upd H p (.lst ((sL us).map V.str)) = H1 at *
    have hus : ((sL us).map V.str).length = us.length := by rw [List.length_map, sL_len]
    refine andV (decide (us.length ≤ 4)) (us.all plainW) (fun Q' q' => ⟨.ref p, rfl, p, _, rfl, .inl (.inl (.inl ep)), _, 4, rfl, rfl, ?_⟩) (fun _ H4 Q' s4 q' => ⟨.ref p, rfl, p, rfl, ⟨_, .inl (.inl (s4 _ _ ep))⟩, fun D hD => lc_pure (fun i => ((sL us).map V.str).getD i .non) (fun i => .bl (plainW (us.getD i []))) walk_listF (fun H6 s6 => s6.seq (.inl (.inl (s4 _ _ ep)))) hD (by rw [hus, sizeLine_eq]; omega) (fun i H6 Q6 hi s6 q6 => ?_) (fun H6 s6 e6 => ⟨D, (List.range us.length).map fun i => plainW (us.getD i []), rfl, .inl (.inl (by rw [e6, hus, List.map_map]; rfl)), ?_⟩)⟩) (fun H2 s2 => q H2 (s1.trans s2))
    · dsimp only
      rw [hus, show decide (((us.length : Nat) : Int) ≤ 4) = decide (us.length ≤ 4) from decide_eq_decide.mpr (by omega)]
      exact q' _ (Same.refl _)
    · rw [hus] at hi
      rw [sL_at us i hi]
      have hx := hwl (us.getD i []) (by
        rw [List.getD_eq_getElem?_getD, List.getElem?_eq_getElem hi]
        exact List.getElem_mem hi)
      exact ⟨_, rfl, us.getD i [], rfl, by omega, q6⟩
    · rw [List.all_map]
      have := q' H6 s6
      rw [← all_rangeL [] plainW us] at this
      exact this
theorem plainN_eq (u : List Nat) : plainN u = isWB u := by
  unfold plainN isWB
  congr 1
  rw [Bool.eq_iff_iff]
  simp only [plainW, Bool.and_eq_true, decide_eq_true_eq, List.all_eq_true, Bool.or_eq_true]
  constructor
  · intro h
    refine ⟨fun c hc => ?_, fun x hx => (h x hx).1⟩
    rw [← join_split 32 u] at hc
    rcases joinL_mem [32] _ c hc with h32 | ⟨w, hw, hcw⟩
    · exact .inl (List.mem_singleton.mp h32)
    · exact .inr (cal_on c ((h w hw).2 c hcw))
  · rintro ⟨h1, h2⟩ x hx
    refine ⟨h2 x hx, fun c hc => ?_⟩
    rcases h1 c (splitL_mem 32 u x hx c hc) with rfl | h
    · exact absurd hc (split_free 32 u x hx)
    · exact cal_in c h
theorem esc_repl : ∀ u : List Nat, (u.flatMap fun d => if d = 92 then [92, 92] else [d]).flatMap (fun d => if d = 34 then [92, 34] else [d]) = escL u
  | [] => rfl
  | c :: r => by
    rw [List.flatMap_cons, List.flatMap_append, esc_repl r, escL_cons]
    congr 1
    unfold escC
    by_cases h1 : c = 92
    · subst h1; rfl
    · by_cases h2 : c = 34
      · subst h2; rfl
      · rw [if_neg h1, if_neg (by omega)]
        simp [h2]
/-! ### called -/
abbrev s_called : Stmt := topS 37
abbrev N_called : List Str := ["name", "slashed"]
abbrev P_called : List Str := ["name"]
theorem sc_called : FnScope N_called ["name"] (defScope s_called) := ⟨rfl, rfl, rfl, by decide +kernel, rfl, by decide +kernel, by decide +kernel⟩
def sp_called15 : Sp := fun vs H Q _ => ∃ u, vs = [.str (S' u)] ∧ GoodName u ∧ Tell H (.str (S' (calL false u))) Q
theorem ok_called15 {f f1 : Addr} {fd fd1 : FuncData} (F : Fun K "called" "called" s_called f fd) (T : Tx mg tk) (D_is_plain_name : Def P w K mg base "is_plain_name" 2 f1 fd1 P_is_plain_name sp_pname) : FnOk P w K mg base CX0 3 f fd P_called sp_called15 := by
  refine fun_okT F sc_called (by decide +kernel) (by decide) (fun vs H Q E h => ?_) (fun cdv A outer s H vs Q E hr h => ?_)
  · obtain ⟨u, rfl, _⟩ := h
    rfl
  · have nd := sc_called.nd
    obtain ⟨u, rfl, hg, q⟩ := h
    refine ⟨_, (psst_cons (PST.of (ps_if (pt_val (pe_def D_is_plain_name (hr.mono (by decide)) (pa_cons (pv 0) pa_nil)))
        (pss_one (ps_ret (pv 0)))
        pss_nil))
      (psst_cons (pst_set (i := 1) nd rfl (.inl rfl) (CwR.pet_replT (CwR.pet_replC (pv 0))))
      (CwR.psst_one (PST.of (ps_ret (pe_joined (PJ.cons pe_str (PJ.cons (pe_fmt (pv 1)) (PJ.cons pe_str PJ.nil))))))))), ?_⟩
    obtain ⟨hc, hl1, hl2⟩ := good_small hg
    have hz : (S' u).length = u.length := len_S' u
    refine ifT (isWB u) (fun k q1 => ⟨_, rfl, u, rfl, hg, fun H1 s1 => ⟨_, rfl, TellB.eq (plainN_eq u) q1 _ s1⟩⟩) (fun hb H1 s1 => ?_) (fun hb H1 s1 => ?_)
    · have hcal : calL false u = u := by unfold calL; rw [if_pos (by rw [hb]; rfl)]
      rw [hcal] at q
      exact ⟨_, rfl, q _ s1⟩
    · have hcal : calL false u = 34 :: (escL u ++ [34]) := by unfold calL; rw [if_neg (by rw [hb]; exact Bool.false_ne_true)]
      rw [hcal] at q
      have t1 : (Txt.replace (S' u) (Str.ofString "\\") (Str.ofString "\\\\")).length ≤ 200 := by
        have := replace_len_le (S' u) (Str.ofString "\\") (Str.ofString "\\\\")
        have e2 : (Str.ofString "\\\\").length = 2 := by decide +kernel
        rw [e2, hz] at this
        omega
      dsimp only [tNext, tSeq, tAsg, gName]
      have e2 : (Str.ofString "\\\"").length = 2 := by decide +kernel
      have e1 : (Str.ofString "\\\\").length = 2 := by decide +kernel
      have q1 : (Str.ofString "\"").length = 1 := by decide +kernel
      have er : Txt.replace (Txt.replace (S' u) (Str.ofString "\\") (Str.ofString "\\\\")) (Str.ofString "\"") (Str.ofString "\\\"") = S' (escL u) := TL.ext_tl (by
        rw [tl_repl1 (c := 34) tl_qu, tl_repl1 (c := 92) tl_bs, tl_S', tl_S', ← esc_repl u, show TL.tl (Str.ofString "\\\\") = [92, 92] by decide +kernel, show TL.tl (Str.ofString "\\\"") = [92, 34] by decide +kernel])
      have hel := esc_len u
      refine ⟨_, rfl, S' u, rfl, by rw [e1, hz]; omega, _, rfl, by rw [e2]; omega, ?_⟩
      rw [er]
      have a1 : (Str.empty ++ Str.ofString "\"" ++ S' (escL u) ++ Str.ofString "\"" : Str) = S' (34 :: (escL u ++ [34])) := TL.ext_tl (by rw [TL.tl_append, TL.tl_append, TL.tl_append, tl_qu, tl_S', tl_S']; rfl)
      have l0 : (Str.empty : Str).length = 0 := rfl
      refine ⟨_, rfl, by rw [len_app, q1, l0, sizeLine_eq]; omega, _, rfl, .inl ⟨_, rfl, by rw [len_S', sizeLine_eq]; omega, _, rfl, by rw [len_app, len_app, q1, l0, len_S', sizeLine_eq]; omega, _, rfl, by rw [len_app, len_app, len_app, q1, l0, len_S', sizeLine_eq]; omega, ?_⟩⟩
      show Q (.str (Str.empty ++ Str.ofString "\"" ++ S' (escL u) ++ Str.ofString "\"")) _
      rw [a1]
      exact q _ s1
end
end K15

namespace K15
open PySem PySem.Spec PyProof.Rows L2 LH
theorem calL_len {u : List Nat} (h : GoodName u) : (calL false u).length ≤ 70 := by
  obtain ⟨_, _, hl⟩ := good_small h
  unfold calL
  split
  · omega
  · rename_i hb
    have hq : QGood u := by
      rcases h with hw | hq
      · rw [(isWB_iff u).mpr hw] at hb
        exact absurd rfl hb
      · exact hq
    have := esc_len u
    have := hq.2.1
    simp only [List.length_cons, List.length_append, List.length_nil]
    omega
theorem oneL_len {o : List Nat × List Nat} (h : GoodOne o) : (oneL false o).length ≤ 140 := by
  have ha := addr_len h.2
  unfold oneL
  simp only [List.length_cons, List.length_append, List.length_nil]
  split
  · simp only [List.length_nil]; omega
  · rename_i h0
    have := calL_len (h.1.resolve_left h0)
    simp only [List.length_cons, List.length_append, List.length_nil]
    omega
theorem ones_join {os : List (List Nat × List Nat)} (h : ∀ o ∈ os, GoodOne o) (hn : os.length ≤ 10) : ((sL (os.map (oneL false))).map (·.length)).sum + (sL (os.map (oneL false))).length * (Str.ofString ", ").length ≤ 10 * (140 + 2) ∧ Txt.join (Str.ofString ", ") (sL (os.map (oneL false))) = S' (TL.joinL [44, 32] (os.map (oneL false))) ∧ (TL.joinL [44, 32] (os.map (oneL false))).length ≤ 10 * (140 + 2) := join_some (os.map (oneL false)) 140 10 (fun T hT => by
  obtain ⟨o, ho, rfl⟩ := List.mem_map.mp hT
  exact oneL_len (h o ho)) (by rw [List.length_map]; exact hn)
theorem itemL_len {it : Item} (h : GoodItem it) : (itemL false it).length ≤ 1600 := by
  cases it with
  | one o => exact Nat.le_trans (oneL_len h) (by decide)
  | grp u os =>
    have h1 := calL_len h.1
    have h2 := (ones_join h.2.1 h.2.2).2.2
    unfold itemL
    simp only [List.length_cons, List.length_append, List.length_nil]
    omega
theorem items_join {xs : List Item} (h : ∀ x ∈ xs, GoodItem x) (hn : xs.length ≤ 20) : ((sL (xs.map (itemL false))).map (·.length)).sum + (sL (xs.map (itemL false))).length * (Str.ofString ", ").length ≤ 20 * (1600 + 2) ∧ Txt.join (Str.ofString ", ") (sL (xs.map (itemL false))) = S' (TL.joinL [44, 32] (xs.map (itemL false))) ∧ (TL.joinL [44, 32] (xs.map (itemL false))).length ≤ 20 * (1600 + 2) := join_some (xs.map (itemL false)) 1600 20 (fun T hT => by
  obtain ⟨o, ho, rfl⟩ := List.mem_map.mp hT
  exact itemL_len (h o ho)) (by rw [List.length_map]; exact hn)
theorem range_str {β : Type} (g : β → List Nat) (d : β) (xs : List β) : (List.range xs.length).map (fun i => V.str (S' (g (xs.getD i d)))) = (sL (xs.map g)).map V.str := by
  have := congrArg (List.map fun x => V.str (S' (g x))) (LH.range_getD xs d)
  rw [List.map_map] at this
  rw [show (sL (xs.map g)).map V.str = xs.map (fun x => V.str (S' (g x))) by unfold sL; rw [List.map_map, List.map_map]; rfl]
  exact this
section
variable {P : Program} {w : World} {K : PySem.W.Frag} {mg : Str → Option Value} {base : Heap} {tk : Nat → Tok} {ca : Nat → Addr} {C : Addr}
/-! ### one_text -/
abbrev s_one_text : Stmt := topS 36
abbrev N_one_text : List Str := ["one", "_", "name", "address"]
abbrev P_one_text : List Str := ["one"]
theorem sc_one_text : FnScope N_one_text ["one"] (defScope s_one_text) := ⟨rfl, rfl, rfl, by decide +kernel, rfl, by decide +kernel, by decide +kernel⟩
def sp_one15 : Sp := fun vs H Q _ => ∃ (t : Addr) (o : List Nat × List Nat), vs = [.ref t] ∧ H t = some (.tup (oneF o)) ∧ GoodOne o ∧ Tell H (.str (S' (oneL false o))) Q
theorem ok_one15 {f f1 : Addr} {fd fd1 : FuncData} (F : Fun K "one_text" "one_text" s_one_text f fd) (T : Tx mg tk) (D_called : Def P w K mg base "called" 3 f1 fd1 P_called sp_called15) : FnOk P w K mg base CX0 4 f fd P_one_text sp_one15 := by
  refine F.ok sc_one_text (fun vs H Q E h => ?_) (fun cdv A outer s H vs Q E hr h => ?_)
  · obtain ⟨t, o, rfl, _⟩ := h
    rfl
  · have nd := sc_one_text.nd
    obtain ⟨t, ⟨u, ad⟩, rfl, et, ⟨hu, had⟩, q⟩ := h
    refine ⟨_, (pss_cons (ps_asg (pv 0) (pg_tup rfl (pgs_cons (pg_name (i := 1) nd rfl (Or.inl rfl)) (pgs_cons (pg_name (i := 2) nd rfl (Or.inl rfl)) (pgs_cons (pg_name (i := 3) nd rfl (Or.inl rfl)) pgs_nil)))))
      (pss_one (ps_ret (pe_ifExp (pt_cmpR op_eq (pv 2) pe_str (nomark _)) (pe_joined (PJ.cons pe_str (PJ.cons (pe_fmt (pv 3)) (PJ.cons pe_str PJ.nil)))) (pe_joined (PJ.cons (pe_fmt (pe_def D_called (hr.mono (by decide)) (pa_cons (pv 2) pa_nil))) (PJ.cons pe_str (PJ.cons (pe_fmt (pv 3)) (PJ.cons pe_str PJ.nil))))))))), ?_⟩
    dsimp only [gName, tSeq, tAsg] at hu had q ⊢
    have hal := addr_len had
    have hdec : decide (V.str (S' u) = V.str (Str.ofString "")) = decide (u = []) := decide_eq_decide.mpr ⟨fun h => by have := congrArg TL.tl (V.str.inj h); rw [tl_em] at this; exact this, fun h => congrArg V.str (TL.ext_tl (by rw [tl_em, h]; rfl))⟩
    have q1 : (Str.ofString "<").length = 1 := by decide +kernel
    have q2 : (Str.ofString ">").length = 1 := by decide +kernel
    have q3 : (Str.ofString " <").length = 2 := by decide +kernel
    have l0 : (Str.empty : Str).length = 0 := rfl
    refine ⟨.ref t, rfl, t, _, rfl, .inl (.inl et), rfl, _, _, rfl, _, _, rfl, _, _, rfl, rfl, ?_⟩
    refine ⟨.str (S' u), rfl, rfl, _, rfl, ?_⟩
    rw [hdec]
    by_cases h0 : u = []
    · rw [decide_eq_true h0]
      refine iteT ⟨_, rfl, by rw [len_app, q1, l0, sizeLine_eq]; omega, .str (S' ad), rfl, .inl ⟨_, rfl, by rw [len_S', sizeLine_eq]; omega, _, rfl, by rw [len_app, len_app, q1, l0, len_S', sizeLine_eq]; omega, _, rfl, by rw [len_app, len_app, len_app, q1, q2, l0, len_S', sizeLine_eq]; omega, ?_⟩⟩
      have a1 : (Str.empty ++ Str.ofString "<" ++ S' ad ++ Str.ofString ">" : Str) = S' (oneL false (u, ad)) := TL.ext_tl (by unfold oneL; rw [if_pos h0, TL.tl_append, TL.tl_append, TL.tl_append, tl_lt, tl_gt, tl_S', tl_S']; rfl)
      show Q (.str (Str.empty ++ Str.ofString "<" ++ S' ad ++ Str.ofString ">")) _
      rw [a1]
      exact q _ (Same.refl _)
    · rw [decide_eq_false h0]
      have hgu := hu.resolve_left h0
      have hcl := calL_len hgu
      refine iteF ⟨.str (S' u), rfl, u, rfl, hgu, fun H2 s2 => .inl ⟨_, rfl, by rw [len_S', sizeLine_eq]; omega, _, rfl, by rw [len_app, l0, len_S', sizeLine_eq]; omega, _, rfl, by rw [len_app, len_app, l0, len_S', q3, sizeLine_eq]; omega, .str (S' ad), rfl, .inl ⟨_, rfl, by rw [len_S', sizeLine_eq]; omega, _, rfl, by rw [len_app, len_app, len_app, l0, len_S', len_S', q3, sizeLine_eq]; omega, _, rfl, by rw [len_app, len_app, len_app, len_app, l0, len_S', len_S', q3, q2, sizeLine_eq]; omega, ?_⟩⟩⟩
      have a1 : (Str.empty ++ S' (calL false u) ++ Str.ofString " <" ++ S' ad ++ Str.ofString ">" : Str) = S' (oneL false (u, ad)) := TL.ext_tl (by unfold oneL; rw [if_neg h0, TL.tl_append, TL.tl_append, TL.tl_append, TL.tl_append, tl_gt, show TL.tl (Str.ofString " <") = [32, 60] by decide +kernel, tl_S', tl_S', tl_S', show TL.tl (Str.empty : Str) = [] from rfl]; simp)
      show Q (.str (Str.empty ++ S' (calL false u) ++ Str.ofString " <" ++ S' ad ++ Str.ofString ">")) _
      rw [a1]
      exact q _ s2
/-! ### group_text -/
abbrev s_group_text : Stmt := topS 35
abbrev N_group_text : List Str := ["group", "_", "name", "ones", "one"]
abbrev P_group_text : List Str := ["group"]
theorem sc_group_text : FnScope N_group_text ["group"] (defScope s_group_text) := ⟨rfl, rfl, rfl, by decide +kernel, rfl, by decide +kernel, by decide +kernel⟩
def sp_group15 : Sp := fun vs H Q _ => ∃ (t p : Addr) (us : List V) (u : List Nat) (os : List (List Nat × List Nat)), vs = [.ref t] ∧ H t = some (.tup (grpF u p)) ∧ H p = some (.lst us) ∧ OnesR H us os ∧ GoodItem (.grp u os) ∧ Tell H (.str (S' (itemL false (.grp u os)))) Q
theorem ok_group15 {f f1 f2 : Addr} {fd fd1 fd2 : FuncData} (F : Fun K "group_text" "group_text" s_group_text f fd) (T : Tx mg tk) (D_called : Def P w K mg base "called" 3 f1 fd1 P_called sp_called15) (D_one_text : Def P w K mg base "one_text" 4 f2 fd2 P_one_text sp_one15) : FnOk P w K mg base CX0 5 f fd P_group_text sp_group15 := by
  refine F.ok sc_group_text (fun vs H Q E h => ?_) (fun cdv A outer s H vs Q E hr h => ?_)
  · obtain ⟨t, p, us, u, os, rfl, _⟩ := h
    rfl
  · have nd := sc_group_text.nd
    obtain ⟨t, p, us, u, os, rfl, et, ep, hos, hg, q⟩ := h
    refine ⟨_, (pss_cons (ps_asg (pv 0) (pg_tup rfl (pgs_cons (pg_name (i := 1) nd rfl (Or.inl rfl)) (pgs_cons (pg_name (i := 2) nd rfl (Or.inl rfl)) (pgs_cons (pg_name (i := 3) nd rfl (Or.inl rfl)) pgs_nil)))))
      (pss_one (ps_ret (pe_op op_add_str (pe_op op_add_str (pe_op op_add_str (pe_def D_called (hr.mono (by decide)) (pa_cons (pv 2) pa_nil)) pe_str) (pe_join pe_str (pe_lc (own := [("one", 4)]) (g := gName 4) (by rfl) nd (pi_list (pv 3)) (blkOk_by (N := N_group_text) (sc := defScope s_group_text) (by decide +kernel)) (fun _ _ _ _ _ => (pg_name (i := 4) nd rfl (Or.inl rfl))) (fun _ _ _ _ _ => pts_nil) (fun _ _ _ _ _ => (pe_def D_one_text (hr.mono (by decide)) (pa_cons (pv 4) pa_nil)))))) pe_str)))), ?_⟩
    dsimp only [gName, tSeq, tAsg]
    obtain ⟨hu, hall, hn⟩ := hg
    have hcl := calL_len hu
    have hul := hos.len
    have l2 : (Str.ofString ": ").length = 2 := by decide +kernel
    have l1 : (Str.ofString ";").length = 1 := by decide +kernel
    obtain ⟨j1, j2, j3⟩ := ones_join hall hn
    refine ⟨.ref t, rfl, t, _, rfl, .inl (.inl et), rfl, _, _, rfl, _, _, rfl, _, _, rfl, rfl, ?_⟩
    refine ⟨.str (S' u), rfl, u, rfl, hu, fun H1 s1 => ⟨_, _, rfl, rfl, by rw [len_S', l2, sizeLine_eq]; omega, ⟨_, rfl⟩, .ref p, rfl, p, rfl, ⟨_, .inl (.inl (s1 _ _ ep))⟩, fun D hD => lc_pure (fun i => us.getD i .non) (fun i => .str (S' (oneL false (os.getD i ([], []))))) walk_listF (fun H2 s2 => s2.seq (.inl (.inl (s1 _ _ ep)))) hD (by rw [sizeLine_eq]; omega) (fun i H2 Q2 hi s2 q2 => ?_) (fun H2 s2 e2 => ?_)⟩⟩
    · rw [hul] at hi
      obtain ⟨ti, ei, hti⟩ := hos.at i hi
      rw [ei]
      exact ⟨_, rfl, ti, _, rfl, s2 _ _ (s1 _ _ hti), hall _ (by
          rw [List.getD_eq_getElem?_getD, List.getElem?_eq_getElem hi]
          exact List.getElem_mem hi), q2⟩
    · rw [hul, range_str (oneL false) ([], []) os] at e2
      refine ⟨Str.ofString ", ", D, _, rfl, rfl, .inl (.inl (.inl e2)), by omega, ?_⟩
      rw [j2]
      refine ⟨_, _, rfl, rfl, by rw [len_app, len_S', l2, len_S', sizeLine_eq]; omega, _, _, rfl, rfl, by rw [len_app, len_app, len_S', l2, len_S', l1, sizeLine_eq]; omega, ?_⟩
      have er : S' (calL false u) ++ Str.ofString ": " ++ S' (TL.joinL [44, 32] (os.map (oneL false))) ++ Str.ofString ";" = S' (itemL false (.grp u os)) := TL.ext_tl (by unfold itemL; rw [TL.tl_append, TL.tl_append, TL.tl_append, tl_cosp, tl_semi, tl_S', tl_S', tl_S']; simp)
      show Q (.str (S' (calL false u) ++ Str.ofString ": " ++ S' (TL.joinL [44, 32] (os.map (oneL false))) ++ Str.ofString ";")) H2
      rw [er]
      exact q _ (s1.trans s2)
/-! ### people_text -/
abbrev s_people_text : Stmt := topS 34
abbrev N_people_text : List Str := ["people", "told"]
abbrev P_people_text : List Str := ["people"]
theorem sc_people_text : FnScope N_people_text ["people"] (defScope s_people_text) := ⟨rfl, rfl, rfl, by decide +kernel, rfl, by decide +kernel, by decide +kernel⟩
def sp_ptext15 : Sp := fun vs H Q _ => ∃ (l : Addr) (us : List V) (xs : List Item) (As : List (List Addr)), vs = [.ref l] ∧ H l = some (.lst us) ∧ Rs ItemR H us xs As ∧ (∀ x ∈ xs, GoodItem x) ∧ xs.length ≤ 20 ∧ Tell H (.str (S' (TL.joinL [44, 32] (xs.map (itemL false))))) Q
theorem ok_ptext15 {f f1 f2 : Addr} {fd fd1 fd2 : FuncData} (F : Fun K "people_text" "people_text" s_people_text f fd) (T : Tx mg tk) (D_group_text : Def P w K mg base "group_text" 5 f1 fd1 P_group_text sp_group15) (D_one_text : Def P w K mg base "one_text" 4 f2 fd2 P_one_text sp_one15) : FnOk P w K mg base CX0 6 f fd P_people_text sp_ptext15 := by
  refine F.ok sc_people_text (fun vs H Q E h => ?_) (fun cdv A outer s H vs Q E hr h => ?_)
  · obtain ⟨l, us, xs, As, rfl, _⟩ := h
    rfl
  · have nd := sc_people_text.nd
    obtain ⟨l, us, xs, As, rfl, el, hrs, hg, hn, q⟩ := h
    refine ⟨_, (pss_one (ps_ret (pe_join pe_str (pe_lc (own := [("told", 1)]) (g := gName 1) (by rfl) nd (pi_list (pv 0)) (blkOk_by (N := N_people_text) (sc := defScope s_people_text) (by decide +kernel)) (fun _ _ _ _ _ => (pg_name (i := 1) nd rfl (Or.inl rfl))) (fun _ _ _ _ _ => pts_nil) (fun _ _ _ _ _ => (pe_ifExp (pt_cmpR op_eq (pe_ix (ixT K) (pv 1) pe_int (fun _ _ => rfl)) pe_str (nomark _)) (pe_def D_group_text (hr.mono (by decide)) (pa_cons (pv 1) pa_nil)) (pe_def D_one_text (hr.mono (by decide)) (pa_cons (pv 1) pa_nil)))))))), ?_⟩
    have hul := hrs.len
    obtain ⟨j1, j2, j3⟩ := items_join hg hn
    refine ⟨⟨_, rfl⟩, .ref l, rfl, l, rfl, ⟨_, .inl (.inl el)⟩, fun D hD => lc_pure (fun i => us.getD i .non) (fun i => .str (S' (itemL false (xs.getD i (.grp [] []))))) walk_listF (fun H2 s2 => s2.seq (.inl (.inl el))) hD (by rw [sizeLine_eq]; omega) (fun i H2 Q2 hi s2 q2 => ?_) (fun H2 s2 e2 => ?_)⟩
    · rw [hul] at hi
      have hit := (hrs.up s2).at (.grp [] []) i hi
      have hgi : GoodItem (xs.getD i (.grp [] [])) := hg _ (by
        rw [List.getD_eq_getElem?_getD, List.getElem?_eq_getElem hi]
        exact List.getElem_mem hi)
      generalize us.getD i .non = v at *
      generalize As.getD i [] = A at *
      generalize xs.getD i (.grp [] []) = it at *
      cases it with
      | one o =>
        obtain ⟨rfl, t, rfl, et⟩ := hit
        refine ⟨.ref t, rfl, t, _, 0, _, rfl, rfl, .inl (.inl et), rfl, rfl, _, rfl, ?_⟩
        rw [one_ne.2.2.1]
        exact iteF ⟨.ref t, rfl, t, o, rfl, et, hgi, q2⟩
      | grp u os =>
        obtain ⟨t, p, ws, rfl, rfl, et, ep, hos⟩ := hit
        refine ⟨.ref t, rfl, t, _, 0, _, rfl, rfl, .inl (.inl et), rfl, rfl, _, rfl, ?_⟩
        rw [one_ne.2.2.2]
        exact iteT ⟨.ref t, rfl, t, p, ws, u, os, rfl, et, ep, hos, hgi, q2⟩
    · rw [hul, range_str (itemL false) (.grp [] []) xs] at e2
      refine ⟨Str.ofString ", ", D, _, rfl, rfl, .inl (.inl (.inl e2)), by omega, ?_⟩
      rw [j2]
      exact q _ s2
end
end K15

namespace K15
open PySem PySem.Spec PyProof.Rows L2 LH
theorem nodbl_count {u : List Nat} (h : u.count 32 ≤ 1) : NoDbl u := by
  intro p c s e hc hl
  subst hc
  obtain ⟨q, rfl⟩ : ∃ q, p = q ++ [32] := by
    rcases List.eq_nil_or_concat p with hp | ⟨q, d, hp⟩
    · rw [hp] at hl; exact nomatch hl
    · rw [List.concat_eq_append] at hp
      rw [hp, List.getLast?_append] at hl
      simp at hl
      exact ⟨q, by rw [hp, hl]⟩
  rw [e] at h
  simp only [List.count_append, List.count_cons_self, List.count_nil] at h
  omega
theorem qgood_of {u : List Nat} (h1 : 1 ≤ u.length) (h2 : u.length ≤ 30) (h3 : ∀ c ∈ u, QC c) (h4 : u.count 32 ≤ 1) : GoodName u := .inr ⟨h1, h2, h3, nodbl_count h4⟩
theorem qc97 : QC 97 := by unfold QC; decide +kernel
theorem qc45 : QC 45 := by unfold QC; decide +kernel
theorem qc46 : QC 46 := by unfold QC; decide +kernel
theorem qc_l1 : ∀ x ∈ TL.tl (Str.ofString "a b c d"), QC x := by unfold QC; decide +kernel
theorem qc_l2 : ∀ x ∈ TL.tl (Str.ofString "a b c d e"), QC x := by unfold QC; decide +kernel
def nearL (w : List Nat) : List (List Nat) := [w ++ w, w ++ w ++ [97], TL.tl (Str.ofString "a b c d"), TL.tl (Str.ofString "a b c d e"), 32 :: w, w ++ [32], w ++ [45] ++ w, w ++ [46], [34], [92], [97, 92], [34, 97]]
theorem near_good {w : List Nat} (hw : w.length = 6) (hm : ∀ x ∈ w, x ∈ TL.tl CALLEDL) : ∀ u ∈ nearL w, GoodName u := by
  have hq : ∀ x ∈ w, QC x := fun x hx => .inr (.inr (.inr (cal_qc x (cal_in x (hm x hx)))))
  have h0 : w.count 32 = 0 := List.count_eq_zero.mpr fun h => cno32 (cal_in 32 (hm 32 h))
  have q32 : QC 32 := .inl rfl
  intro u hu
  unfold nearL at hu
  simp only [List.mem_cons, List.not_mem_nil, or_false] at hu
  rcases hu with rfl | rfl | rfl | rfl | rfl | rfl | rfl | rfl | rfl | rfl | rfl | rfl
  · exact qgood_of (by simp [hw]) (by simp [hw]) (fun c hc => by rcases List.mem_append.mp hc with h | h <;> exact hq c h) (by rw [List.count_append, h0]; decide)
  · refine qgood_of (by simp [hw]) (by simp [hw]) (fun c hc => ?_) (by rw [List.count_append, List.count_append, h0]; decide)
    simp only [List.mem_append, List.mem_singleton] at hc
    rcases hc with (h | h) | rfl
    · exact hq c h
    · exact hq c h
    · exact qc97
  · exact .inr ⟨by decide +kernel, by decide +kernel, qc_l1, nodbl_of (by decide +kernel)⟩
  · exact .inr ⟨by decide +kernel, by decide +kernel, qc_l2, nodbl_of (by decide +kernel)⟩
  · refine qgood_of (by simp [hw]) (by simp [hw]) (fun c hc => ?_) (by rw [List.count_cons_self, h0]; decide)
    rcases List.mem_cons.mp hc with rfl | h
    · exact q32
    · exact hq c h
  · refine qgood_of (by simp [hw]) (by simp [hw]) (fun c hc => ?_) (by rw [List.count_append, h0]; decide)
    simp only [List.mem_append, List.mem_singleton] at hc
    rcases hc with h | rfl
    · exact hq c h
    · exact q32
  · refine qgood_of (by simp [hw]) (by simp [hw]) (fun c hc => ?_) (by rw [List.count_append, List.count_append, h0]; decide)
    simp only [List.mem_append, List.mem_singleton] at hc
    rcases hc with (h | rfl) | h
    · exact hq c h
    · exact qc45
    · exact hq c h
  · refine qgood_of (by simp [hw]) (by simp [hw]) (fun c hc => ?_) (by rw [List.count_append, h0]; decide)
    simp only [List.mem_append, List.mem_singleton] at hc
    rcases hc with h | rfl
    · exact hq c h
    · exact qc46
  · exact qgood_of (by decide) (by decide) (fun c hc => by rw [List.mem_singleton.mp hc]; exact .inr (.inl rfl)) (by decide)
  · exact qgood_of (by decide) (by decide) (fun c hc => by rw [List.mem_singleton.mp hc]; exact .inr (.inr (.inl rfl))) (by decide)
  · refine qgood_of (by decide) (by decide) (fun c hc => ?_) (by decide)
    simp only [List.mem_cons, List.not_mem_nil, or_false] at hc
    rcases hc with rfl | rfl
    · exact qc97
    · exact .inr (.inr (.inl rfl))
  · refine qgood_of (by decide) (by decide) (fun c hc => ?_) (by decide)
    simp only [List.mem_cons, List.not_mem_nil, or_false] at hc
    rcases hc with rfl | rfl
    · exact .inr (.inl rfl)
    · exact qc97
theorem near_vals (w : List Nat) : [V.str (S' w ++ S' w), .str (S' w ++ S' w ++ Str.ofString "a"), .str (Str.ofString "a b c d"), .str (Str.ofString "a b c d e"), .str (Str.ofString " " ++ S' w), .str (S' w ++ Str.ofString " "), .str (S' w ++ Str.ofString "-" ++ S' w)] ++ [V.str (S' w ++ Str.ofString "."), .str (Str.ofString "\""), .str (Str.ofString "\\"), .str (Str.ofString "a\\"), .str (Str.ofString "\"a")] = (sL (nearL w)).map V.str := by
  have e : ∀ (z : Str) (l : List Nat), TL.tl z = l → z = S' l := fun z l h => TL.ext_tl (by rw [h, tl_S'])
  have e1 := e (S' w ++ S' w) (w ++ w) (by rw [TL.tl_append, tl_S'])
  have e2 := e (S' w ++ S' w ++ Str.ofString "a") (w ++ w ++ [97]) (by rw [TL.tl_append, TL.tl_append, tl_S']; congr 1)
  have e3 := e (Str.ofString "a b c d") _ rfl
  have e4 := e (Str.ofString "a b c d e") _ rfl
  have e5 := e (Str.ofString " " ++ S' w) (32 :: w) (by rw [TL.tl_append, tl_S', tl_sp]; rfl)
  have e6 := e (S' w ++ Str.ofString " ") (w ++ [32]) (by rw [TL.tl_append, tl_S', tl_sp])
  have e7 := e (S' w ++ Str.ofString "-" ++ S' w) (w ++ [45] ++ w) (by rw [TL.tl_append, TL.tl_append, tl_S', show TL.tl (Str.ofString "-") = [45] by decide +kernel])
  have e8 := e (S' w ++ Str.ofString ".") (w ++ [46]) (by rw [TL.tl_append, tl_S', tl_dot])
  have e9 := e (Str.ofString "\"") [34] tl_qu
  have e10 := e (Str.ofString "\\") [92] tl_bs
  have e11 := e (Str.ofString "a\\") [97, 92] (by decide +kernel)
  have e12 := e (Str.ofString "\"a") [34, 97] (by decide +kernel)
  rw [e2, e1, e5, e6, e7, e8, e9, e10, e11, e12]
  show [V.str (S' (w ++ w)), .str (S' (w ++ w ++ [97])), .str (Str.ofString "a b c d"), .str (Str.ofString "a b c d e"), .str (S' (32 :: w)), .str (S' (w ++ [32])), .str (S' (w ++ [45] ++ w)), V.str (S' (w ++ [46])), .str (S' [34]), .str (S' [92]), .str (S' [97, 92]), .str (S' [34, 97])] = [V.str (S' (w ++ w)), .str (S' (w ++ w ++ [97])), .str (S' (TL.tl (Str.ofString "a b c d"))), .str (S' (TL.tl (Str.ofString "a b c d e"))), .str (S' (32 :: w)), .str (S' (w ++ [32])), .str (S' (w ++ [45] ++ w)), V.str (S' (w ++ [46])), .str (S' [34]), .str (S' [92]), .str (S' [97, 92]), .str (S' [34, 97])]
  rw [← e3, ← e4]
theorem Rs.set {β : Type} {ER : Hp → V → β → List Addr → Prop} {H : Hp} {v : V} {x : β} : ∀ {us : List V} {xs : List β} {As : List (List Addr)} (i : Nat), Rs ER H us xs As → i < xs.length → ER H v x (As.getD i []) → Rs ER H (us.set i v) (xs.set i x) As
  | _ :: _, _ :: _, _ :: _, 0, h, _, hx => ⟨hx, h.2⟩
  | _ :: _, _ :: _, _ :: _, i + 1, h, hi, hx => ⟨h.1, Rs.set i h.2 (Nat.lt_of_succ_lt_succ hi) hx⟩
  | [], [], [], _, _, h, _ => absurd h (Nat.not_lt_zero _)
  | [], [], _ :: _, _, h, _, _ => h.elim
  | [], _ :: _, _, _, h, _, _ => h.elim
  | _ :: _, [], _, _, h, _, _ => h.elim
  | _ :: _, _ :: _, [], _, h, _, _ => h.elim
theorem PeopleAt.set {H0 H : Hp} {D : Addr} {us : List V} {xs : List Item} {As : List (List Addr)} (h : PeopleAt H0 H D us xs As) {n : Nat} {v : V} {x : Item} (hn : n < xs.length) (hx : ItemR H v x (As.getD n [])) (hg : GoodItem x) : PeopleAt H0 (upd H D (.lst (us.set n v))) D (us.set n v) (xs.set n x) As := by
  obtain ⟨h1, h2, h3, h4, h5, h6, h7, h8⟩ := h
  refine ⟨h1, upd_same, Rs.stab item_stab (Rs.set n h3 hn hx) (fun b ys hb => ?_) (fun b hb => upd_ne (h4 b hb).2), h4, h5, fun e => ?_, by rw [List.length_set]; exact h7, fun y hy => ?_⟩
  · rw [upd_ne (fun e => by rw [e, h2] at hb; exact nomatch hb)]
    exact hb
  · have := congrArg List.length e
    rw [List.length_set] at this
    exact h6 (List.eq_nil_of_length_eq_zero this)
  · rcases List.mem_or_eq_of_mem_set hy with hy | rfl
    · exact h8 y hy
    · exact hg
section
variable {P : Program} {w : World} {K : PySem.W.Frag} {mg : Str → Option Value} {base : Heap} {tk : Nat → Tok} {ca : Nat → Addr} {C : Addr}
/-! ### _law_nearly -/
abbrev s__law_nearly : Stmt := topS 59
abbrev N__law_nearly : List Str := ["_law_cell", "_law_number", "_law_word", "_law_some"]
abbrev P__law_nearly : List Str := ["_law_cell"]
theorem sc__law_nearly : FnScope N__law_nearly ["_law_cell"] (defScope s__law_nearly) := ⟨rfl, rfl, rfl, by decide +kernel, rfl, by decide +kernel, by decide +kernel⟩
def sp_nearly : Sp := fun vs H Q _ => ∃ c : Int, vs = [.int c] ∧ ∀ u, GoodName u → Tell H (.str (S' u)) Q
theorem ok_nearly {f f1 f2 f3 : Addr} {fd fd1 fd2 fd3 : FuncData} (F : Fun K "_law_nearly" "_law_nearly" s__law_nearly f fd) (T : Tx mg tk) (D__law_mixed : Def P w K mg base "_law_mixed" 1 f1 fd1 P__law_mixed sp_mixed) (D__law_text : Def P w K mg base "_law_text" 2 f2 fd2 P__law_text sp_text) (D__law_called : Def P w K mg base "_law_called" 2 f3 fd3 P__law_called sp_called) : FnOk P w K mg base CX0 3 f fd P__law_nearly sp_nearly := by
  refine F.ok sc__law_nearly (fun vs H Q E h => ?_) (fun cdv A outer s H vs Q E hr h => ?_)
  · obtain ⟨c, rfl, _⟩ := h
    rfl
  · have nd := sc__law_nearly.nd
    obtain ⟨c, rfl, q⟩ := h
    refine ⟨_, (pss_cons (ps_set (i := 1) nd rfl (.inl rfl) (pe_def D__law_mixed (hr.mono (by decide)) (pa_cons (pv 0) (pa_cons pe_int pa_nil))))
      (pss_cons (ps_set (i := 2) nd rfl (.inl rfl) (pe_def D__law_text (hr.mono (by decide)) (pa_cons (pv 0) (pa_cons pe_int (pa_cons (pe_def0 D__law_called (hr.mono (by decide))) (pa_cons pe_int pa_nil))))))
      (pss_cons (ps_set (i := 3) nd rfl (.inl rfl) (pe_lst (pa_cons (pe_op op_add_str (pv 2) (pv 2)) (pa_cons (pe_op op_add_str (pe_op op_add_str (pv 2) (pv 2)) pe_str) (pa_cons pe_str (pa_cons pe_str (pa_cons (pe_op op_add_str pe_str (pv 2)) (pa_cons (pe_op op_add_str (pv 2) pe_str) (pa_cons (pe_op op_add_str (pe_op op_add_str (pv 2) pe_str) (pv 2)) pa_nil)))))))))
      (pss_one (ps_ret (pe_ix (ixL K) (pe_op op_cat (pv 3) (pe_lst (pa_cons (pe_op op_add_str (pv 2) pe_str) (pa_cons pe_str (pa_cons pe_str (pa_cons pe_str (pa_cons pe_str pa_nil))))))) (pe_op op_mod (pv 1) pe_int) (fun _ _ => rfl))))))), ?_⟩
    dsimp only [gName, tSeq, tAsg]
    refine ⟨.int c, rfl, c, 70, rfl, by decide, by decide, fun m hm H1 s1 => ⟨.int c, rfl, rfl, c, 71, CALLEDL, 6, rfl, by decide, by decide, by decide +kernel, by decide +kernel, fun w hw hwm H2 s2 => ?_⟩⟩
    have hW : (S' w).length = 6 := by rw [len_S', hw]
    have l1 : ∀ n, n ≤ 100 → n ≤ sizeLine := fun n hn => by rw [sizeLine_eq]; omega
    have ea : (Str.ofString "a").length = 1 := by decide +kernel
    have eb : (Str.ofString " ").length = 1 := by decide +kernel
    have em : (Str.ofString "-").length = 1 := by decide +kernel
    have ed : (Str.ofString ".").length = 1 := by decide +kernel
    refine ⟨.str (S' w), rfl, .str (S' w), rfl, _, _, rfl, rfl, l1 _ (by omega), .str (S' w), rfl, .str (S' w), rfl, _, _, rfl, rfl, l1 _ (by omega), _, _, rfl, rfl, l1 _ (by rw [len_app]; omega), .str (S' w), rfl, _, _, rfl, rfl, l1 _ (by omega), .str (S' w), rfl, _, _, rfl, rfl, l1 _ (by omega), .str (S' w), rfl, _, _, rfl, rfl, l1 _ (by omega), .str (S' w), rfl, _, _, rfl, rfl, l1 _ (by rw [len_app]; omega), l1 7 (by decide), fun p np => ?_⟩
    have t1 := same_upd (o := .lst [V.str (S' w ++ S' w), .str (S' w ++ S' w ++ Str.ofString "a"), .str (Str.ofString "a b c d"), .str (Str.ofString "a b c d e"), .str (Str.ofString " " ++ S' w), .str (S' w ++ Str.ofString " "), .str (S' w ++ Str.ofString "-" ++ S' w)]) np
    have g1 : upd H2 p (.lst [V.str (S' w ++ S' w), .str (S' w ++ S' w ++ Str.ofString "a"), .str (Str.ofString "a b c d"), .str (Str.ofString "a b c d e"), .str (Str.ofString " " ++ S' w), .str (S' w ++ Str.ofString " "), .str (S' w ++ Str.ofString "-" ++ S' w)]) p = _ := upd_same
    generalize upd H2 p (.lst [V.str (S' w ++ S' w), .str (S' w ++ S' w ++ Str.ofString "a"), .str (Str.ofString "a b c d"), .str (Str.ofString "a b c d e"), .str (Str.ofString " " ++ S' w), .str (S' w ++ Str.ofString " "), .str (S' w ++ Str.ofString "-" ++ S' w)]) = G1 at *
    obtain ⟨k, hk, hk12⟩ : ∃ k : Nat, ((m : Nat) : Int) % 12 = (k : Nat) ∧ k < 12 := ⟨m % 12, by omega, by omega⟩
    obtain ⟨u, hu, hat⟩ : ∃ u, GoodName u ∧ atI ((sL (nearL w)).map V.str) (((m : Nat) : Int) % 12) = some (.str (S' u)) := by
      have hl : (nearL w).length = 12 := rfl
      refine ⟨(nearL w)[k], near_good hw hwm _ (List.getElem_mem _), ?_⟩
      rw [hk]
      refine atI_nat ?_
      unfold sL
      rw [List.getElem?_map, List.getElem?_map, List.getElem?_eq_getElem (by omega)]
      rfl
    refine ⟨.ref p, rfl, .str (S' w), rfl, _, _, rfl, rfl, l1 _ (by omega), l1 5 (by decide), fun p2 np2 => ⟨p, p2, _, _, rfl, rfl, same_upd np2 _ _ g1, upd_same, l1 12 (by decide), fun p3 np3 => ⟨.int (m : Nat), rfl, _, 12, rfl, rfl, (show (0 : Int) < 12 by decide), p3, _, _, .str (S' u), rfl, rfl, .inl (.inl upd_same), ?_, q u hu _ (s1.trans (s2.trans (t1.trans ((same_upd np2).trans (same_upd np3)))))⟩⟩⟩
    rw [near_vals w]
    exact hat
/-! ### law -/
abbrev s_law : Stmt := topS 60
abbrev N_law : List Str := ["_law_script", "_law_cells", "_law_people_here", "_law_cell", "_law_due", "_law_handed", "_law_turn", "_law_at", "_law_found"]
abbrev P_law : List Str := ["_law_script"]
theorem sc_law : FnScope N_law ["_law_script"] (defScope s_law) := ⟨rfl, rfl, rfl, by decide +kernel, rfl, by decide +kernel, by decide +kernel⟩
def spLaw (K : PySem.W.Frag) : Sp := fun vs H Q _ => ∃ (a : Addr) (ns : List Int), vs = [.ref a] ∧ SqL K H a (ns.map V.int) ∧ ns.length ≤ 63 ∧ ∀ H', Q (.bl true) H'
theorem ok_law {f f1 f2 f3 f4 f5 f6 f7 f8 : Addr} {fd fd1 fd2 fd3 fd4 fd5 fd6 fd7 fd8 : FuncData} (F : Fun K "law" "law" s_law f fd) (T : Tx mg tk) (D__law_people : Def P w K mg base "_law_people" 5 f1 fd1 P__law_people sp_lpeople) (D__law_mixed : Def P w K mg base "_law_mixed" 1 f2 fd2 P__law_mixed sp_mixed) (D__law_people_text : Def P w K mg base "_law_people_text" 7 f3 fd3 P__law_people_text sp_ptext) (D_people_of : Def P w K mg base "people_of" 13 f4 fd4 P_people_of sp_people) (D__law_people_right : Def P w K mg base "_law_people_right" 1 f5 fd5 P__law_people_right sp_right) (D__law_copied : Def P w K mg base "_law_copied" 1 f6 fd6 P__law_copied sp_copied) (D_people_text : Def P w K mg base "people_text" 6 f7 fd7 P_people_text sp_ptext15) (D__law_nearly : Def P w K mg base "_law_nearly" 3 f8 fd8 P__law_nearly sp_nearly) : FnOk P w K mg base CX0 14 f fd ["_law_script"] (spLaw K) := by
  refine F.ok sc_law (fun vs H Q E h => ?_) (fun cdv A outer s H vs Q E hr h => ?_)
  · obtain ⟨c, ns, rfl, _⟩ := h
    rfl
  · have nd := sc_law.nd
    obtain ⟨c, ns, rfl, ec, hn, q⟩ := h
    refine ⟨_, (pss_cons (ps_set (i := 1) nd rfl (.inl rfl) (pe_slice (slL K) (pv 0) po_none (po_some pe_int)))
      (pss_cons (ps_set (i := 2) nd rfl (.inl rfl) (pe_def D__law_people (hr.mono (by decide)) (pa_cons (pv 1) pa_nil)))
      (pss_cons (ps_for PassesOwn.never rfl (pi_list (pe_slice (slL K) (pv 1) po_none (po_some pe_int))) (pg_name (i := 3) nd rfl (Or.inl rfl))
        (pss_cons (ps_set (i := 7) nd rfl (.inl rfl) (pe_op op_mod (pe_def D__law_mixed (hr.mono (by decide)) (pa_cons (pv 3) (pa_cons pe_int pa_nil))) (pe_callB (cLen K) (by rfl) T.n_len (by decide +kernel) (pa_cons (pv 2) pa_nil))))
        (pss_cons (ps_if (PW.pt (pw_and (pt_cmpR op_eq (pe_ix (ixT K) (pe_ix (ixL K) (pv 2) (pv 7) (fun _ _ => rfl)) pe_int (fun _ _ => rfl)) pe_str (nomark _)) (pw_and1 (pt_cmpR op_ne (pe_ix (ixT K) (pe_ix (ixL K) (pv 2) (pv 7) (fun _ _ => rfl)) pe_int (fun _ _ => rfl)) pe_str (nomark _)))))
          (pss_one (ps_asg (pe_tup (pa_cons pe_str (pa_cons (pe_def D__law_nearly (hr.mono (by decide)) (pa_cons (pv 3) pa_nil)) (pa_cons (pe_ix (ixT K) (pe_ix (ixL K) (pv 2) (pv 7) (fun _ _ => rfl)) pe_int (fun _ _ => rfl)) pa_nil)))) (pg_sub (pv 2) (pv 7) set_list)))
          pss_nil)
        (pss_one (ps_if (pt_cmpR op_eq (pe_ix (ixT K) (pe_ix (ixL K) (pv 2) (pv 7) (fun _ _ => rfl)) pe_int (fun _ _ => rfl)) pe_str (nomark _))
          (pss_one (ps_asg (pe_tup (pa_cons pe_str (pa_cons (pe_def D__law_nearly (hr.mono (by decide)) (pa_cons (pv 3) pa_nil)) (pa_cons (pe_ix (ixT K) (pe_ix (ixL K) (pv 2) (pv 7) (fun _ _ => rfl)) pe_int (fun _ _ => rfl)) pa_nil)))) (pg_sub (pv 2) (pv 7) set_list)))
          pss_nil)))))
      (pss_cons (ps_set (i := 4) nd rfl (.inl rfl) (pe_def D__law_people_text (hr.mono (by decide)) (pa_cons (pv 2) (pa_cons pe_bl pa_nil))))
      (pss_cons (ps_set (i := 5) nd rfl (.inl rfl) (pe_def D__law_copied (hr.mono (by decide)) (pa_cons (pv 2) pa_nil)))
      (pss_cons (ps_for PassesOwn.never rfl (pi_range1 (by rfl) T.n_range (pa_cons pe_int pa_nil)) (pg_name (i := 6) nd rfl (Or.inl rfl))
        (pss_cons (ps_set (i := 8) nd rfl (.inl rfl) (pe_def D_people_text (hr.mono (by decide)) (pa_cons (pv 5) pa_nil)))
        (pss_one (ps_if (PW.pt (pw_or (pt_not (pt_val (pe_callB (cIsi K) (by rfl) T.n_isinstance (by decide +kernel) (pa_cons (pv 8) (pa_cons (pe_bltn (v := .ty "str") (by rfl) T.n_str (by decide +kernel) rfl) pa_nil))))) (pw_or (pt_cmpR op_ne (pv 8) (pv 4) (nomark _)) (pw_or1 (pt_cmpR (oNeD K hr.units) (pv 5) (pv 2) (nomark _))))))
          (pss_one (ps_ret pe_bl))
          pss_nil))))
      (pss_cons (ps_expr (pe_bm0 PySem.F.plainAttrs_list PySem.F.slot_list_clear PySem.F.type_list_clear mt_clear (pv 5)))
      (pss_one (ps_ret (pe_and (pe_def D__law_people_right (hr.mono (by decide)) (pa_cons (pe_def D_people_of (hr.mono (by decide)) (pa_cons (pv 4) pa_nil)) (pa_cons (pv 2) pa_nil))) (pe_one (pe_cmpR op_eq (pe_def D_people_text (hr.mono (by decide)) (pa_cons (pe_def D__law_copied (hr.mono (by decide)) (pa_cons (pv 2) pa_nil)) pa_nil)) (pv 4) (nomark _))))))))))))), ?_⟩
    have h1 : (1 : Nat) ≤ sizeLine := by rw [sizeLine_eq]; decide
    have h3 : (3 : Nat) ≤ sizeLine := by rw [sizeLine_eq]; decide
    dsimp only [gName, tSeq, tAsg]
    refine ⟨.ref c, rfl, 60, rfl, c, _, rfl, ec, fun d hd => ?_⟩
    rw [show (60 : Int) = ((60 : Nat) : Int) from rfl, cutV_to, ← List.map_take]
    have ed : upd H d (.lst ((ns.take 60).map V.int)) d = some (.lst ((ns.take 60).map V.int)) := upd_same
    have hms : (ns.take 60).length ≤ 60 := by rw [List.length_take]; omega
    generalize upd H d (.lst ((ns.take 60).map V.int)) = H1 at ed ⊢
    generalize ns.take 60 = ms at *
    refine ⟨.ref d, rfl, d, ms, rfl, ed, by omega, fun H2 D us xs As s2 hp ep hrs hfr hnd hne hxl hg => ?_⟩
    have p2 : PeopleAt H1 H2 D us xs As := ⟨hp, ep, hrs, hfr, hnd, hne, hxl, hg⟩
    refine ⟨.ref d, rfl, 20, rfl, d, _, rfl, .inl (.inl (s2 _ _ ed)), fun r hr => ?_⟩
    rw [show (20 : Int) = ((20 : Nat) : Int) from rfl, cutV_to, ← List.map_take]
    have p3 := p2.up (same_upd hr (o := .lst ((ms.take 20).map V.int)))
    have er : upd H2 r (.lst ((ms.take 20).map V.int)) r = some (.lst ((ms.take 20).map V.int)) := upd_same
    have hrD : r ≠ D := fun e => by rw [e, ep] at hr; exact nomatch hr
    generalize upd H2 r (.lst ((ms.take 20).map V.int)) = H3 at p3 er ⊢
    generalize ms.take 20 = ks at *
    clear hrs hfr hnd hne hxl hg p2 ep
    refine ⟨r, rfl, ⟨_, .inl (.inl er)⟩, for_it (walk_listF (xs := ks.map V.int)) (fun i σ H' => ∃ (y3 y7 : Option V) (us : List V) (xs : List Item), σ = [some (.ref c), some (.ref d), some (.ref D), y3, none, none, none, y7, none] ∧ PeopleAt H1 H' D us xs As ∧ H' r = some (.lst (ks.map V.int))) ⟨none, none, us, xs, rfl, p3, er⟩ (fun i σ H' _ h => by obtain ⟨_, _, _, _, _, _, e⟩ := h; exact .inl (.inl e)) (fun i x σ H4 H5 hi hP hy => ?_) (fun σ H4 hP => ?_)⟩
    · obtain ⟨_, _, us, xs, rfl, p5, er5⟩ := hP
      obtain ⟨rfl, rfl⟩ := hy
      dsimp only
      rw [LH.getD_map_int _ _ (by rw [List.length_map] at hi; exact hi)]
      generalize ks.getD i 0 = cell
      show tSeq _ _ _ [some (V.ref c), some (.ref d), some (.ref D), some (.int cell), none, none, none, _, none] _
      dsimp only [gName, tSeq, tAsg]
      refine ⟨.int cell, rfl, cell, 72, rfl, by decide, by decide, fun m hm H6 s6 => ?_⟩
      have p6 := p5.up s6
      have er6 := s6 _ _ er5
      clear p5 er5
      have hul := p6.2.2.1.len
      have hpos : 0 < us.length := by
        rw [hul]
        exact List.length_pos_iff.mpr p6.2.2.2.2.2.1
      obtain ⟨n, hn1, hn2⟩ : ∃ n : Nat, ((m : Nat) : Int) % ((us.length : Nat) : Int) = (n : Nat) ∧ n < us.length := ⟨m % us.length, by omega, Nat.mod_lt _ hpos⟩
      refine ⟨.ref D, rfl, D, us, rfl, .inl (.inl (.inl p6.2.1)), _, _, rfl, rfl, (show (0 : Int) < (us.length : Nat) by omega), ?_⟩
      dsimp only
      rw [hn1]
      have hat : atI us ((n : Nat) : Int) = some (us.getD n .non) := atI_nat (by rw [List.getElem?_eq_getElem hn2, List.getD_eq_getElem?_getD, List.getElem?_eq_getElem hn2]; rfl)
      have hit := p6.2.2.1.at (.grp [] []) n (by omega)
      have hgi : GoodItem (xs.getD n (.grp [] [])) := p6.2.2.2.2.2.2.2 _ (by
        rw [List.getD_eq_getElem?_getD, List.getElem?_eq_getElem (by omega)]
        exact List.getElem_mem (by omega))
      have key : ∀ H' us xs, PeopleAt H1 H' D us xs As → H' r = some (.lst (ks.map V.int)) → ∃ (y3 y7 : Option V) (us : List V) (xs : List Item), [some (V.ref c), some (.ref d), some (.ref D), some (.int cell), none, none, none, some (.int (n : Nat)), none] = [some (V.ref c), some (.ref d), some (.ref D), y3, none, none, none, y7, none] ∧ PeopleAt H1 H' D us xs As ∧ H' r = some (.lst (ks.map V.int)) := fun H' us xs a b => ⟨_, _, us, xs, rfl, a, b⟩
      have hset : ∀ H7 v x, Same H6 H7 → ItemR H7 v x (As.getD n []) → GoodItem x → PeopleAt H1 (upd H7 D (.lst (us.set n v))) D (us.set n v) (xs.set n x) As := fun H7 v x s7 hx hg => (p6.up s7).set (by omega) hx hg
      have hrr : ∀ H7 v, Same H6 H7 → upd H7 D (.lst (us.set n v)) r = some (.lst (ks.map V.int)) := fun H7 v s7 => by rw [upd_ne hrD]; exact s7 _ _ er6
      show tIfS _ _ _ _ [some (V.ref c), some (.ref d), some (.ref D), some (.int cell), none, none, none, some (.int (n : Nat)), none] _
      generalize us.getD n .non = v at *
      generalize As.getD n [] = A at *
      generalize xs.getD n (.grp [] []) = it at *
      have hix : ixN us.length ((n : Nat) : Int) = some n := by
        unfold ixN
        rw [if_pos (by omega), if_pos (by omega)]
        rfl
      have hat2 : ∀ v', atI (us.set n v') ((n : Nat) : Int) = some v' := fun v' => atI_nat (List.getElem?_set_self hn2)
      cases it with
      | one o =>
        obtain ⟨rfl, t, rfl, et⟩ := hit
        have hdec : decide (V.str (S' o.1) = V.str (Str.ofString "")) = decide (o.1 = []) := decide_eq_decide.mpr ⟨fun h => by have := congrArg TL.tl (V.str.inj h); rw [tl_em] at this; exact this, fun h => congrArg V.str (TL.ext_tl (by rw [tl_em, h]; rfl))⟩
        refine ifT (true && !decide (o.1 = [])) (fun k q1 => andT true _ (fun k q2 => ⟨.ref D, rfl, .int (n : Nat), rfl, D, us, _, .ref t, rfl, rfl, .inl (.inl p6.2.1), hat, t, _, 0, _, rfl, rfl, .inl (.inl et), rfl, rfl, _, rfl, TellB.eq one_ne.1 q2 _ (Same.refl _)⟩) (fun _ H7 k s7 q2 => ⟨.ref D, rfl, .int (n : Nat), rfl, D, us, _, .ref t, rfl, rfl, .inl (.inl (s7 _ _ p6.2.1)), hat, t, _, 1, _, rfl, rfl, .inl (.inl (s7 _ _ et)), rfl, rfl, _, rfl, TellB.eq (congrArg (! ·) hdec) q2 _ (Same.refl _)⟩) q1) (fun hb H7 s7 => ?_) (fun hb H7 s7 => ?_)
        · refine ⟨.int cell, rfl, cell, rfl, fun u hu H8 s8 => ⟨.ref D, rfl, .int (n : Nat), rfl, D, us, _, .ref t, rfl, rfl, .inl (.inl (s8 _ _ (s7 _ _ p6.2.1))), hat, t, _, 2, _, rfl, rfl, .inl (.inl (s8 _ _ (s7 _ _ et))), rfl, h3, fun t2 ht2 => ⟨.ref D, rfl, .int (n : Nat), rfl, D, us, _, n, rfl, rfl, same_upd ht2 _ _ (s8 _ _ (s7 _ _ p6.2.1)), hix, ?_⟩⟩⟩
          have s9 := (s7.trans s8).trans (same_upd ht2 (o := .tup [.str (Str.ofString "one"), .str (S' u), .str (S' o.2)]))
          have p9 := hset _ (.ref t2) (.one (u, o.2)) s9 ⟨rfl, t2, rfl, upd_same⟩ ⟨.inr hu, hgi.2⟩
          have e9 := hrr _ (.ref t2) s9
          have t2D : t2 ≠ D := fun e => by rw [e, s8 _ _ (s7 _ _ p6.2.1)] at ht2; exact nomatch ht2
          have et9 : upd (upd H8 t2 (.tup [.str (Str.ofString "one"), .str (S' u), .str (S' o.2)])) D (.lst (us.set n (.ref t2))) t2 = some (.tup (oneF (u, o.2))) := by rw [upd_ne t2D]; exact upd_same
          dsimp only [tNext]
          refine ifT false (fun k q1 => ⟨.ref D, rfl, .int (n : Nat), rfl, D, _, _, .ref t2, rfl, rfl, .inl (.inl p9.2.1), hat2 _, t2, _, 0, _, rfl, rfl, .inl (.inl et9), rfl, rfl, _, rfl, TellB.eq one_ne.2.2.1 q1 _ (Same.refl _)⟩) (fun h => nomatch h) (fun _ H8 s8 => key _ _ _ (p9.up s8) (s8 _ _ e9))
        · dsimp only [tNext]
          refine ifT false (fun k q1 => ⟨.ref D, rfl, .int (n : Nat), rfl, D, _, _, .ref t, rfl, rfl, .inl (.inl (s7 _ _ p6.2.1)), hat, t, _, 0, _, rfl, rfl, .inl (.inl (s7 _ _ et)), rfl, rfl, _, rfl, TellB.eq one_ne.2.2.1 q1 _ (Same.refl _)⟩) (fun h => nomatch h) (fun _ H8 s8 => key _ _ _ (p6.up (s7.trans s8)) ((s7.trans s8) _ _ er6))
      | grp u os =>
        obtain ⟨t, p, ws, rfl, rfl, et, ep, hos⟩ := hit
        refine ifT false (fun k q1 => andT false false (fun k q2 => ⟨.ref D, rfl, .int (n : Nat), rfl, D, us, _, .ref t, rfl, rfl, .inl (.inl p6.2.1), hat, t, _, 0, _, rfl, rfl, .inl (.inl et), rfl, rfl, _, rfl, TellB.eq one_ne.2.1 q2 _ (Same.refl _)⟩) (fun h => nomatch h) q1) (fun h => nomatch h) (fun hb H7 s7 => ?_)
        dsimp only [tNext]
        refine ifT true (fun k q1 => ⟨.ref D, rfl, .int (n : Nat), rfl, D, us, _, .ref t, rfl, rfl, .inl (.inl (s7 _ _ p6.2.1)), hat, t, _, 0, _, rfl, rfl, .inl (.inl (s7 _ _ et)), rfl, rfl, _, rfl, TellB.eq one_ne.2.2.2 q1 _ (Same.refl _)⟩) (fun _ H8 s8 => ?_) (fun h => nomatch h)
        refine ⟨.int cell, rfl, cell, rfl, fun u2 hu2 H9 s9 => ⟨.ref D, rfl, .int (n : Nat), rfl, D, us, _, .ref t, rfl, rfl, .inl (.inl (s9 _ _ (s8 _ _ (s7 _ _ p6.2.1)))), hat, t, _, 2, _, rfl, rfl, .inl (.inl (s9 _ _ (s8 _ _ (s7 _ _ et)))), rfl, h3, fun t2 ht2 => ⟨.ref D, rfl, .int (n : Nat), rfl, D, us, _, n, rfl, rfl, same_upd ht2 _ _ (s9 _ _ (s8 _ _ (s7 _ _ p6.2.1))), hix, ?_⟩⟩⟩
        have s10 := ((s7.trans s8).trans s9).trans (same_upd ht2 (o := .tup [.str (Str.ofString "group"), .str (S' u2), .ref p]))
        have p10 := hset _ (.ref t2) (.grp u2 os) s10 ⟨t2, p, ws, rfl, rfl, upd_same, s10 _ _ ep, OnesR.stab (fun b ys hb => s10 _ _ hb) hos⟩ ⟨hu2, hgi.2⟩
        exact key _ _ _ p10 (hrr _ (.ref t2) s10)
    · obtain ⟨_, _, us, xs, rfl, p5, er5⟩ := hP
      obtain ⟨_, ep, hrs, _, hnd, hne, hxl, hg⟩ := p5
      have hfine : ∀ x ∈ xs, Fine x := fun x hx => (hg x hx).fine
      dsimp only [tSeq, tAsg, gName]
      refine ⟨.ref D, rfl, D, us, xs, As, false, rfl, ep, hrs, hg, hne, hxl, fun z T0 Ts hz htw hze hzl H5 s5 => ⟨.ref D, rfl, D, us, xs, As, rfl, s5 _ _ ep, hrs.up s5, by omega, fun H6 D2 vs2 As2 s6 fD2 eD2 r2 fr2 nd2 => ?_⟩⟩
      have hTl : Ts.length + 1 = xs.length := htw.len.symm
      have s56 := s5.trans s6
      have ep6 := s56 _ _ ep
      have hrs6 := hrs.up s56
      have D2A : ∀ b ∈ As.flatten, b ≠ D2 := fun b hb e => by
        obtain ⟨ys, hy⟩ := Rs.live item_live (hrs.up s5) b hb
        rw [e, fD2] at hy
        exact nomatch hy
      have DD2 : D ≠ D2 := fun e => by rw [← e, s5 _ _ ep] at fD2; exact nomatch fD2
      refine ⟨2, rfl, by decide, by decide, for_it walk_range (fun i σ H' => ∃ (y3 y6 y7 y8 : Option V), σ = [some (V.ref c), some (.ref d), some (.ref D), y3, some (.str z), some (.ref D2), y6, y7, y8] ∧ Same H6 H') ⟨_, _, _, _, rfl, Same.refl _⟩ (fun i σ H' _ h => trivial) (fun i x σ H7 H8 hi hP hy => ?_) (fun σ H7 hP => ?_)⟩
      · obtain ⟨_, _, _, _, rfl, s7⟩ := hP
        obtain ⟨rfl, rfl⟩ := hy
        show tSeq _ _ _ [some (V.ref c), some (.ref d), some (.ref D), _, some (.str z), some (.ref D2), some _, _, _] _
        dsimp only [tSeq, tAsg, gName]
        refine ⟨.ref D2, rfl, D2, vs2, xs, As2, rfl, s7 _ _ eD2, r2.up s7, hg, hxl, fun H9 s9 => ?_⟩
        rw [← hze]
        have s79 := s7.trans s9
        show tIfS _ _ _ _ [some (V.ref c), some (.ref d), some (.ref D), _, some (.str z), some (.ref D2), some _, _, some (.str z)] _
        refine ifT false (fun k q1 => orT false false (fun k q2 => notT true (fun k q3 => ⟨.str z, rfl, .str z, .ty "str", _, _, true, rfl, .ty _, .base (.str z), kit_ty (by decide +kernel), true, rfl, q3 _ (Same.refl _)⟩) q2) (fun _ H10 k s10 q2 => orT false false (fun k q3 => ⟨.str z, rfl, .str z, rfl, rfl, _, rfl, TellB.eq (by rw [decide_eq_true rfl]; rfl) q3 _ (Same.refl _)⟩) (fun _ H11 k s11 q3 => ⟨.ref D2, rfl, .ref D, rfl, _, _, .lst (.inl (.inl ((s79.trans (s10.trans s11)) _ _ eD2))) (dp_items (r2.up (s79.trans (s10.trans s11)))), .lst (.inl (.inl ((s79.trans (s10.trans s11)) _ _ ep6))) (dp_items (hrs6.up (s79.trans (s10.trans s11)))), shaped_items hfine, shaped_items hfine, _, rfl, TellB.eq (congrArg (! ·) (eqv_items hfine)) q3 _ (Same.refl _)⟩) q2) q1) (fun h => nomatch h) (fun _ H10 s10 => ⟨_, _, _, _, rfl, s79.trans s10⟩)
      · obtain ⟨_, _, _, _, rfl, s7⟩ := hP
        dsimp only [tSeq, tDrop, tBM0]
        refine ⟨.ref D2, rfl, .inl ⟨rfl, vs2, .inl (.inl (s7 _ _ eD2))⟩, D2, vs2, rfl, rfl, s7 _ _ eD2, ?_⟩
        have ep8 : upd H7 D2 (.lst []) D = some (.lst us) := by rw [upd_ne DD2]; exact s7 _ _ ep6
        have hrs8 : Rs ItemR (upd H7 D2 (.lst [])) us xs As := Rs.stab item_stab (hrs6.up s7) (fun b ys hb => by
          rw [upd_ne (fun e => by rw [e, s7 _ _ eD2] at hb; exact nomatch hb)]
          exact hb) (fun b hb => upd_ne (D2A b hb))
        generalize upd H7 D2 (.lst []) = H8 at ep8 hrs8 ⊢
        refine andV true true (fun Q' q' => ⟨.str z, rfl, z, xs, T0, Ts, rfl, hzl, hz, htw, by omega, fun H9 l us3 As3 s9 fl el r3 fr3 nd3 => ⟨.ref D, rfl, l, D, us3, us, xs, As3, As, rfl, el, s9 _ _ ep8, r3, hrs8.up s9, by omega, hfine, fun H10 s10 => q' _ (s9.trans s10)⟩⟩) (fun _ H9 Q' s9 q' => ⟨.ref D, rfl, D, us, xs, As, rfl, s9 _ _ ep8, hrs8.up s9, by omega, fun H10 D3 vs3 As3 s10 fD3 eD3 r3 fr3 nd3 => ⟨D3, vs3, xs, As3, rfl, eD3, r3, hg, hxl, fun H11 s11 => ⟨.str z, rfl, rfl, ?_⟩⟩⟩) (fun H2 _ => q H2)
        rw [← hze, decide_eq_true rfl]
        exact q' _ (s10.trans s11)
theorem ok_some7 {f fW fS : Addr} {fd fdW fdS : FuncData} (F : Fun K "read_some" "read_some" s_read_some f fd) (T : Tx mg tk) (M_Reader_word : DefM P w K mg base C "word" 3 fW fdW P_Reader_word (sp_word C)) (M_Reader_sees : DefM P w K mg base C "sees" 1 fS fdS P_Reader_sees (sp_sees C)) : FnOk P w K mg base CX0 8 f fd P_read_some (sp_some P w K mg base C 7) := by
  exact ok_some F T M_Reader_word M_Reader_sees (by decide)
theorem ok_some10 {f fW fS : Addr} {fd fdW fdS : FuncData} (F : Fun K "read_some" "read_some" s_read_some f fd) (T : Tx mg tk) (M_Reader_word : DefM P w K mg base C "word" 3 fW fdW P_Reader_word (sp_word C)) (M_Reader_sees : DefM P w K mg base C "sees" 1 fS fdS P_Reader_sees (sp_sees C)) : FnOk P w K mg base CX0 11 f fd P_read_some (sp_some P w K mg base C 10) := by
  exact ok_some F T M_Reader_word M_Reader_sees (by decide)
end
end K15

namespace K15
open PySem PySem.Spec PyProof.Rows L2 LH
set_option maxHeartbeats 2000000 in
theorem all_mk {l : PySem.W.OpenLaw} {w : World} {K : PySem.W.Frag} {h : Heap} {mg : Str → Option Value} {fa : Addr} {f0 f1 f2 f3 f4 f5 f6 f7 f8 f9 f10 f11 f12 f13 f14 f15 f16 f17 f18 f19 f20 f21 f22 f23 f24 f25 f26 f27 f28 f29 f30 f31 f32 f33 f34 f35 f36 f37 f38 f39 f40 f41 f42 f43 f44 : Addr} {t1 t2 t3 t4 t5 t6 t7 t8 t9 t10 t11 t12 : Tok} (X : K.In h) (G : h.Ns mainGlobals mg) (hfa : mg "law" = some (.ref fa))
    {cReader : Addr}
    (mReader : PySem.W.nsIn K mainGlobals "Reader" = some (some (.ref cReader))) (pgReader : PySem.W.plainGet K cReader Str.empty = true) (hdReader : PySem.W.hasDictIn K cReader = true) (poReader : PySem.W.plainOver K cReader = true) (saReader : PySem.W.findIn K (.ref cReader) "__setattr__" = some (some (.builtin "object.__setattr__"))) (mkReader : PySem.W.makesIn K cReader = true) (kpReader : PySem.W.keepIn K (.ref cReader) = true) (naReader0 : PySem.W.findIn K (.ref cReader) "signs" = some none) (naReader1 : PySem.W.findIn K (.ref cReader) "at" = some none)
    {od0 an0 : Option Addr} {sl0 : Array (Option Value)} {oc0 kV0 dc0 pm0 cd0 ct0 : Value}
    (a0 : PySem.W.nsIn K mainGlobals "_law_mixed" = some (some (.ref f0)))
    (l0 : K.lookup f0 = some ⟨oc0, od0, .func (PySem.W.fnOf "_law_mixed" "_law_mixed" (defArgs s__law_mixed) (defBody s__law_mixed) (defScope s__law_mixed) .none kV0 dc0 pm0 an0 cd0 ct0), sl0⟩) (c0 : PySem.W.codeIn K cd0 "_law_mixed" = true) (k0 : PySem.W.keepIn K (.ref f0) = true)
    {od1 an1 : Option Addr} {sl1 : Array (Option Value)} {oc1 kV1 dc1 pm1 cd1 ct1 : Value}
    (a1 : PySem.W.nsIn K mainGlobals "_law_text" = some (some (.ref f1)))
    (l1 : K.lookup f1 = some ⟨oc1, od1, .func (PySem.W.fnOf "_law_text" "_law_text" (defArgs s__law_text) (defBody s__law_text) (defScope s__law_text) .none kV1 dc1 pm1 an1 cd1 ct1), sl1⟩) (c1 : PySem.W.codeIn K cd1 "_law_text" = true) (k1 : PySem.W.keepIn K (.ref f1) = true)
    {od2 an2 : Option Addr} {sl2 : Array (Option Value)} {oc2 kV2 dc2 pm2 cd2 ct2 : Value}
    (a2 : PySem.W.nsIn K mainGlobals "_law_small" = some (some (.ref f2)))
    (l2 : K.lookup f2 = some ⟨oc2, od2, .func (PySem.W.fnOf "_law_small" "_law_small" (defArgs s__law_small) (defBody s__law_small) (defScope s__law_small) .none kV2 dc2 pm2 an2 cd2 ct2), sl2⟩) (c2 : PySem.W.codeIn K cd2 "_law_small" = true) (k2 : PySem.W.keepIn K (.ref f2) = true)
    {od3 an3 : Option Addr} {sl3 : Array (Option Value)} {oc3 kV3 dc3 pm3 cd3 ct3 : Value}
    (a3 : PySem.W.nsIn K mainGlobals "_law_called" = some (some (.ref f3)))
    (l3 : K.lookup f3 = some ⟨oc3, od3, .func (PySem.W.fnOf "_law_called" "_law_called" (defArgs s__law_called) (defBody s__law_called) (defScope s__law_called) .none kV3 dc3 pm3 an3 cd3 ct3), sl3⟩) (c3 : PySem.W.codeIn K cd3 "_law_called" = true) (k3 : PySem.W.keepIn K (.ref f3) = true)
    {od4 an4 : Option Addr} {sl4 : Array (Option Value)} {oc4 kV4 dc4 pm4 cd4 ct4 : Value}
    (a4 : PySem.W.nsIn K mainGlobals "_law_size" = some (some (.ref f4)))
    (l4 : K.lookup f4 = some ⟨oc4, od4, .func (PySem.W.fnOf "_law_size" "_law_size" (defArgs s__law_size) (defBody s__law_size) (defScope s__law_size) .none kV4 dc4 pm4 an4 cd4 ct4), sl4⟩) (c4 : PySem.W.codeIn K cd4 "_law_size" = true) (k4 : PySem.W.keepIn K (.ref f4) = true)
    {od5 an5 : Option Addr} {sl5 : Array (Option Value)} {oc5 kV5 dc5 pm5 cd5 ct5 : Value}
    (a5 : PySem.W.nsIn K mainGlobals "_law_signs" = some (some (.ref f5)))
    (l5 : K.lookup f5 = some ⟨oc5, od5, .func (PySem.W.fnOf "_law_signs" "_law_signs" (defArgs s__law_signs) (defBody s__law_signs) (defScope s__law_signs) .none kV5 dc5 pm5 an5 cd5 ct5), sl5⟩) (c5 : PySem.W.codeIn K cd5 "_law_signs" = true) (k5 : PySem.W.keepIn K (.ref f5) = true)
    {od6 an6 : Option Addr} {sl6 : Array (Option Value)} {oc6 kV6 dc6 pm6 cd6 ct6 : Value}
    (a6 : PySem.W.nsIn K mainGlobals "_law_named" = some (some (.ref f6)))
    (l6 : K.lookup f6 = some ⟨oc6, od6, .func (PySem.W.fnOf "_law_named" "_law_named" (defArgs s__law_named) (defBody s__law_named) (defScope s__law_named) .none kV6 dc6 pm6 an6 cd6 ct6), sl6⟩) (c6 : PySem.W.codeIn K cd6 "_law_named" = true) (k6 : PySem.W.keepIn K (.ref f6) = true)
    {od7 an7 : Option Addr} {sl7 : Array (Option Value)} {oc7 kV7 dc7 pm7 cd7 ct7 : Value}
    (a7 : PySem.W.nsIn K mainGlobals "_law_address" = some (some (.ref f7)))
    (l7 : K.lookup f7 = some ⟨oc7, od7, .func (PySem.W.fnOf "_law_address" "_law_address" (defArgs s__law_address) (defBody s__law_address) (defScope s__law_address) .none kV7 dc7 pm7 an7 cd7 ct7), sl7⟩) (c7 : PySem.W.codeIn K cd7 "_law_address" = true) (k7 : PySem.W.keepIn K (.ref f7) = true)
    {od8 an8 : Option Addr} {sl8 : Array (Option Value)} {oc8 kV8 dc8 pm8 cd8 ct8 : Value}
    (a8 : PySem.W.nsIn K mainGlobals "_law_one" = some (some (.ref f8)))
    (l8 : K.lookup f8 = some ⟨oc8, od8, .func (PySem.W.fnOf "_law_one" "_law_one" (defArgs s__law_one) (defBody s__law_one) (defScope s__law_one) .none kV8 dc8 pm8 an8 cd8 ct8), sl8⟩) (c8 : PySem.W.codeIn K cd8 "_law_one" = true) (k8 : PySem.W.keepIn K (.ref f8) = true)
    {od9 an9 : Option Addr} {sl9 : Array (Option Value)} {oc9 kV9 dc9 pm9 cd9 ct9 : Value}
    (a9 : PySem.W.nsIn K mainGlobals "_law_people" = some (some (.ref f9)))
    (l9 : K.lookup f9 = some ⟨oc9, od9, .func (PySem.W.fnOf "_law_people" "_law_people" (defArgs s__law_people) (defBody s__law_people) (defScope s__law_people) .none kV9 dc9 pm9 an9 cd9 ct9), sl9⟩) (c9 : PySem.W.codeIn K cd9 "_law_people" = true) (k9 : PySem.W.keepIn K (.ref f9) = true)
    {od10 an10 : Option Addr} {sl10 : Array (Option Value)} {oc10 kV10 dc10 pm10 cd10 ct10 : Value}
    (a10 : PySem.W.nsIn K mainGlobals "_law_is_words" = some (some (.ref f10)))
    (l10 : K.lookup f10 = some ⟨oc10, od10, .func (PySem.W.fnOf "_law_is_words" "_law_is_words" (defArgs s__law_is_words) (defBody s__law_is_words) (defScope s__law_is_words) .none kV10 dc10 pm10 an10 cd10 ct10), sl10⟩) (c10 : PySem.W.codeIn K cd10 "_law_is_words" = true) (k10 : PySem.W.keepIn K (.ref f10) = true)
    {od11 an11 : Option Addr} {sl11 : Array (Option Value)} {oc11 kV11 dc11 pm11 cd11 ct11 : Value}
    (a11 : PySem.W.nsIn K mainGlobals "_law_called_text" = some (some (.ref f11)))
    (l11 : K.lookup f11 = some ⟨oc11, od11, .func (PySem.W.fnOf "_law_called_text" "_law_called_text" (defArgs s__law_called_text) (defBody s__law_called_text) (defScope s__law_called_text) .none kV11 dc11 pm11 an11 cd11 ct11), sl11⟩) (c11 : PySem.W.codeIn K cd11 "_law_called_text" = true) (k11 : PySem.W.keepIn K (.ref f11) = true)
    {od12 an12 : Option Addr} {sl12 : Array (Option Value)} {oc12 kV12 dc12 pm12 cd12 ct12 : Value}
    (a12 : PySem.W.nsIn K mainGlobals "_law_one_text" = some (some (.ref f12)))
    (l12 : K.lookup f12 = some ⟨oc12, od12, .func (PySem.W.fnOf "_law_one_text" "_law_one_text" (defArgs s__law_one_text) (defBody s__law_one_text) (defScope s__law_one_text) .none kV12 dc12 pm12 an12 cd12 ct12), sl12⟩) (c12 : PySem.W.codeIn K cd12 "_law_one_text" = true) (k12 : PySem.W.keepIn K (.ref f12) = true)
    {od13 an13 : Option Addr} {sl13 : Array (Option Value)} {oc13 kV13 dc13 pm13 cd13 ct13 : Value}
    (a13 : PySem.W.nsIn K mainGlobals "_law_item_text" = some (some (.ref f13)))
    (l13 : K.lookup f13 = some ⟨oc13, od13, .func (PySem.W.fnOf "_law_item_text" "_law_item_text" (defArgs s__law_item_text) (defBody s__law_item_text) (defScope s__law_item_text) .none kV13 dc13 pm13 an13 cd13 ct13), sl13⟩) (c13 : PySem.W.codeIn K cd13 "_law_item_text" = true) (k13 : PySem.W.keepIn K (.ref f13) = true)
    {od14 an14 : Option Addr} {sl14 : Array (Option Value)} {oc14 kV14 dc14 pm14 cd14 ct14 : Value}
    (a14 : PySem.W.nsIn K mainGlobals "_law_people_text" = some (some (.ref f14)))
    (l14 : K.lookup f14 = some ⟨oc14, od14, .func (PySem.W.fnOf "_law_people_text" "_law_people_text" (defArgs s__law_people_text) (defBody s__law_people_text) (defScope s__law_people_text) .none kV14 dc14 pm14 an14 cd14 ct14), sl14⟩) (c14 : PySem.W.codeIn K cd14 "_law_people_text" = true) (k14 : PySem.W.keepIn K (.ref f14) = true)
    {od15 an15 : Option Addr} {sl15 : Array (Option Value)} {oc15 kV15 dc15 pm15 cd15 ct15 : Value}
    (a15 : PySem.W.findIn K (.ref cReader) "end" = some (some (.ref f15))) (fn15 : PySem.W.isFn K (.ref f15) = true)
    (l15 : K.lookup f15 = some ⟨oc15, od15, .func (PySem.W.fnOf "end" "Reader.end" (defArgs s_Reader_end) (defBody s_Reader_end) (defScope s_Reader_end) .none kV15 dc15 pm15 an15 cd15 ct15), sl15⟩) (c15 : PySem.W.codeIn K cd15 "Reader.end" = true) (k15 : PySem.W.keepIn K (.ref f15) = true)
    {od16 an16 : Option Addr} {sl16 : Array (Option Value)} {oc16 kV16 dc16 pm16 cd16 ct16 : Value}
    (a16 : PySem.W.findIn K (.ref cReader) "sees" = some (some (.ref f16))) (fn16 : PySem.W.isFn K (.ref f16) = true)
    (l16 : K.lookup f16 = some ⟨oc16, od16, .func (PySem.W.fnOf "sees" "Reader.sees" (defArgs s_Reader_sees) (defBody s_Reader_sees) (defScope s_Reader_sees) .none kV16 dc16 pm16 an16 cd16 ct16), sl16⟩) (c16 : PySem.W.codeIn K cd16 "Reader.sees" = true) (k16 : PySem.W.keepIn K (.ref f16) = true)
    {od17 an17 : Option Addr} {sl17 : Array (Option Value)} {oc17 kV17 dc17 pm17 cd17 ct17 : Value}
    (a17 : PySem.W.findIn K (.ref cReader) "one_of" = some (some (.ref f17))) (fn17 : PySem.W.isFn K (.ref f17) = true)
    (l17 : K.lookup f17 = some ⟨oc17, od17, .func (PySem.W.fnOf "one_of" "Reader.one_of" (defArgs s_Reader_one_of) (defBody s_Reader_one_of) (defScope s_Reader_one_of) .none kV17 dc17 pm17 an17 cd17 ct17), sl17⟩) (c17 : PySem.W.codeIn K cd17 "Reader.one_of" = true) (k17 : PySem.W.keepIn K (.ref f17) = true)
    {od18 an18 : Option Addr} {sl18 : Array (Option Value)} {oc18 kV18 dc18 pm18 cd18 ct18 : Value}
    (a18 : PySem.W.findIn K (.ref cReader) "sees_word" = some (some (.ref f18))) (fn18 : PySem.W.isFn K (.ref f18) = true)
    (l18 : K.lookup f18 = some ⟨oc18, od18, .func (PySem.W.fnOf "sees_word" "Reader.sees_word" (defArgs s_Reader_sees_word) (defBody s_Reader_sees_word) (defScope s_Reader_sees_word) .none kV18 dc18 pm18 an18 cd18 ct18), sl18⟩) (c18 : PySem.W.codeIn K cd18 "Reader.sees_word" = true) (k18 : PySem.W.keepIn K (.ref f18) = true)
    {od19 an19 : Option Addr} {sl19 : Array (Option Value)} {oc19 kV19 dc19 pm19 cd19 ct19 : Value}
    (a19 : PySem.W.findIn K (.ref cReader) "word" = some (some (.ref f19))) (fn19 : PySem.W.isFn K (.ref f19) = true)
    (l19 : K.lookup f19 = some ⟨oc19, od19, .func (PySem.W.fnOf "word" "Reader.word" (defArgs s_Reader_word) (defBody s_Reader_word) (defScope s_Reader_word) .none kV19 dc19 pm19 an19 cd19 ct19), sl19⟩) (c19 : PySem.W.codeIn K cd19 "Reader.word" = true) (k19 : PySem.W.keepIn K (.ref f19) = true)
    {od20 an20 : Option Addr} {sl20 : Array (Option Value)} {oc20 kV20 dc20 pm20 cd20 ct20 : Value}
    (a20 : PySem.W.nsIn K mainGlobals "read_some" = some (some (.ref f20)))
    (l20 : K.lookup f20 = some ⟨oc20, od20, .func (PySem.W.fnOf "read_some" "read_some" (defArgs s_read_some) (defBody s_read_some) (defScope s_read_some) .none kV20 dc20 pm20 an20 cd20 ct20), sl20⟩) (c20 : PySem.W.codeIn K cd20 "read_some" = true) (k20 : PySem.W.keepIn K (.ref f20) = true)
    {od21 an21 : Option Addr} {sl21 : Array (Option Value)} {oc21 kV21 dc21 pm21 cd21 ct21 : Value}
    (a21 : PySem.W.nsIn K mainGlobals "read_quoted_sign" = some (some (.ref f21)))
    (l21 : K.lookup f21 = some ⟨oc21, od21, .func (PySem.W.fnOf "read_quoted_sign" "read_quoted_sign" (defArgs s_read_quoted_sign) (defBody s_read_quoted_sign) (defScope s_read_quoted_sign) .none kV21 dc21 pm21 an21 cd21 ct21), sl21⟩) (c21 : PySem.W.codeIn K cd21 "read_quoted_sign" = true) (k21 : PySem.W.keepIn K (.ref f21) = true)
    {od22 an22 : Option Addr} {sl22 : Array (Option Value)} {oc22 kV22 dc22 pm22 cd22 ct22 : Value}
    (a22 : PySem.W.nsIn K mainGlobals "read_quoted" = some (some (.ref f22)))
    (l22 : K.lookup f22 = some ⟨oc22, od22, .func (PySem.W.fnOf "read_quoted" "read_quoted" (defArgs s_read_quoted) (defBody s_read_quoted) (defScope s_read_quoted) .none kV22 dc22 pm22 an22 cd22 ct22), sl22⟩) (c22 : PySem.W.codeIn K cd22 "read_quoted" = true) (k22 : PySem.W.keepIn K (.ref f22) = true)
    {od23 an23 : Option Addr} {sl23 : Array (Option Value)} {oc23 kV23 dc23 pm23 cd23 ct23 : Value}
    (a23 : PySem.W.findIn K (.ref cReader) "run" = some (some (.ref f23))) (fn23 : PySem.W.isFn K (.ref f23) = true)
    (l23 : K.lookup f23 = some ⟨oc23, od23, .func (PySem.W.fnOf "run" "Reader.run" (defArgs s_Reader_run) (defBody s_Reader_run) (defScope s_Reader_run) .none kV23 dc23 pm23 an23 cd23 ct23), sl23⟩) (c23 : PySem.W.codeIn K cd23 "Reader.run" = true) (k23 : PySem.W.keepIn K (.ref f23) = true)
    {od24 an24 : Option Addr} {sl24 : Array (Option Value)} {oc24 kV24 dc24 pm24 cd24 ct24 : Value}
    (a24 : PySem.W.nsIn K mainGlobals "read_words" = some (some (.ref f24)))
    (l24 : K.lookup f24 = some ⟨oc24, od24, .func (PySem.W.fnOf "read_words" "read_words" (defArgs s_read_words) (defBody s_read_words) (defScope s_read_words) .none kV24 dc24 pm24 an24 cd24 ct24), sl24⟩) (c24 : PySem.W.codeIn K cd24 "read_words" = true) (k24 : PySem.W.keepIn K (.ref f24) = true)
    {od25 an25 : Option Addr} {sl25 : Array (Option Value)} {oc25 kV25 dc25 pm25 cd25 ct25 : Value}
    (a25 : PySem.W.nsIn K mainGlobals "read_name" = some (some (.ref f25)))
    (l25 : K.lookup f25 = some ⟨oc25, od25, .func (PySem.W.fnOf "read_name" "read_name" (defArgs s_read_name) (defBody s_read_name) (defScope s_read_name) .none kV25 dc25 pm25 an25 cd25 ct25), sl25⟩) (c25 : PySem.W.codeIn K cd25 "read_name" = true) (k25 : PySem.W.keepIn K (.ref f25) = true)
    {od26 an26 : Option Addr} {sl26 : Array (Option Value)} {oc26 kV26 dc26 pm26 cd26 ct26 : Value}
    (a26 : PySem.W.nsIn K mainGlobals "read_address" = some (some (.ref f26)))
    (l26 : K.lookup f26 = some ⟨oc26, od26, .func (PySem.W.fnOf "read_address" "read_address" (defArgs s_read_address) (defBody s_read_address) (defScope s_read_address) .none kV26 dc26 pm26 an26 cd26 ct26), sl26⟩) (c26 : PySem.W.codeIn K cd26 "read_address" = true) (k26 : PySem.W.keepIn K (.ref f26) = true)
    {od27 an27 : Option Addr} {sl27 : Array (Option Value)} {oc27 kV27 dc27 pm27 cd27 ct27 : Value}
    (a27 : PySem.W.nsIn K mainGlobals "read_told_address" = some (some (.ref f27)))
    (l27 : K.lookup f27 = some ⟨oc27, od27, .func (PySem.W.fnOf "read_told_address" "read_told_address" (defArgs s_read_told_address) (defBody s_read_told_address) (defScope s_read_told_address) .none kV27 dc27 pm27 an27 cd27 ct27), sl27⟩) (c27 : PySem.W.codeIn K cd27 "read_told_address" = true) (k27 : PySem.W.keepIn K (.ref f27) = true)
    {od28 an28 : Option Addr} {sl28 : Array (Option Value)} {oc28 kV28 dc28 pm28 cd28 ct28 : Value}
    (a28 : PySem.W.nsIn K mainGlobals "read_rest" = some (some (.ref f28)))
    (l28 : K.lookup f28 = some ⟨oc28, od28, .func (PySem.W.fnOf "read_rest" "read_rest" (defArgs s_read_rest) (defBody s_read_rest) (defScope s_read_rest) .none kV28 dc28 pm28 an28 cd28 ct28), sl28⟩) (c28 : PySem.W.codeIn K cd28 "read_rest" = true) (k28 : PySem.W.keepIn K (.ref f28) = true)
    {od29 an29 : Option Addr} {sl29 : Array (Option Value)} {oc29 kV29 dc29 pm29 cd29 ct29 : Value}
    (a29 : PySem.W.nsIn K mainGlobals "read_one" = some (some (.ref f29)))
    (l29 : K.lookup f29 = some ⟨oc29, od29, .func (PySem.W.fnOf "read_one" "read_one" (defArgs s_read_one) (defBody s_read_one) (defScope s_read_one) .none kV29 dc29 pm29 an29 cd29 ct29), sl29⟩) (c29 : PySem.W.codeIn K cd29 "read_one" = true) (k29 : PySem.W.keepIn K (.ref f29) = true)
    {od30 an30 : Option Addr} {sl30 : Array (Option Value)} {oc30 kV30 dc30 pm30 cd30 ct30 : Value}
    (a30 : PySem.W.nsIn K mainGlobals "read_ones" = some (some (.ref f30)))
    (l30 : K.lookup f30 = some ⟨oc30, od30, .func (PySem.W.fnOf "read_ones" "read_ones" (defArgs s_read_ones) (defBody s_read_ones) (defScope s_read_ones) .none kV30 dc30 pm30 an30 cd30 ct30), sl30⟩) (c30 : PySem.W.codeIn K cd30 "read_ones" = true) (k30 : PySem.W.keepIn K (.ref f30) = true)
    {od31 an31 : Option Addr} {sl31 : Array (Option Value)} {oc31 kV31 dc31 pm31 cd31 ct31 : Value}
    (a31 : PySem.W.nsIn K mainGlobals "read_one_or_group" = some (some (.ref f31)))
    (l31 : K.lookup f31 = some ⟨oc31, od31, .func (PySem.W.fnOf "read_one_or_group" "read_one_or_group" (defArgs s_read_one_or_group) (defBody s_read_one_or_group) (defScope s_read_one_or_group) .none kV31 dc31 pm31 an31 cd31 ct31), sl31⟩) (c31 : PySem.W.codeIn K cd31 "read_one_or_group" = true) (k31 : PySem.W.keepIn K (.ref f31) = true)
    {od32 an32 : Option Addr} {sl32 : Array (Option Value)} {oc32 kV32 dc32 pm32 cd32 ct32 : Value}
    (a32 : PySem.W.nsIn K mainGlobals "read_people" = some (some (.ref f32)))
    (l32 : K.lookup f32 = some ⟨oc32, od32, .func (PySem.W.fnOf "read_people" "read_people" (defArgs s_read_people) (defBody s_read_people) (defScope s_read_people) .none kV32 dc32 pm32 an32 cd32 ct32), sl32⟩) (c32 : PySem.W.codeIn K cd32 "read_people" = true) (k32 : PySem.W.keepIn K (.ref f32) = true)
    {od33 an33 : Option Addr} {sl33 : Array (Option Value)} {oc33 kV33 dc33 pm33 cd33 ct33 : Value}
    (a33 : PySem.W.findIn K (.ref cReader) "__init__" = some (some (.ref f33))) (fn33 : PySem.W.isFn K (.ref f33) = true)
    (l33 : K.lookup f33 = some ⟨oc33, od33, .func (PySem.W.fnOf "__init__" "Reader.__init__" (defArgs s_Reader___init__) (defBody s_Reader___init__) (defScope s_Reader___init__) .none kV33 dc33 pm33 an33 cd33 ct33), sl33⟩) (c33 : PySem.W.codeIn K cd33 "Reader.__init__" = true) (k33 : PySem.W.keepIn K (.ref f33) = true)
    {od34 an34 : Option Addr} {sl34 : Array (Option Value)} {oc34 kV34 dc34 pm34 cd34 ct34 : Value}
    (a34 : PySem.W.nsIn K mainGlobals "people_of" = some (some (.ref f34)))
    (l34 : K.lookup f34 = some ⟨oc34, od34, .func (PySem.W.fnOf "people_of" "people_of" (defArgs s_people_of) (defBody s_people_of) (defScope s_people_of) .none kV34 dc34 pm34 an34 cd34 ct34), sl34⟩) (c34 : PySem.W.codeIn K cd34 "people_of" = true) (k34 : PySem.W.keepIn K (.ref f34) = true)
    {od35 an35 : Option Addr} {sl35 : Array (Option Value)} {oc35 kV35 dc35 pm35 cd35 ct35 : Value}
    (a35 : PySem.W.nsIn K mainGlobals "_law_people_right" = some (some (.ref f35)))
    (l35 : K.lookup f35 = some ⟨oc35, od35, .func (PySem.W.fnOf "_law_people_right" "_law_people_right" (defArgs s__law_people_right) (defBody s__law_people_right) (defScope s__law_people_right) .none kV35 dc35 pm35 an35 cd35 ct35), sl35⟩) (c35 : PySem.W.codeIn K cd35 "_law_people_right" = true) (k35 : PySem.W.keepIn K (.ref f35) = true)
    {od36 an36 : Option Addr} {sl36 : Array (Option Value)} {oc36 kV36 dc36 pm36 cd36 ct36 : Value}
    (a36 : PySem.W.nsIn K mainGlobals "_law_copied" = some (some (.ref f36)))
    (l36 : K.lookup f36 = some ⟨oc36, od36, .func (PySem.W.fnOf "_law_copied" "_law_copied" (defArgs s__law_copied) (defBody s__law_copied) (defScope s__law_copied) .none kV36 dc36 pm36 an36 cd36 ct36), sl36⟩) (c36 : PySem.W.codeIn K cd36 "_law_copied" = true) (k36 : PySem.W.keepIn K (.ref f36) = true)
    {od37 an37 : Option Addr} {sl37 : Array (Option Value)} {oc37 kV37 dc37 pm37 cd37 ct37 : Value}
    (a37 : PySem.W.nsIn K mainGlobals "is_plain_word" = some (some (.ref f37)))
    (l37 : K.lookup f37 = some ⟨oc37, od37, .func (PySem.W.fnOf "is_plain_word" "is_plain_word" (defArgs s_is_plain_word) (defBody s_is_plain_word) (defScope s_is_plain_word) .none kV37 dc37 pm37 an37 cd37 ct37), sl37⟩) (c37 : PySem.W.codeIn K cd37 "is_plain_word" = true) (k37 : PySem.W.keepIn K (.ref f37) = true)
    {od38 an38 : Option Addr} {sl38 : Array (Option Value)} {oc38 kV38 dc38 pm38 cd38 ct38 : Value}
    (a38 : PySem.W.nsIn K mainGlobals "is_plain_name" = some (some (.ref f38)))
    (l38 : K.lookup f38 = some ⟨oc38, od38, .func (PySem.W.fnOf "is_plain_name" "is_plain_name" (defArgs s_is_plain_name) (defBody s_is_plain_name) (defScope s_is_plain_name) .none kV38 dc38 pm38 an38 cd38 ct38), sl38⟩) (c38 : PySem.W.codeIn K cd38 "is_plain_name" = true) (k38 : PySem.W.keepIn K (.ref f38) = true)
    {od39 an39 : Option Addr} {sl39 : Array (Option Value)} {oc39 kV39 dc39 pm39 cd39 ct39 : Value}
    (a39 : PySem.W.nsIn K mainGlobals "called" = some (some (.ref f39)))
    (l39 : K.lookup f39 = some ⟨oc39, od39, .func (PySem.W.fnOf "called" "called" (defArgs s_called) (defBody s_called) (defScope s_called) .none kV39 dc39 pm39 an39 cd39 ct39), sl39⟩) (c39 : PySem.W.codeIn K cd39 "called" = true) (k39 : PySem.W.keepIn K (.ref f39) = true)
    {od40 an40 : Option Addr} {sl40 : Array (Option Value)} {oc40 kV40 dc40 pm40 cd40 ct40 : Value}
    (a40 : PySem.W.nsIn K mainGlobals "one_text" = some (some (.ref f40)))
    (l40 : K.lookup f40 = some ⟨oc40, od40, .func (PySem.W.fnOf "one_text" "one_text" (defArgs s_one_text) (defBody s_one_text) (defScope s_one_text) .none kV40 dc40 pm40 an40 cd40 ct40), sl40⟩) (c40 : PySem.W.codeIn K cd40 "one_text" = true) (k40 : PySem.W.keepIn K (.ref f40) = true)
    {od41 an41 : Option Addr} {sl41 : Array (Option Value)} {oc41 kV41 dc41 pm41 cd41 ct41 : Value}
    (a41 : PySem.W.nsIn K mainGlobals "group_text" = some (some (.ref f41)))
    (l41 : K.lookup f41 = some ⟨oc41, od41, .func (PySem.W.fnOf "group_text" "group_text" (defArgs s_group_text) (defBody s_group_text) (defScope s_group_text) .none kV41 dc41 pm41 an41 cd41 ct41), sl41⟩) (c41 : PySem.W.codeIn K cd41 "group_text" = true) (k41 : PySem.W.keepIn K (.ref f41) = true)
    {od42 an42 : Option Addr} {sl42 : Array (Option Value)} {oc42 kV42 dc42 pm42 cd42 ct42 : Value}
    (a42 : PySem.W.nsIn K mainGlobals "people_text" = some (some (.ref f42)))
    (l42 : K.lookup f42 = some ⟨oc42, od42, .func (PySem.W.fnOf "people_text" "people_text" (defArgs s_people_text) (defBody s_people_text) (defScope s_people_text) .none kV42 dc42 pm42 an42 cd42 ct42), sl42⟩) (c42 : PySem.W.codeIn K cd42 "people_text" = true) (k42 : PySem.W.keepIn K (.ref f42) = true)
    {od43 an43 : Option Addr} {sl43 : Array (Option Value)} {oc43 kV43 dc43 pm43 cd43 ct43 : Value}
    (a43 : PySem.W.nsIn K mainGlobals "_law_nearly" = some (some (.ref f43)))
    (l43 : K.lookup f43 = some ⟨oc43, od43, .func (PySem.W.fnOf "_law_nearly" "_law_nearly" (defArgs s__law_nearly) (defBody s__law_nearly) (defScope s__law_nearly) .none kV43 dc43 pm43 an43 cd43 ct43), sl43⟩) (c43 : PySem.W.codeIn K cd43 "_law_nearly" = true) (k43 : PySem.W.keepIn K (.ref f43) = true)
    {od44 an44 : Option Addr} {sl44 : Array (Option Value)} {oc44 kV44 dc44 pm44 cd44 ct44 : Value}
    (a44 : PySem.W.nsIn K mainGlobals "law" = some (some (.ref f44)))
    (l44 : K.lookup f44 = some ⟨oc44, od44, .func (PySem.W.fnOf "law" "law" (defArgs s_law) (defBody s_law) (defScope s_law) .none kV44 dc44 pm44 an44 cd44 ct44), sl44⟩) (c44 : PySem.W.codeIn K cd44 "law" = true) (k44 : PySem.W.keepIn K (.ref f44) = true)
    (z0 : PySem.W.nsIn K mainGlobals "all" = some none)
    (z1 : PySem.W.nsIn K mainGlobals "enumerate" = some none)
    (z2 : PySem.W.nsIn K mainGlobals "int" = some none)
    (z3 : PySem.W.nsIn K mainGlobals "isinstance" = some none)
    (z4 : PySem.W.nsIn K mainGlobals "len" = some none)
    (z5 : PySem.W.nsIn K mainGlobals "list" = some none)
    (z6 : PySem.W.nsIn K mainGlobals "range" = some none)
    (z7 : PySem.W.nsIn K mainGlobals "str" = some none)
    (z8 : PySem.W.nsIn K mainGlobals "sum" = some none)
    (z9 : PySem.W.nsIn K mainGlobals "tuple" = some none)
    (v0 : PySem.W.nsIn K mainGlobals "LOCAL_SIGNS" = some (some (.str LOCALT t1)))
    (v1 : PySem.W.nsIn K mainGlobals "LOCAL_MOST" = some (some (.int 20 t2)))
    (v2 : PySem.W.nsIn K mainGlobals "HOUSE_SIGNS" = some (some (.str HOUSET t3)))
    (v3 : PySem.W.nsIn K mainGlobals "HOUSE_MOST" = some (some (.int 10 t4)))
    (v4 : PySem.W.nsIn K mainGlobals "HOUSE_WORDS" = some (some (.int 3 t5)))
    (v5 : PySem.W.nsIn K mainGlobals "CALLED_SIGNS" = some (some (.str CALLEDT t6)))
    (v6 : PySem.W.nsIn K mainGlobals "CALLED_MOST" = some (some (.int 12 t7)))
    (v7 : PySem.W.nsIn K mainGlobals "CALLED_WORDS" = some (some (.int 4 t8)))
    (v8 : PySem.W.nsIn K mainGlobals "QUOTED_SIGNS" = some (some (.str QUOTEDT t9)))
    (v9 : PySem.W.nsIn K mainGlobals "QUOTED_MOST" = some (some (.int 30 t10)))
    (v10 : PySem.W.nsIn K mainGlobals "GROUP_ONES" = some (some (.int 10 t11)))
    (v11 : PySem.W.nsIn K mainGlobals "MOST_PEOPLE" = some (some (.int 20 t12))) :
    ∃ fd : FuncData, (∀ (s : Shared) (v : Value), BindsTo s fd ⟨[v], []⟩ [("_law_script", v)]) ∧ ∀ base : Heap, K.In base → base.Ns mainGlobals mg → FnOk l.prog w K mg base CX0 14 fa fd ["_law_script"] (spLaw K) := by
  have e := hfa.symm.trans (PySem.W.mg_of X G a44)
  cases e
  have F0 := fun_mk (st := s__law_mixed) l0 c0 k0
  have b0 := F0.binds (ps := ["_law_cell", "_law_k"]) fun _ _ _ _ _ _ us hl => match us, hl with | [_, _], _ => rfl
  have F1 := fun_mk (st := s__law_text) l1 c1 k1
  have b1 := F1.binds (ps := ["_law_cell", "_law_k", "_law_signs_here", "_law_size_here"]) fun _ _ _ _ _ _ us hl => match us, hl with | [_, _, _, _], _ => rfl
  have F2 := fun_mk (st := s__law_small) l2 c2 k2
  have b2 := F2.binds (ps := []) fun _ _ _ _ _ _ us hl => match us, hl with | [], _ => rfl
  have F3 := fun_mk (st := s__law_called) l3 c3 k3
  have b3 := F3.binds (ps := []) fun _ _ _ _ _ _ us hl => match us, hl with | [], _ => rfl
  have F4 := fun_mk (st := s__law_size) l4 c4 k4
  have b4 := F4.binds (ps := ["_law_number", "_law_most"]) fun _ _ _ _ _ _ us hl => match us, hl with | [_, _], _ => rfl
  have F5 := fun_mk (st := s__law_signs) l5 c5 k5
  have b5 := F5.binds (ps := []) fun _ _ _ _ _ _ us hl => match us, hl with | [], _ => rfl
  have F6 := fun_mk (st := s__law_named) l6 c6 k6
  have b6 := F6.binds (ps := ["_law_cell"]) fun _ _ _ _ _ _ us hl => match us, hl with | [_], _ => rfl
  have F7 := fun_mk (st := s__law_address) l7 c7 k7
  have b7 := F7.binds (ps := ["_law_cell"]) fun _ _ _ _ _ _ us hl => match us, hl with | [_], _ => rfl
  have F8 := fun_mk (st := s__law_one) l8 c8 k8
  have b8 := F8.binds (ps := ["_law_cell"]) fun _ _ _ _ _ _ us hl => match us, hl with | [_], _ => rfl
  have F9 := fun_mk (st := s__law_people) l9 c9 k9
  have b9 := F9.binds (ps := ["_law_cells"]) fun _ _ _ _ _ _ us hl => match us, hl with | [_], _ => rfl
  have F10 := fun_mk (st := s__law_is_words) l10 c10 k10
  have b10 := F10.binds (ps := ["_law_name"]) fun _ _ _ _ _ _ us hl => match us, hl with | [_], _ => rfl
  have F11 := fun_mk (st := s__law_called_text) l11 c11 k11
  have b11 := F11.binds (ps := ["_law_name", "_law_is_quoted"]) fun _ _ _ _ _ _ us hl => match us, hl with | [_, _], _ => rfl
  have F12 := fun_mk (st := s__law_one_text) l12 c12 k12
  have b12 := F12.binds (ps := ["_law_one_here", "_law_is_quoted"]) fun _ _ _ _ _ _ us hl => match us, hl with | [_, _], _ => rfl
  have F13 := fun_mk (st := s__law_item_text) l13 c13 k13
  have b13 := F13.binds (ps := ["_law_item", "_law_is_quoted"]) fun _ _ _ _ _ _ us hl => match us, hl with | [_, _], _ => rfl
  have F14 := fun_mk (st := s__law_people_text) l14 c14 k14
  have b14 := F14.binds (ps := ["_law_people_here", "_law_is_quoted"]) fun _ _ _ _ _ _ us hl => match us, hl with | [_, _], _ => rfl
  have F15 := fun_mk (st := s_Reader_end) l15 c15 k15
  have b15 := F15.binds (ps := ["self"]) fun _ _ _ _ _ _ us hl => match us, hl with | [_], _ => rfl
  have F16 := fun_mk (st := s_Reader_sees) l16 c16 k16
  have b16 := F16.binds (ps := ["self", "choice"]) fun _ _ _ _ _ _ us hl => match us, hl with | [_, _], _ => rfl
  have F17 := fun_mk (st := s_Reader_one_of) l17 c17 k17
  have b17 := F17.binds (ps := ["self", "choice"]) fun _ _ _ _ _ _ us hl => match us, hl with | [_, _], _ => rfl
  have F18 := fun_mk (st := s_Reader_sees_word) l18 c18 k18
  have b18 := F18.binds (ps := ["self", "wanted"]) fun _ _ _ _ _ _ us hl => match us, hl with | [_, _], _ => rfl
  have F19 := fun_mk (st := s_Reader_word) l19 c19 k19
  have b19 := F19.binds (ps := ["self", "wanted"]) fun _ _ _ _ _ _ us hl => match us, hl with | [_, _], _ => rfl
  have F20 := fun_mk (st := s_read_some) l20 c20 k20
  have b20 := F20.binds (ps := ["reader", "read", "most"]) fun _ _ _ _ _ _ us hl => match us, hl with | [_, _, _], _ => rfl
  have F21 := fun_mk (st := s_read_quoted_sign) l21 c21 k21
  have b21 := F21.binds (ps := ["reader", "ahead"]) fun _ _ _ _ _ _ us hl => match us, hl with | [_, _], _ => rfl
  have F22 := fun_mk (st := s_read_quoted) l22 c22 k22
  have b22 := F22.binds (ps := ["reader"]) fun _ _ _ _ _ _ us hl => match us, hl with | [_], _ => rfl
  have F23 := fun_mk (st := s_Reader_run) l23 c23 k23
  have b23 := F23.binds (ps := ["self", "choice", "most"]) fun _ _ _ _ _ _ us hl => match us, hl with | [_, _, _], _ => rfl
  have F24 := fun_mk (st := s_read_words) l24 c24 k24
  have b24 := F24.binds (ps := ["reader"]) fun _ _ _ _ _ _ us hl => match us, hl with | [_], _ => rfl
  have F25 := fun_mk (st := s_read_name) l25 c25 k25
  have b25 := F25.binds (ps := ["reader"]) fun _ _ _ _ _ _ us hl => match us, hl with | [_], _ => rfl
  have F26 := fun_mk (st := s_read_address) l26 c26 k26
  have b26 := F26.binds (ps := ["reader"]) fun _ _ _ _ _ _ us hl => match us, hl with | [_], _ => rfl
  have F27 := fun_mk (st := s_read_told_address) l27 c27 k27
  have b27 := F27.binds (ps := ["reader"]) fun _ _ _ _ _ _ us hl => match us, hl with | [_], _ => rfl
  have F28 := fun_mk (st := s_read_rest) l28 c28 k28
  have b28 := F28.binds (ps := ["reader", "name"]) fun _ _ _ _ _ _ us hl => match us, hl with | [_, _], _ => rfl
  have F29 := fun_mk (st := s_read_one) l29 c29 k29
  have b29 := F29.binds (ps := ["reader"]) fun _ _ _ _ _ _ us hl => match us, hl with | [_], _ => rfl
  have F30 := fun_mk (st := s_read_ones) l30 c30 k30
  have b30 := F30.binds (ps := ["reader"]) fun _ _ _ _ _ _ us hl => match us, hl with | [_], _ => rfl
  have F31 := fun_mk (st := s_read_one_or_group) l31 c31 k31
  have b31 := F31.binds (ps := ["reader"]) fun _ _ _ _ _ _ us hl => match us, hl with | [_], _ => rfl
  have F32 := fun_mk (st := s_read_people) l32 c32 k32
  have b32 := F32.binds (ps := ["reader"]) fun _ _ _ _ _ _ us hl => match us, hl with | [_], _ => rfl
  have F33 := fun_mk (st := s_Reader___init__) l33 c33 k33
  have b33 := F33.binds (ps := ["self", "signs"]) fun _ _ _ _ _ _ us hl => match us, hl with | [_, _], _ => rfl
  have F34 := fun_mk (st := s_people_of) l34 c34 k34
  have b34 := F34.binds (ps := ["text"]) fun _ _ _ _ _ _ us hl => match us, hl with | [_], _ => rfl
  have F35 := fun_mk (st := s__law_people_right) l35 c35 k35
  have b35 := F35.binds (ps := ["_law_found", "_law_due"]) fun _ _ _ _ _ _ us hl => match us, hl with | [_, _], _ => rfl
  have F36 := fun_mk (st := s__law_copied) l36 c36 k36
  have b36 := F36.binds (ps := ["_law_people_here"]) fun _ _ _ _ _ _ us hl => match us, hl with | [_], _ => rfl
  have F37 := fun_mk (st := s_is_plain_word) l37 c37 k37
  have b37 := F37.binds (ps := ["word"]) fun _ _ _ _ _ _ us hl => match us, hl with | [_], _ => rfl
  have F38 := fun_mk (st := s_is_plain_name) l38 c38 k38
  have b38 := F38.binds (ps := ["name"]) fun _ _ _ _ _ _ us hl => match us, hl with | [_], _ => rfl
  have F39 := fun_mk (st := s_called) l39 c39 k39
  have b39 := F39.binds (ps := ["name"]) fun _ _ _ _ _ _ us hl => match us, hl with | [_], _ => rfl
  have F40 := fun_mk (st := s_one_text) l40 c40 k40
  have b40 := F40.binds (ps := ["one"]) fun _ _ _ _ _ _ us hl => match us, hl with | [_], _ => rfl
  have F41 := fun_mk (st := s_group_text) l41 c41 k41
  have b41 := F41.binds (ps := ["group"]) fun _ _ _ _ _ _ us hl => match us, hl with | [_], _ => rfl
  have F42 := fun_mk (st := s_people_text) l42 c42 k42
  have b42 := F42.binds (ps := ["people"]) fun _ _ _ _ _ _ us hl => match us, hl with | [_], _ => rfl
  have F43 := fun_mk (st := s__law_nearly) l43 c43 k43
  have b43 := F43.binds (ps := ["_law_cell"]) fun _ _ _ _ _ _ us hl => match us, hl with | [_], _ => rfl
  have F44 := fun_mk (st := s_law) l44 c44 k44
  have T : Tx mg (fun i => [t1, t2, t3, t4, t5, t6, t7, t8, t9, t10, t11, t12].getD i t1) := ⟨PySem.W.mg_none_of X G z0, PySem.W.mg_none_of X G z1, PySem.W.mg_none_of X G z2, PySem.W.mg_none_of X G z3, PySem.W.mg_none_of X G z4, PySem.W.mg_none_of X G z5, PySem.W.mg_none_of X G z6, PySem.W.mg_none_of X G z7, PySem.W.mg_none_of X G z8, PySem.W.mg_none_of X G z9, PySem.W.mg_of X G v0, PySem.W.mg_of X G v1, PySem.W.mg_of X G v2, PySem.W.mg_of X G v3, PySem.W.mg_of X G v4, PySem.W.mg_of X G v5, PySem.W.mg_of X G v6, PySem.W.mg_of X G v7, PySem.W.mg_of X G v8, PySem.W.mg_of X G v9, PySem.W.mg_of X G v10, PySem.W.mg_of X G v11⟩
  have KReader : Cls K cReader := ⟨pgReader, hdReader, poReader, saReader⟩
  have RReader : Rc K cReader := ⟨KReader, naReader0, naReader1⟩
  refine ⟨PySem.W.fnOf "law" "law" (defArgs s_law) (defBody s_law) (defScope s_law) .none kV44 dc44 pm44 an44 cd44 ct44, fun s v => .of_eq rfl, fun base _ _ => ?_⟩
  have D0 : Def l.prog w K mg base "_law_mixed" 1 f0 _ ["_law_cell", "_law_k"] sp_mixed := ⟨ok_mixed F0, PySem.W.mg_of X G a0, F0.kp, b0⟩
  have D1 : Def l.prog w K mg base "_law_text" 2 f1 _ ["_law_cell", "_law_k", "_law_signs_here", "_law_size_here"] sp_text := ⟨ok_text F1 T D0, PySem.W.mg_of X G a1, F1.kp, b1⟩
  have D2 : Def l.prog w K mg base "_law_small" 1 f2 _ [] sp_small := ⟨ok_small F2, PySem.W.mg_of X G a2, F2.kp, b2⟩
  have D3 : Def l.prog w K mg base "_law_called" 2 f3 _ [] sp_called := ⟨ok_called F3 D2, PySem.W.mg_of X G a3, F3.kp, b3⟩
  have D4 : Def l.prog w K mg base "_law_size" 1 f4 _ ["_law_number", "_law_most"] sp_size := ⟨ok_size F4, PySem.W.mg_of X G a4, F4.kp, b4⟩
  have D5 : Def l.prog w K mg base "_law_signs" 1 f5 _ [] sp_signs := ⟨ok_signs F5, PySem.W.mg_of X G a5, F5.kp, b5⟩
  have D6 : Def l.prog w K mg base "_law_named" 3 f6 _ ["_law_cell"] sp_named := ⟨ok_named F6 T D0 D1 D3 D4 D5, PySem.W.mg_of X G a6, F6.kp, b6⟩
  have D7 : Def l.prog w K mg base "_law_address" 3 f7 _ ["_law_cell"] sp_laddr := ⟨ok_laddr F7 T D0 D1 D2 D4, PySem.W.mg_of X G a7, F7.kp, b7⟩
  have D8 : Def l.prog w K mg base "_law_one" 4 f8 _ ["_law_cell"] sp_lone := ⟨ok_lone F8 T D0 D6 D7, PySem.W.mg_of X G a8, F8.kp, b8⟩
  have D9 : Def l.prog w K mg base "_law_people" 5 f9 _ ["_law_cells"] sp_lpeople := ⟨ok_lpeople F9 T D8 D0 D6, PySem.W.mg_of X G a9, F9.kp, b9⟩
  have D10 : Def l.prog w K mg base "_law_is_words" 3 f10 _ ["_law_name"] sp_isw := ⟨ok_isw F10 T D3, PySem.W.mg_of X G a10, F10.kp, b10⟩
  have D11 : Def l.prog w K mg base "_law_called_text" 4 f11 _ ["_law_name", "_law_is_quoted"] sp_ctext := ⟨ok_ctext F11 T D10, PySem.W.mg_of X G a11, F11.kp, b11⟩
  have D12 : Def l.prog w K mg base "_law_one_text" 5 f12 _ ["_law_one_here", "_law_is_quoted"] sp_onetext := ⟨ok_onetext F12 T D11, PySem.W.mg_of X G a12, F12.kp, b12⟩
  have D13 : Def l.prog w K mg base "_law_item_text" 6 f13 _ ["_law_item", "_law_is_quoted"] sp_itext := ⟨ok_itext F13 T D12 D11, PySem.W.mg_of X G a13, F13.kp, b13⟩
  have D14 : Def l.prog w K mg base "_law_people_text" 7 f14 _ ["_law_people_here", "_law_is_quoted"] sp_ptext := ⟨ok_ptext F14 T D13, PySem.W.mg_of X G a14, F14.kp, b14⟩
  have D15 : DefM l.prog w K mg base cReader "end" 1 f15 _ ["self"] (sp_end cReader) := ⟨KReader, ⟨a15, fn15, k15⟩, ok_end F15 T RReader, b15⟩
  have D16 : DefM l.prog w K mg base cReader "sees" 1 f16 _ ["self", "choice"] (sp_sees cReader) := ⟨KReader, ⟨a16, fn16, k16⟩, ok_sees F16 T RReader, b16⟩
  have D17 : DefM l.prog w K mg base cReader "one_of" 2 f17 _ ["self", "choice"] (sp_one cReader) := ⟨KReader, ⟨a17, fn17, k17⟩, ok_one F17 T RReader D16, b17⟩
  have D18 : DefM l.prog w K mg base cReader "sees_word" 1 f18 _ ["self", "wanted"] (sp_seesword cReader) := ⟨KReader, ⟨a18, fn18, k18⟩, ok_seesword F18 T RReader, b18⟩
  have D19 : DefM l.prog w K mg base cReader "word" 3 f19 _ ["self", "wanted"] (sp_word cReader) := ⟨KReader, ⟨a19, fn19, k19⟩, ok_word F19 T RReader D17 D18, b19⟩
  have D20 : Def l.prog w K mg base "read_some" 8 f20 _ ["reader", "read", "most"] (sp_some l.prog w K mg base cReader 7) := ⟨ok_some7 F20 T D19 D16, PySem.W.mg_of X G a20, F20.kp, b20⟩
  have DT20 : Def l.prog w K mg base "read_some" 11 f20 _ ["reader", "read", "most"] (sp_some l.prog w K mg base cReader 10) := ⟨ok_some10 F20 T D19 D16, PySem.W.mg_of X G a20, F20.kp, b20⟩
  have D21 : Def l.prog w K mg base "read_quoted_sign" 4 f21 _ ["reader", "ahead"] (sp_qs cReader) := ⟨ok_qs F21 T D17 D19 D16, PySem.W.mg_of X G a21, F21.kp, b21⟩
  have D22 : Def l.prog w K mg base "read_quoted" 5 f22 _ ["reader"] (sp_quoted cReader) := ⟨ok_quoted F22 T D21 D19 D16, PySem.W.mg_of X G a22, F22.kp, b22⟩
  have D23 : DefM l.prog w K mg base cReader "run" 1 f23 _ ["self", "choice", "most"] (sp_run cReader) := ⟨KReader, ⟨a23, fn23, k23⟩, ok_run F23 T RReader, b23⟩
  have D24 : Def l.prog w K mg base "read_words" 4 f24 _ ["reader"] (sp_words cReader) := ⟨ok_words F24 T D23 D19 D16 D18, PySem.W.mg_of X G a24, F24.kp, b24⟩
  have D25 : Def l.prog w K mg base "read_name" 6 f25 _ ["reader"] (sp_name cReader) := ⟨ok_name F25 T D22 D24 D16, PySem.W.mg_of X G a25, F25.kp, b25⟩
  have D26 : Def l.prog w K mg base "read_address" 4 f26 _ ["reader"] (sp_addr cReader) := ⟨ok_addr F26 T D23 D19 D16, PySem.W.mg_of X G a26, F26.kp, b26⟩
  have D27 : Def l.prog w K mg base "read_told_address" 5 f27 _ ["reader"] (sp_ta cReader) := ⟨ok_ta F27 T D19 D26, PySem.W.mg_of X G a27, F27.kp, b27⟩
  have D28 : Def l.prog w K mg base "read_rest" 6 f28 _ ["reader", "name"] (sp_rest cReader) := ⟨ok_rest F28 T D19 D27, PySem.W.mg_of X G a28, F28.kp, b28⟩
  have D29 : Def l.prog w K mg base "read_one" 7 f29 _ ["reader"] (sp_rone cReader) := ⟨ok_rone F29 T D25 D28, PySem.W.mg_of X G a29, F29.kp, b29⟩
  have D30 : Def l.prog w K mg base "read_ones" 9 f30 _ ["reader"] (sp_ones cReader) := ⟨ok_ones F30 T D19 D16 D20 D29, PySem.W.mg_of X G a30, F30.kp, b30⟩
  have D31 : Def l.prog w K mg base "read_one_or_group" 10 f31 _ ["reader"] (sp_item cReader) := ⟨ok_item F31 T D25 D28 D30 D16, PySem.W.mg_of X G a31, F31.kp, b31⟩
  have D32 : Def l.prog w K mg base "read_people" 12 f32 _ ["reader"] (sp_rpeople cReader) := ⟨ok_rpeople F32 T D15 DT20 D31, PySem.W.mg_of X G a32, F32.kp, b32⟩
  have D33 : DefC l.prog w K mg base "Reader" cReader 1 f33 _ ["self", "signs"] (sp_init cReader) := ⟨⟨mkReader, a33, fn33, kpReader⟩, ok_init F33 RReader, PySem.W.mg_of X G mReader, b33⟩
  have D34 : Def l.prog w K mg base "people_of" 13 f34 _ ["text"] sp_people := ⟨ok_people F34 T D32 D33, PySem.W.mg_of X G a34, F34.kp, b34⟩
  have D35 : Def l.prog w K mg base "_law_people_right" 1 f35 _ ["_law_found", "_law_due"] sp_right := ⟨ok_right F35 T, PySem.W.mg_of X G a35, F35.kp, b35⟩
  have D36 : Def l.prog w K mg base "_law_copied" 1 f36 _ ["_law_people_here"] sp_copied := ⟨ok_copied F36 T, PySem.W.mg_of X G a36, F36.kp, b36⟩
  have D37 : Def l.prog w K mg base "is_plain_word" 1 f37 _ ["word"] sp_pword := ⟨ok_pword F37 T, PySem.W.mg_of X G a37, F37.kp, b37⟩
  have D38 : Def l.prog w K mg base "is_plain_name" 2 f38 _ ["name"] sp_pname := ⟨ok_pname F38 T D37, PySem.W.mg_of X G a38, F38.kp, b38⟩
  have D39 : Def l.prog w K mg base "called" 3 f39 _ ["name"] sp_called15 := ⟨ok_called15 F39 T D38, PySem.W.mg_of X G a39, F39.kp, b39⟩
  have D40 : Def l.prog w K mg base "one_text" 4 f40 _ ["one"] sp_one15 := ⟨ok_one15 F40 T D39, PySem.W.mg_of X G a40, F40.kp, b40⟩
  have D41 : Def l.prog w K mg base "group_text" 5 f41 _ ["group"] sp_group15 := ⟨ok_group15 F41 T D39 D40, PySem.W.mg_of X G a41, F41.kp, b41⟩
  have D42 : Def l.prog w K mg base "people_text" 6 f42 _ ["people"] sp_ptext15 := ⟨ok_ptext15 F42 T D41 D40, PySem.W.mg_of X G a42, F42.kp, b42⟩
  have D43 : Def l.prog w K mg base "_law_nearly" 3 f43 _ ["_law_cell"] sp_nearly := ⟨ok_nearly F43 T D0 D1 D3, PySem.W.mg_of X G a43, F43.kp, b43⟩
  exact ok_law F44 T D9 D0 D14 D34 D35 D36 D42 D43
end K15
open PySem PySem.W PyProof.Rows
set_option maxHeartbeats 0 in
theorem PySem.Challenge.cw_letterhouse_k15_people_written_holds : PySem.Challenge.rw_letterhouse_k15_people_written.Holds := by
  w_on; o_law; k_head; (case hw => w_witness2)
  k_fill
  refine L2.walk_of (l := PySem.Challenge.rw_letterhouse_k15_people_written) (n := 63) (k := 14) (x := "_law_script") (CX := fun _ => L2.CX0) (sp := fun w => K15.spLaw _) rfl (by decide) rfl ⟨rfl, by decide, by decide⟩ (fun w h Y => PySem.W.kIn_of Y) ?F (fun _ _ a ns hl _ hS => ⟨a, ns, rfl, hS, hl, fun _ => rfl⟩) (fun _ _ _ _ _ h => h)
  case F =>
    intro w mg fa h KX G hmg
    refine' K15.all_mk KX G hmg ?mReader ?pgReader ?hdReader ?poReader ?saReader ?mkReader ?kpReader ?naReader0 ?naReader1 ?a0 ?l0 ?c0 ?k0 ?a1 ?l1 ?c1 ?k1 ?a2 ?l2 ?c2 ?k2 ?a3 ?l3 ?c3 ?k3 ?a4 ?l4 ?c4 ?k4 ?a5 ?l5 ?c5 ?k5 ?a6 ?l6 ?c6 ?k6 ?a7 ?l7 ?c7 ?k7 ?a8 ?l8 ?c8 ?k8 ?a9 ?l9 ?c9 ?k9 ?a10 ?l10 ?c10 ?k10 ?a11 ?l11 ?c11 ?k11 ?a12 ?l12 ?c12 ?k12 ?a13 ?l13 ?c13 ?k13 ?a14 ?l14 ?c14 ?k14 ?a15 ?fn15 ?l15 ?c15 ?k15 ?a16 ?fn16 ?l16 ?c16 ?k16 ?a17 ?fn17 ?l17 ?c17 ?k17 ?a18 ?fn18 ?l18 ?c18 ?k18 ?a19 ?fn19 ?l19 ?c19 ?k19 ?a20 ?l20 ?c20 ?k20 ?a21 ?l21 ?c21 ?k21 ?a22 ?l22 ?c22 ?k22 ?a23 ?fn23 ?l23 ?c23 ?k23 ?a24 ?l24 ?c24 ?k24 ?a25 ?l25 ?c25 ?k25 ?a26 ?l26 ?c26 ?k26 ?a27 ?l27 ?c27 ?k27 ?a28 ?l28 ?c28 ?k28 ?a29 ?l29 ?c29 ?k29 ?a30 ?l30 ?c30 ?k30 ?a31 ?l31 ?c31 ?k31 ?a32 ?l32 ?c32 ?k32 ?a33 ?fn33 ?l33 ?c33 ?k33 ?a34 ?l34 ?c34 ?k34 ?a35 ?l35 ?c35 ?k35 ?a36 ?l36 ?c36 ?k36 ?a37 ?l37 ?c37 ?k37 ?a38 ?l38 ?c38 ?k38 ?a39 ?l39 ?c39 ?k39 ?a40 ?l40 ?c40 ?k40 ?a41 ?l41 ?c41 ?k41 ?a42 ?l42 ?c42 ?k42 ?a43 ?l43 ?c43 ?k43 ?a44 ?l44 ?c44 ?k44 ?z0 ?z1 ?z2 ?z3 ?z4 ?z5 ?z6 ?z7 ?z8 ?z9 ?v0 ?v1 ?v2 ?v3 ?v4 ?v5 ?v6 ?v7 ?v8 ?v9 ?v10 ?v11
    (case mReader => k_is); (case pgReader => k_is); (case hdReader => k_is); (case poReader => k_is); (case saReader => k_is); (case mkReader => k_is); (case kpReader => k_is); (case naReader0 => k_is); (case naReader1 => k_is); (case a0 => k_is); (case l0 => k_is); (case c0 => k_is); (case k0 => k_is); (case a1 => k_is); (case l1 => k_is); (case c1 => k_is); (case k1 => k_is); (case a2 => k_is); (case l2 => k_is); (case c2 => k_is); (case k2 => k_is); (case a3 => k_is); (case l3 => k_is); (case c3 => k_is); (case k3 => k_is); (case a4 => k_is); (case l4 => k_is); (case c4 => k_is); (case k4 => k_is); (case a5 => k_is); (case l5 => k_is); (case c5 => k_is); (case k5 => k_is); (case a6 => k_is); (case l6 => k_is); (case c6 => k_is); (case k6 => k_is); (case a7 => k_is); (case l7 => k_is); (case c7 => k_is); (case k7 => k_is); (case a8 => k_is); (case l8 => k_is); (case c8 => k_is); (case k8 => k_is); (case a9 => k_is); (case l9 => k_is); (case c9 => k_is); (case k9 => k_is); (case a10 => k_is); (case l10 => k_is); (case c10 => k_is); (case k10 => k_is); (case a11 => k_is); (case l11 => k_is); (case c11 => k_is); (case k11 => k_is); (case a12 => k_is); (case l12 => k_is); (case c12 => k_is); (case k12 => k_is); (case a13 => k_is); (case l13 => k_is); (case c13 => k_is); (case k13 => k_is); (case a14 => k_is); (case l14 => k_is); (case c14 => k_is); (case k14 => k_is); (case a15 => k_is); (case fn15 => k_is); (case l15 => k_is); (case c15 => k_is); (case k15 => k_is); (case a16 => k_is); (case fn16 => k_is); (case l16 => k_is); (case c16 => k_is); (case k16 => k_is); (case a17 => k_is); (case fn17 => k_is); (case l17 => k_is); (case c17 => k_is); (case k17 => k_is); (case a18 => k_is); (case fn18 => k_is); (case l18 => k_is); (case c18 => k_is); (case k18 => k_is); (case a19 => k_is); (case fn19 => k_is); (case l19 => k_is); (case c19 => k_is); (case k19 => k_is); (case a20 => k_is); (case l20 => k_is); (case c20 => k_is); (case k20 => k_is); (case a21 => k_is); (case l21 => k_is); (case c21 => k_is); (case k21 => k_is); (case a22 => k_is); (case l22 => k_is); (case c22 => k_is); (case k22 => k_is); (case a23 => k_is); (case fn23 => k_is); (case l23 => k_is); (case c23 => k_is); (case k23 => k_is); (case a24 => k_is); (case l24 => k_is); (case c24 => k_is); (case k24 => k_is); (case a25 => k_is); (case l25 => k_is); (case c25 => k_is); (case k25 => k_is); (case a26 => k_is); (case l26 => k_is); (case c26 => k_is); (case k26 => k_is); (case a27 => k_is); (case l27 => k_is); (case c27 => k_is); (case k27 => k_is); (case a28 => k_is); (case l28 => k_is); (case c28 => k_is); (case k28 => k_is); (case a29 => k_is); (case l29 => k_is); (case c29 => k_is); (case k29 => k_is); (case a30 => k_is); (case l30 => k_is); (case c30 => k_is); (case k30 => k_is); (case a31 => k_is); (case l31 => k_is); (case c31 => k_is); (case k31 => k_is); (case a32 => k_is); (case l32 => k_is); (case c32 => k_is); (case k32 => k_is); (case a33 => k_is); (case fn33 => k_is); (case l33 => k_is); (case c33 => k_is); (case k33 => k_is); (case a34 => k_is); (case l34 => k_is); (case c34 => k_is); (case k34 => k_is); (case a35 => k_is); (case l35 => k_is); (case c35 => k_is); (case k35 => k_is); (case a36 => k_is); (case l36 => k_is); (case c36 => k_is); (case k36 => k_is); (case a37 => k_is); (case l37 => k_is); (case c37 => k_is); (case k37 => k_is); (case a38 => k_is); (case l38 => k_is); (case c38 => k_is); (case k38 => k_is); (case a39 => k_is); (case l39 => k_is); (case c39 => k_is); (case k39 => k_is); (case a40 => k_is); (case l40 => k_is); (case c40 => k_is); (case k40 => k_is); (case a41 => k_is); (case l41 => k_is); (case c41 => k_is); (case k41 => k_is); (case a42 => k_is); (case l42 => k_is); (case c42 => k_is); (case k42 => k_is); (case a43 => k_is); (case l43 => k_is); (case c43 => k_is); (case k43 => k_is); (case a44 => k_is); (case l44 => k_is); (case c44 => k_is); (case k44 => k_is); (case z0 => k_is); (case z1 => k_is); (case z2 => k_is); (case z3 => k_is); (case z4 => k_is); (case z5 => k_is); (case z6 => k_is); (case z7 => k_is); (case z8 => k_is); (case z9 => k_is); (case v0 => k_is); (case v1 => k_is); (case v2 => k_is); (case v3 => k_is); (case v4 => k_is); (case v5 => k_is); (case v6 => k_is); (case v7 => k_is); (case v8 => k_is); (case v9 => k_is); (case v10 => k_is); (case v11 => k_is)

