import PyProof.Rows.All
import Wide.All
import OpenK.AllK
import Wide.FinOn
import HandS.ForMost
import HandS.Walk
import HandS.IsInst
import HandS.MapJoin
import HandS.Style
import HandS.FStr
import HandS.Codes
import HandS.Deep
import HandS.Replace
import HandS.Exc
import HandS.StrMore
import HandS.TupAny
import KE.KTupSum
import KE.GoesMore
import KE.KxField
import PyProof.Rows.StrIntSpec
import PyProof.FString3
import PySem.Challenge.RW_letterhouse_k13_whole_days_walked
set_option Elab.async false
set_option linter.all false
set_option maxRecDepth 100000
namespace LH
open PySem PySem.Spec PyProof.Rows L2
/-! ### heaps -/
theorem same_upd {H : Hp} {p : Addr} {o : HO} (h : H p = none) : Same H (upd H p o) := fun b x e => by
  rw [upd_ne (ne_of_none e h)]
  exact e
theorem seqT {K : PySem.W.Frag} {H H' : Hp} {a : Addr} {xs : List V} (e : Same H H') (h : SqT K H a xs) : SqT K H' a xs := by
  rcases h with (h | ⟨o, h⟩) | h
  · exact .inl (.inl (e _ _ h))
  · exact .inl (.inr ⟨o, e _ _ h⟩)
  · exact .inr h
/-- a list that is told new, in a heap that keeps all that stood -/
def New (H : Hp) (xs : List V) (Q : VK) : Prop := ∀ H' p, Same H H' → H p = none → H' p = some (.lst xs) → Q (.ref p) H'
/-- a value that is told in a heap that keeps all that stood -/
def Tell (H : Hp) (v : V) (Q : VK) : Prop := ∀ H', Same H H' → Q v H'
/-! ### a comprehension over anything that yields xs 0 .. xs (n - 1), its element f i -/
theorem lc_pure {J : It} {n : Nat} {G : Hp → Prop} {te : TE} {c : Nat} {σ : L2.St} {H1 : Hp} {D : Addr} {Qd : Hp → Prop} (xs f : Nat → V) (w : Walk J n G (YFn xs)) (hG : ∀ H, Same H1 H → G H) (hD : H1 D = none) (hn : n ≤ sizeLine)
    (he : ∀ i H Q, i < n → Same H1 H → Tell H (f i) Q → te ((σ.set c none).set c (some (xs i))) H Q)
    (hd : ∀ H, Same H1 H → H D = some (.lst ((List.range n).map f)) → Qd H) :
    ∃ W : Nat → Nat → Hp → Prop, (∃ m, W 0 m (upd H1 D (.lst []))) ∧ ∀ i m H, W i m H →
      (J.stop i H ∧ Qd H) ∨ (J.go i H ∧ ∃ Nx : Hp → Prop, (∀ H', Nx H' → ∃ m', m' < m ∧ W (i + 1) m' H') ∧ ∀ x H', J.yld i H x H' → gName c x (wipe σ [c]) H' fun σ2 H2 => wipe σ2 [c] = wipe σ [c] ∧ tYes σ2 H2 fun b H3 =>
        if b = true then te σ2 H3 fun y H4 => ∃ acc, H4 D = some (.lst acc) ∧ acc.length < sizeLine ∧ Nx (upd H4 D (.lst (acc ++ [y]))) else Nx H3) := by
  refine lc_it w (fun i H => Same H1 H ∧ H D = some (.lst ((List.range i).map f))) ⟨same_upd hD, upd_same⟩ (fun i H _ h => hG H h.1) (fun i x H H' hi hP hy => ?_) (fun H h => hd H h.1 h.2)
  obtain ⟨sm, eD⟩ := hP
  obtain ⟨rfl, rfl⟩ := hy
  refine ⟨?_, ?_⟩
  rotate_left
  · show (if true = true then te ((σ.set c none).set c (some (xs i))) H' fun y H4 => ∃ acc, H4 D = some (.lst acc) ∧ acc.length < sizeLine ∧ Same H1 (upd H4 D (.lst (acc ++ [y]))) ∧ upd H4 D (.lst (acc ++ [y])) D = some (.lst ((List.range (i + 1)).map f)) else (Same H1 H' ∧ H' D = some (.lst ((List.range (i + 1)).map f))))
    rw [if_pos rfl]
    refine he i H' _ hi sm fun H2 s2 => ⟨_, s2 _ _ eD, ?_, ?_, ?_⟩
    · rw [List.length_map, List.length_range]
      omega
    · intro b o hb
      rw [upd_ne (ne_of_none hb hD)]
      exact s2 _ _ (sm _ _ hb)
    · rw [upd_same, List.range_succ, List.map_append]
      rfl
  · show (((σ.set c none).set c (some (xs i))).set c none) = σ.set c none
    rw [List.set_set, List.set_set]
/-! ### a def as its callers see it -/
structure Def (P : Program) (w : World) (K : PySem.W.Frag) (mg : Str → Option Value) (base : Heap) (x : Str) (k : Nat) (f : Addr) (fd : FuncData) (ps : List Str) (sp : Sp) : Prop where
  ok : FnOk P w K mg base CX0 k f fd ps sp
  mg : mg x = some (.ref f)
  kp : PySem.W.keepIn K (.ref f) = true
  bd : Binds K fd ps []
section
variable {X : Cx} {x : Str} {k j : Nat} {f : Addr} {fd : FuncData} {ps : List Str} {sp : Sp} {e : Expr} {es : List Expr} {t : TA} {p pos : Pos}
theorem pe_def (D : Def X.prog X.w X.K X.mg X.base x k f fd ps sp) (hr : Room k X.A) (ha : PA X (e :: es) t) (hg : Gl X x := by rfl) (hdb : (x == ("__debug__" : Str)) = false := by decide)
    (he : starEach (e :: es) X.env = (false, eval e X.env) :: starEach es X.env := by rfl) (hpl : (backTo pos (starEach es X.env)).any (·.1) = false := by rfl) : PE X (.Call (.Name x p) (e :: es) [] pos) (tCall sp [] E0 t) :=
  pe_call D.ok hr hg D.mg D.kp D.bd .nil pass0 ha hdb he hpl
theorem pe_def0 (D : Def X.prog X.w X.K X.mg X.base x k f fd ps sp) (hr : Room k X.A) (hg : Gl X x := by rfl) (hdb : (x == ("__debug__" : Str)) = false := by decide) : PE X (.Call (.Name x p) [] [] pos) (tCall sp [] E0 tNil) :=
  pe_call0 D.ok hr hg D.mg D.kp D.bd .nil pass0 hdb
end
/-! ### a text times a number -/
section
variable {X : Cx}
def repS (x : Str) (n : Int) : Str := ⟨(List.replicate n.toNat x.cps.toList).flatten.toArray⟩
theorem foldl_app (l : List (Array Nat)) : ∀ a : Array Nat, (l.foldl (· ++ ·) a).toList = a.toList ++ (l.map (·.toList)).flatten := by
  induction l with
  | nil => intro a; simp
  | cons x r ih => intro a; simp [ih]
theorem mul_rep (x : Str) (n : Int) : Txt.mul x n = repS x n := by
  unfold Txt.mul repS
  by_cases h : n < 1
  · rw [if_pos h, show n.toNat = 0 by omega]
    rfl
  · rw [if_neg h]
    by_cases h2 : (n == 1 || x.length == 0) = true
    · rw [if_pos h2]
      refine TL.ext_tl ?_
      show x.cps.toList = (List.replicate n.toNat x.cps.toList).flatten
      rcases (Bool.or_eq_true _ _).mp h2 with e | e
      · have : n = 1 := eq_of_beq e
        subst this
        simp
      · have : x.cps.toList = [] := by
          have e' : x.length = 0 := eq_of_beq e
          have e3 : x.cps.toList.length = 0 := by simpa [Str.length] using e'
          exact List.length_eq_zero_iff.mp e3
        rw [this]
        simp
    · rw [if_neg h2]
      refine TL.ext_tl ?_
      show ((List.replicate n.toNat x.cps).foldl (· ++ ·) #[]).toList = (List.replicate n.toNat x.cps.toList).flatten
      rw [foldl_app]
      simp
theorem op_mul_str : OpR X (binaryOp .Mult) (fun x y H Q => ∃ z n, x = .str z ∧ y = .int n ∧ -(2 ^ 63) ≤ n ∧ n ≤ 4096 ∧ z.length ≤ 4096 ∧ Q (.str (repS z n)) H) := by
  intro pins s σ H x y v u Q I rx ry h
  obtain ⟨z, n, rfl, rfl, h0, h1, h2, q⟩ := h
  obtain ⟨t, rfl⟩ := rx
  obtain ⟨t', rfl⟩ := ry
  refine SB.mul (mulOk_of 4096 4096 h2 (by exact_mod_cast h1) h0 (by decide) (by decide)) fun t2 k => ?_
  rw [mul_rep]
  exact ⟨.str (repS z n), H, I.tok _, ⟨_, rfl⟩, q⟩
end
/-! ### chunks -/
def chunks {α : Type} (k : Nat) (t : List α) : List (List α) := (List.range ((t.length + (k - 1)) / k)).map fun i => (t.drop (i * k)).take k
theorem chunks_nil {α : Type} {k : Nat} (hk : 0 < k) : chunks k ([] : List α) = [] := by
  unfold chunks
  rw [show (([] : List α).length + (k - 1)) / k = 0 from Nat.div_eq_of_lt (by simp; omega)]
  rfl
theorem chunks_cons {α : Type} {k : Nat} (hk : 0 < k) {t : List α} (ht : t ≠ []) : chunks k t = t.take k :: chunks k (t.drop k) := by
  unfold chunks
  have hl : 0 < t.length := List.length_pos_iff.mpr ht
  have e : (t.length + (k - 1)) / k = ((t.drop k).length + (k - 1)) / k + 1 := by
    rw [List.length_drop]
    by_cases h : t.length ≤ k
    · rw [show t.length - k = 0 by omega, show (0 + (k - 1)) / k = 0 from Nat.div_eq_of_lt (by omega)]
      exact Nat.div_eq_of_lt_le (by omega) (by omega)
    · rw [show t.length + (k - 1) = (t.length - k + (k - 1)) + k by omega, Nat.add_div_right _ hk]
  rw [e, List.range_succ_eq_map, List.map_cons, List.map_map]
  congr 1
  · simp
  · refine List.map_congr_left fun i _ => ?_
    show (t.drop ((i + 1) * k)).take k = ((t.drop k).drop (i * k)).take k
    rw [List.drop_drop, Nat.succ_mul, Nat.add_comm]
/-! ### slices and ranges -/
theorem cutS_at (z : Str) (a b : Nat) : cutS z (some (a : Int)) (some (b : Int)) = ⟨((TL.tl z).drop a |>.take (b - a)).toArray⟩ := by
  unfold cutS
  rw [HT.sIx_nat, HT.sIx_nat]
  refine TL.ext_tl ?_
  show ((TL.tl z).drop (min a z.length)).take (min b z.length - min a z.length) = ((TL.tl z).drop a).take (b - a)
  have hz : z.length = (TL.tl z).length := TL.len_tl z
  rw [hz]
  generalize TL.tl z = l
  by_cases h : a ≤ l.length
  · rw [Nat.min_eq_left h]
    by_cases h2 : b ≤ l.length
    · rw [Nat.min_eq_left h2]
    · rw [Nat.min_eq_right (by omega), List.take_of_length_le (by rw [List.length_drop]; omega), List.take_of_length_le (by rw [List.length_drop]; omega)]
  · have h' : l.length ≤ a := by omega
    rw [Nat.min_eq_right h', List.drop_of_length_le (Nat.le_refl _), List.drop_of_length_le h']
    simp
theorem cutV_at (z : List V) (a b : Nat) : cutV z (some (a : Int)) (some (b : Int)) = (z.drop a).take (b - a) := by
  unfold cutV
  rw [HT.sIx_nat, HT.sIx_nat]
  by_cases h : a ≤ z.length
  · rw [Nat.min_eq_left h]
    by_cases h2 : b ≤ z.length
    · rw [Nat.min_eq_left h2]
    · rw [Nat.min_eq_right (by omega), List.take_of_length_le (by rw [List.length_drop]; omega), List.take_of_length_le (by rw [List.length_drop]; omega)]
  · have h' : z.length ≤ a := by omega
    rw [Nat.min_eq_right h', List.drop_of_length_le (Nat.le_refl _), List.drop_of_length_le h']
    simp
theorem cutV_to (z : List V) (b : Nat) : cutV z none (some (b : Int)) = z.take b := by
  unfold cutV
  rw [HT.sIx_nat, HT.sIx_none]
  by_cases h2 : b ≤ z.length
  · rw [Nat.min_eq_left h2]; simp
  · rw [Nat.min_eq_right (by omega), List.take_of_length_le (by simp), List.take_of_length_le (by omega)]; simp
theorem cutS_to (z : Str) (b : Nat) : cutS z none (some (b : Int)) = ⟨((TL.tl z).take b).toArray⟩ := by
  have := cutS_at z 0 b
  have e : cutS z none (some (b : Int)) = cutS z (some ((0 : Nat) : Int)) (some (b : Int)) := by
    unfold cutS
    rw [HT.sIx_none, HT.sIx_nat, HT.sIx_nat, Nat.zero_min]
  rw [e, this]
  simp
theorem cutS_from (z : Str) (a : Nat) : cutS z (some (a : Int)) none = ⟨((TL.tl z).drop a).toArray⟩ := by
  have e : cutS z (some (a : Int)) none = cutS z (some (a : Int)) (some ((z.length : Nat) : Int)) := by
    unfold cutS
    rw [HT.sIx_none, HT.sIx_nat, HT.sIx_nat]
    simp
  rw [e, cutS_at, TL.len_tl, List.take_of_length_le (by simp)]
theorem rgC (n k : Nat) (hk : 0 < k) (hk2 : k < 1000) (hn : n < 2 ^ 40) : RgC 0 (n : Int) (k : Int) ((n + (k - 1)) / k) := by
  refine ⟨by omega, by omega, ?_, ?_⟩
  · have e := rangeSize_pos (len := (n : Int)) (c := (k : Int)) (by omega) (by omega)
    have q : ((n : Int) + (k : Int) - 1) / (k : Int) ≤ (n : Int) + (k : Int) - 1 := Int.ediv_le_self _ (by omega)
    have q0 : 0 ≤ ((n : Int) + (k : Int) - 1) / (k : Int) := Int.ediv_nonneg (by omega) (by omega)
    unfold Builtin.Range.small
    rw [e]
    simp only [Builtin.Range.rangeFitsLong, Bool.and_eq_true, Bool.or_eq_true, decide_eq_true_eq, beq_iff_eq, show ((k : Int) > 0) by omega, if_true]
    have p1 : (0:Int) < 2 ^ 63 := by decide
    omega
  · rw [rangeSize_pos (by omega) (by omega)]
    rw [show (n : Int) + (k : Int) - 1 = ((n + (k - 1) : Nat) : Int) by omega]
    exact (Int.natCast_ediv _ _).symm
end LH
namespace LH
open PySem PySem.Spec PyProof.Rows L2
theorem walk_listF {K : PySem.W.Frag} {a : Addr} {xs : List V} : Walk (Itl K a) xs.length (fun H => SqL K H a xs) (YFn fun i => xs.getD i .non) :=
  walk_list.mono (fun _ h => h) fun i H x H' hi _ y => ⟨y.1, by show x = xs.getD i .non; rw [List.getD_eq_getElem?_getD, y.2]; rfl⟩
theorem walk_tupF {K : PySem.W.Frag} {a : Addr} {xs : List V} : Walk (Itt K a) xs.length (fun H => SqT K H a xs) (YFn fun i => xs.getD i .non) :=
  walk_tup.mono (fun _ h => h) fun i H x H' hi _ y => ⟨y.1, by show x = xs.getD i .non; rw [List.getD_eq_getElem?_getD, y.2]; rfl⟩
theorem getD_map_int (bs : List Int) (i : Nat) (h : i < bs.length) : (bs.map V.int).getD i .non = .int (bs.getD i 0) := by
  rw [List.getD_eq_getElem?_getD, List.getElem?_map, List.getElem?_eq_getElem h, List.getD_eq_getElem?_getD, List.getElem?_eq_getElem h]
  rfl
theorem range_getD {α : Type} (xs : List α) (d : α) : (List.range xs.length).map (fun i => xs.getD i d) = xs := by
  apply List.ext_getElem?
  intro i
  rw [List.getElem?_map]
  by_cases h : i < xs.length
  · rw [List.getElem?_range h]
    show some (xs.getD i d) = _
    rw [List.getD_eq_getElem?_getD, List.getElem?_eq_getElem h]
    rfl
  · rw [List.getElem?_eq_none (by rw [List.length_range]; omega), List.getElem?_eq_none (by omega)]
    rfl
section
variable {X : Cx}
theorem ixL (K : PySem.W.Frag) (h : X.K = K := by rfl) : IxR X (rIxL K) := h ▸ ix_list
theorem ixT (K : PySem.W.Frag) (h : X.K = K := by rfl) : IxR X (rIxT K) := h ▸ ix_tup
theorem slL (K : PySem.W.Frag) (h : X.K = K := by rfl) : SlR X (rSlL K) := h ▸ sl_list
theorem slT (K : PySem.W.Frag) (h : X.K = K := by rfl) : SlR X (rSlT K) := h ▸ sl_tup
theorem cIsi (K : PySem.W.Frag) (h : X.K = K := by rfl) : CallR X (.builtin "isinstance") (rIsi K) := h ▸ call_isi
def rLenS (K : PySem.W.Frag) : List V → Hp → VK → Prop := fun xs H Q => ∃ p ys, xs = [.ref p] ∧ (SqL K H p ys ∨ SqT K H p ys) ∧ Q (.int ys.length) H
theorem cLen (K : PySem.W.Frag) (h : X.K = K := by rfl) : CallR X (.builtin "len") (rLenS K) := h ▸ call_len_seq
theorem cAll (K : PySem.W.Frag) (h : X.K = K := by rfl) (hc : X.calm = true := by rfl) : CallR X (.builtin "all") (rAll K) := h ▸ cr_all hc
theorem cAny (K : PySem.W.Frag) (h : X.K = K := by rfl) (hc : X.calm = true := by rfl) : CallR X (.builtin "any") (rAny K) := h ▸ cr_any hc
theorem oIn (K : PySem.W.Frag) (h : X.K = K := by rfl) : OpR X (compareOp .In) (rIn K false) := h ▸ op_in_seq
theorem oNotIn (K : PySem.W.Frag) (h : X.K = K := by rfl) : OpR X (compareOp .NotIn) (rIn K true) := h ▸ op_notIn_seq
theorem oEqD (K : PySem.W.Frag) (hu : X.A.units + 64 < cLine) (h : X.K = K := by rfl) : OpR X (compareOp .Eq) (rEqD K) := h ▸ op_eqD hu
theorem oNeD (K : PySem.W.Frag) (hu : X.A.units + 64 < cLine) (h : X.K = K := by rfl) : OpR X (compareOp .NotEq) (rNeD K) := h ▸ op_neD hu
end
end LH
namespace LH
open PySem PySem.Spec PyProof.Rows L2
/-! ### data: flat lists compared -/
def OkS (x : Str) : Prop := ∀ c ∈ TL.tl x, c < 1114112
theorem strOk_of (x : Str) (h : OkS x) : PyData.strOk x = true := by
  unfold PyData.strOk
  rw [Array.all_eq_true']
  intro c hc
  exact decide_eq_true (h c (Array.mem_toList_iff.mpr hc))
theorem dpAll_ints {K : PySem.W.Frag} {H : Hp} : ∀ bs : List Int, DpAll K H (bs.map V.int) (bs.map PyData.int)
  | [] => .nil
  | b :: r => .cons (.int b) (dpAll_ints r)
theorem dpAll_strs {K : PySem.W.Frag} {H : Hp} : ∀ bs : List Str, DpAll K H (bs.map V.str) (bs.map PyData.str)
  | [] => .nil
  | b :: r => .cons (.str b) (dpAll_strs r)
theorem dp_ints {K : PySem.W.Frag} {H : Hp} {a : Addr} {bs : List Int} (h : SqL K H a (bs.map V.int)) : Dp K H (.ref a) (.list (bs.map PyData.int)) := .lst h (dpAll_ints bs)
theorem dp_strs {K : PySem.W.Frag} {H : Hp} {a : Addr} {bs : List Str} (h : SqL K H a (bs.map V.str)) : Dp K H (.ref a) (.list (bs.map PyData.str)) := .lst h (dpAll_strs bs)
theorem lay_strs : ∀ bs : List Str, (∀ x ∈ bs, OkS x) → PyData.canLayAll0 (bs.map PyData.str) = true
  | [], _ => by simp [PyData.canLayAll0]
  | b :: r, h => by simp [PyData.canLayAll0, PyData.canLay0, strOk_of b (h b (by simp)), lay_strs r fun x hx => h x (by simp [hx])]
theorem depth_strs : ∀ bs : List Str, PyData.depthAll (bs.map PyData.str) = 0
  | [] => rfl
  | _ :: r => by simp [PyData.depthAll, PyData.depth, depth_strs r]
theorem shaped_strs (bs : List Str) (h : ∀ x ∈ bs, OkS x) : SeqAt.shaped (.list (bs.map PyData.str)) = true := by
  simp [SeqAt.shaped, PyData.canLay0, PyData.depth, lay_strs bs h, depth_strs]
theorem shaped_intsL (bs : List Int) : SeqAt.shaped (.list (bs.map PyData.int)) = true := PySem.W.ke_shaped_ints bs
theorem eqv_ints : ∀ bs cs : List Int, PyData.eqvAll (bs.map PyData.int) (cs.map PyData.int) = decide (bs = cs)
  | [], [] => by simp [PyData.eqvAll]
  | [], _ :: _ => by simp [PyData.eqvAll]
  | _ :: _, [] => by simp [PyData.eqvAll]
  | b :: r, c :: q => by
    rw [List.map_cons, List.map_cons, PyData.eqvAll, PyData.eqv, eqv_ints r q]
    by_cases h : b = c <;> simp [h]
theorem eqv_strs : ∀ bs cs : List Str, PyData.eqvAll (bs.map PyData.str) (cs.map PyData.str) = decide (bs = cs)
  | [], [] => by simp [PyData.eqvAll]
  | [], _ :: _ => by simp [PyData.eqvAll]
  | _ :: _, [] => by simp [PyData.eqvAll]
  | b :: r, c :: q => by
    rw [List.map_cons, List.map_cons, PyData.eqvAll, PyData.eqv, eqv_strs r q]
    by_cases h : b = c <;> simp [h]
theorem eqv_intsL (bs cs : List Int) : PyData.eqv (.list (bs.map PyData.int)) (.list (cs.map PyData.int)) = decide (bs = cs) := by rw [PyData.eqv, eqv_ints]
theorem eqv_strsL (bs cs : List Str) : PyData.eqv (.list (bs.map PyData.str)) (.list (cs.map PyData.str)) = decide (bs = cs) := by rw [PyData.eqv, eqv_strs]
theorem map_true {α : Type} (l : List α) : (l.map fun _ => true).all id = true := by
  induction l with
  | nil => rfl
  | cons x r ih => simpa using ih
end LH

namespace LH
open PySem PySem.Spec PyProof.Rows L2
/-! ### a comprehension with a test -/
theorem lc_filt {J : It} {n : Nat} {G : Hp → Prop} {tt : TT} {te : TE} {c : Nat} {σ : L2.St} {H1 : Hp} {D : Addr} {Qd : Hp → Prop} (xs f : Nat → V) (b : Nat → Bool) (w : Walk J n G (YFn xs)) (hG : ∀ H, Same H1 H → G H) (hD : H1 D = none) (hn : n ≤ sizeLine)
    (ht : ∀ (i : Nat) (H : Hp) (Q : Bool → Hp → Prop), i < n → Same H1 H → (∀ H', Same H H' → Q (b i) H') → tt ((σ.set c none).set c (some (xs i))) H Q)
    (he : ∀ i H Q, i < n → Same H1 H → b i = true → Tell H (f i) Q → te ((σ.set c none).set c (some (xs i))) H Q)
    (hd : ∀ H, Same H1 H → H D = some (.lst (((List.range n).filter b).map f)) → Qd H) :
    ∃ W : Nat → Nat → Hp → Prop, (∃ m, W 0 m (upd H1 D (.lst []))) ∧ ∀ i m H, W i m H →
      (J.stop i H ∧ Qd H) ∨ (J.go i H ∧ ∃ Nx : Hp → Prop, (∀ H', Nx H' → ∃ m', m' < m ∧ W (i + 1) m' H') ∧ ∀ x H', J.yld i H x H' → gName c x (wipe σ [c]) H' fun σ2 H2 => wipe σ2 [c] = wipe σ [c] ∧ tt σ2 H2 fun b H3 =>
        if b = true then te σ2 H3 fun y H4 => ∃ acc, H4 D = some (.lst acc) ∧ acc.length < sizeLine ∧ Nx (upd H4 D (.lst (acc ++ [y]))) else Nx H3) := by
  refine lc_it w (fun i H => Same H1 H ∧ H D = some (.lst (((List.range i).filter b).map f))) ⟨same_upd hD, upd_same⟩ (fun i H _ h => hG H h.1) (fun i x H H' hi hP hy => ?_) (fun H h => hd H h.1 h.2)
  obtain ⟨sm, eD⟩ := hP
  obtain ⟨rfl, rfl⟩ := hy
  refine ⟨?_, ?_⟩
  rotate_left
  · refine ht i H' _ hi sm fun H2 s2 => ?_
    cases hb : b i with
    | true =>
      rw [if_pos rfl]
      refine he i H2 _ hi (sm.trans s2) hb fun H3 s3 => ⟨_, s3 _ _ (s2 _ _ eD), ?_, ?_, ?_⟩
      · rw [List.length_map]
        have := List.length_filter_le b (List.range i)
        rw [List.length_range] at this
        omega
      · intro b' o hb'
        rw [upd_ne (ne_of_none hb' hD)]
        exact s3 _ _ (s2 _ _ (sm _ _ hb'))
      · rw [upd_same, List.range_succ, List.filter_append, List.map_append]
        simp [hb]
    | false =>
      rw [if_neg Bool.false_ne_true]
      refine ⟨sm.trans s2, ?_⟩
      rw [s2 _ _ eD, List.range_succ, List.filter_append, List.map_append]
      simp [hb]
  · show (((σ.set c none).set c (some (xs i))).set c none) = σ.set c none
    rw [List.set_set, List.set_set]
/-! ### the signs of a text -/
theorem walk_strF {z : Str} : Walk (Its z) (TL.tl z).length (fun _ => True) (YFn fun i => .str ⟨#[(TL.tl z).getD i 0]⟩) := by
  have e : (TL.tl z).length = z.cps.size := Array.length_toList
  rw [e]
  refine walk_str.mono (fun _ h => h) fun i H x H' hi _ y => ⟨y.1, ?_⟩
  obtain ⟨_, c, hc, rfl⟩ := y
  show V.str ⟨#[c]⟩ = .str ⟨#[(TL.tl z).getD i 0]⟩
  have : (TL.tl z)[i]? = some c := by rw [← hc]; exact Array.getElem?_toList
  rw [List.getD_eq_getElem?_getD, this]
  rfl
theorem lall_range {α : Type} (l : List α) (d : α) (p : α → Bool) : ((List.range l.length).map fun i => p (l.getD i d)).all id = l.all p := by
  have e : ((List.range l.length).map fun i => p (l.getD i d)) = ((List.range l.length).map fun i => l.getD i d).map p := by rw [List.map_map]; rfl
  rw [e, range_getD, List.all_map]
  rfl
/-! ### one sign's split -/
def splitL (s : Nat) : List Nat → List (List Nat)
  | [] => [[]]
  | c :: r => if c = s then [] :: splitL s r else (c :: (splitL s r).headD []) :: (splitL s r).tail
theorem splitL_ne (s : Nat) (l : List Nat) : splitL s l ≠ [] := by
  cases l with
  | nil => simp [splitL]
  | cons c r => unfold splitL; split <;> simp
theorem splitL_eta (s : Nat) (l : List Nat) : splitL s l = (splitL s l).headD [] :: (splitL s l).tail := by
  cases h : splitL s l with
  | nil => exact absurd h (splitL_ne s l)
  | cons x r => rfl
theorem spl_one (s : Nat) : ∀ (l acc : List Nat), TL.spl [s] 0 acc l = (acc ++ (splitL s l).headD []) :: (splitL s l).tail
  | [], acc => by rw [TL.spl_nil]; simp [splitL]
  | c :: r, acc => by
    by_cases h : c = s
    · subst h
      rw [TL.spl_hit (show TL.pre [c] (c :: r) = true by simp [TL.pre])]
      show acc :: TL.spl [c] 0 [] r = _
      rw [spl_one c r []]
      have e : splitL c (c :: r) = [] :: splitL c r := by
        conv => lhs; unfold splitL
        rw [if_pos rfl]
      rw [e]
      simp only [List.headD_cons, List.tail_cons, List.append_nil, List.nil_append]
      rw [← splitL_eta]
    · rw [TL.spl_miss (show TL.pre [s] (c :: r) = false by simp [TL.pre]; exact h), spl_one s r]
      conv => rhs; unfold splitL
      rw [if_neg h]
      simp
theorem split_tl {x y : Str} {s : Nat} (hy : TL.tl y = [s]) (hs : s < 256) : (Txt.split x y).map TL.tl = splitL s (TL.tl x) := by
  rw [TL.split_spl x y (by rw [hy]; simp) (TL.kind_ok ?_), hy, spl_one, List.nil_append, ← splitL_eta]
  rw [Array.all_eq_true']
  intro c hc
  have : c ∈ TL.tl y := Array.mem_toList_iff.mpr hc
  rw [hy] at this
  exact decide_eq_true (by rw [List.mem_singleton.mp this]; exact hs)
theorem splitL_len (s : Nat) : ∀ l : List Nat, (splitL s l).length ≤ l.length + 1
  | [] => Nat.le_refl _
  | c :: r => by
    have ih := splitL_len s r
    unfold splitL
    split
    · simp only [List.length_cons]; omega
    · have := splitL_eta s r
      have h2 := congrArg List.length this
      simp only [List.length_cons] at h2 ⊢
      omega
theorem splitL_mem (s : Nat) : ∀ (l : List Nat) (w : List Nat), w ∈ splitL s l → ∀ c ∈ w, c ∈ l
  | [], w, h, c, hc => by
    simp [splitL] at h
    rw [h] at hc
    cases hc
  | d :: r, w, h, c, hc => by
    unfold splitL at h
    have e := splitL_eta s r
    split at h
    · rcases List.mem_cons.mp h with rfl | h
      · cases hc
      · exact List.mem_cons_of_mem _ (splitL_mem s r w h c hc)
    · rcases List.mem_cons.mp h with rfl | h
      · rcases List.mem_cons.mp hc with rfl | hc
        · exact List.mem_cons_self
        · exact List.mem_cons_of_mem _ (splitL_mem s r _ (by rw [e]; exact List.mem_cons_self) c hc)
      · exact List.mem_cons_of_mem _ (splitL_mem s r w (by rw [e]; exact List.mem_cons_of_mem _ h) c hc)
theorem splitL_le (s : Nat) : ∀ (l : List Nat) (w : List Nat), w ∈ splitL s l → w.length ≤ l.length
  | [], w, h => by
    simp [splitL] at h
    rw [h]
    exact Nat.le_refl _
  | d :: r, w, h => by
    unfold splitL at h
    have e := splitL_eta s r
    have mem1 : (splitL s r).headD [] ∈ splitL s r := by rw [e]; exact List.mem_cons_self
    have mem2 : ∀ x ∈ (splitL s r).tail, x ∈ splitL s r := fun x hx => by rw [e]; exact List.mem_cons_of_mem _ hx
    split at h
    · rcases List.mem_cons.mp h with rfl | h
      · exact Nat.zero_le _
      · exact Nat.le_succ_of_le (splitL_le s r w h)
    · rcases List.mem_cons.mp h with rfl | h
      · exact Nat.succ_le_succ (splitL_le s r _ mem1)
      · exact Nat.le_succ_of_le (splitL_le s r w (mem2 w h))
theorem mk_len (l : List Nat) : (⟨l.toArray⟩ : Str).length = l.length := by rw [TL.len_tl]
theorem str_eq_iff (x y : Str) : x = y ↔ TL.tl x = TL.tl y := ⟨fun h => by rw [h], TL.ext_tl⟩
end LH
namespace LH
open PySem PySem.Spec PyProof.Rows L2
/-! ### an empty part in a split: a sign at an end, or two side by side -/
def Gap (s : Nat) (l : List Nat) : Prop := ∃ i, l[i]? = some s ∧ (l[i + 1]? = none ∨ l[i + 1]? = some s)
theorem gap_nil (s : Nat) : ¬ Gap s [] := fun ⟨i, h, _⟩ => by simp at h
theorem gap_cons (s c : Nat) (r : List Nat) : Gap s (c :: r) ↔ (c = s ∧ (r = [] ∨ r[0]? = some s)) ∨ Gap s r := by
  constructor
  · rintro ⟨i, h1, h2⟩
    cases i with
    | zero =>
      left
      have : c = s := by simpa using h1
      refine ⟨this, ?_⟩
      rcases h2 with h2 | h2
      · left
        have : r[0]? = none := by simpa using h2
        cases r with
        | nil => rfl
        | cons x r => simp at this
      · right; simpa using h2
    | succ i => exact .inr ⟨i, by simpa using h1, by simpa using h2⟩
  · rintro (⟨rfl, h⟩ | ⟨i, h1, h2⟩)
    · refine ⟨0, by simp, ?_⟩
      rcases h with rfl | h
      · left; rfl
      · right; simpa using h
    · exact ⟨i + 1, by simpa using h1, by simpa using h2⟩
theorem split_head (s : Nat) (l : List Nat) : (splitL s l).headD [] = [] ↔ l = [] ∨ l[0]? = some s := by
  cases l with
  | nil => simp [splitL]
  | cons c r =>
    unfold splitL
    by_cases h : c = s
    · rw [if_pos h]; simp [h]
    · rw [if_neg h]; simp [h]
theorem split_tail (s : Nat) : ∀ l : List Nat, [] ∈ (splitL s l).tail ↔ Gap s l
  | [] => by simp [splitL, gap_nil]
  | c :: r => by
    rw [gap_cons, ← split_tail s r]
    by_cases h : c = s
    · have e : splitL s (c :: r) = [] :: splitL s r := by
        conv => lhs; unfold splitL
        rw [if_pos h]
      rw [e, List.tail_cons, splitL_eta s r, List.mem_cons, eq_comm, split_head]
      simp [h]
    · have e : splitL s (c :: r) = (c :: (splitL s r).headD []) :: (splitL s r).tail := by
        conv => lhs; unfold splitL
        rw [if_neg h]
      rw [e, List.tail_cons]
      simp [h]
theorem split_gap (s : Nat) (l : List Nat) : [] ∈ splitL s l ↔ l = [] ∨ l[0]? = some s ∨ Gap s l := by
  rw [splitL_eta s l, List.mem_cons, eq_comm, split_head, split_tail, or_assoc]
theorem joinL_nil (l : List (List Nat)) : TL.joinL [] l = l.flatten := by
  induction l with
  | nil => rfl
  | cons x r ih =>
    cases r with
    | nil => simp [TL.joinL]
    | cons y r => rw [TL.joinL, ih]; simp
theorem tl_empty : TL.tl (Str.ofString "") = [] := by decide +kernel
theorem tl_join0 (ys : List Str) : TL.tl (Txt.join (Str.ofString "") ys) = (ys.map TL.tl).flatten := by
  rw [TL.join_eq, TL.tl_join, tl_empty, joinL_nil]
theorem flatten_le {α : Type} {k : Nat} : ∀ l : List (List α), (∀ x ∈ l, x.length ≤ k) → l.flatten.length ≤ k * l.length
  | [], _ => Nat.le_refl _
  | x :: r, h => by
    have ih := flatten_le r fun y hy => h y (List.mem_cons_of_mem _ hy)
    have hx := h x (by simp)
    rw [List.flatten_cons, List.length_append, List.length_cons, Nat.mul_succ]
    omega
theorem chunks_len {α : Type} (k : Nat) (t : List α) : (chunks k t).length = (t.length + (k - 1)) / k := by
  unfold chunks
  rw [List.length_map, List.length_range]
theorem sum_len (ys : List Str) : (ys.map (·.length)).sum = ((ys.map TL.tl).flatten).length := by
  rw [List.length_flatten, List.map_map]
  rfl
/-! ### texts and their signs -/
theorem okS_app {x y : Str} (hx : OkS x) (hy : OkS y) : OkS (x ++ y) := fun c hc => by
  rw [TL.tl_append] at hc
  rcases List.mem_append.mp hc with h | h
  · exact hx c h
  · exact hy c h
theorem len_app (x y : Str) : (x ++ y).length = x.length + y.length := by
  rw [TL.len_tl, TL.tl_append, List.length_append, ← TL.len_tl, ← TL.len_tl]
theorem okS_cut {x : Str} (hx : OkS x) (lo hi : Option Int) : OkS (cutS x lo hi) := fun c hc => hx c (List.mem_of_mem_drop (List.mem_of_mem_take hc))
theorem okS_one {c : Nat} (h : c < 1114112) : OkS ⟨#[c]⟩ := fun d hd => by
  have : d = c := by simpa [TL.tl] using hd
  rw [this]; exact h
theorem joinL_mem (S : List Nat) : ∀ (ps : List (List Nat)) (c : Nat), c ∈ TL.joinL S ps → c ∈ S ∨ ∃ p ∈ ps, c ∈ p
  | [], c, h => by cases h
  | [p], c, h => .inr ⟨p, by simp, h⟩
  | p :: q :: r, c, h => by
    rw [TL.joinL] at h
    rcases List.mem_append.mp h with h | h
    · exact .inr ⟨p, by simp, h⟩
    · rcases List.mem_append.mp h with h | h
      · exact .inl h
      · rcases joinL_mem S (q :: r) c h with h | ⟨x, hx, hc⟩
        · exact .inl h
        · exact .inr ⟨x, List.mem_cons_of_mem _ hx, hc⟩
theorem joinL_len (S : List Nat) : ∀ (ps : List (List Nat)), (TL.joinL S ps).length ≤ (ps.map List.length).sum + ps.length * S.length
  | [] => by simp [TL.joinL]
  | [p] => by simp [TL.joinL]
  | p :: q :: r => by
    have ih := joinL_len S (q :: r)
    rw [TL.joinL, List.length_append, List.length_append, List.map_cons, List.sum_cons, List.length_cons, Nat.succ_mul]
    omega
theorem sum_le (k : Nat) : ∀ l : List Nat, (∀ x ∈ l, x ≤ k) → l.sum ≤ l.length * k
  | [], _ => by simp
  | x :: r, h => by
    have ih := sum_le k r fun y hy => h y (List.mem_cons_of_mem _ hy)
    have hx := h x (by simp)
    rw [List.sum_cons, List.length_cons, Nat.succ_mul]
    omega
theorem join_len_le {sep : Str} {ws : List Str} {k n : Nat} (hw : ∀ x ∈ ws, x.length ≤ k) (hn : ws.length ≤ n) : (ws.map (·.length)).sum + ws.length * sep.length ≤ n * (k + sep.length) := by
  have h1 := sum_le k (ws.map (·.length)) fun x hx => by
    obtain ⟨y, hy, rfl⟩ := List.mem_map.mp hx
    exact hw y hy
  rw [List.length_map] at h1
  calc (ws.map (·.length)).sum + ws.length * sep.length ≤ ws.length * k + ws.length * sep.length := Nat.add_le_add_right h1 _
    _ = ws.length * (k + sep.length) := (Nat.mul_add _ _ _).symm
    _ ≤ n * (k + sep.length) := Nat.mul_le_mul_right _ hn
theorem joined_len (sep : Str) (ws : List Str) : (Txt.join sep ws).length ≤ (ws.map (·.length)).sum + ws.length * sep.length := by
  rw [TL.len_tl, TL.join_eq, TL.tl_join]
  refine Nat.le_trans (joinL_len _ _) ?_
  rw [List.map_map, List.length_map, ← TL.len_tl]
  have : (ws.map (List.length ∘ TL.tl)) = ws.map (·.length) := List.map_congr_left fun x _ => (TL.len_tl x).symm
  rw [this]
  exact Nat.le_refl _
theorem okS_join {sep : Str} {ws : List Str} (hs : OkS sep) (hw : ∀ x ∈ ws, OkS x) : OkS (Txt.join sep ws) := fun c hc => by
  rw [TL.join_eq, TL.tl_join] at hc
  rcases joinL_mem _ _ c hc with h | ⟨p, hp, hc⟩
  · exact hs c h
  · obtain ⟨x, hx, rfl⟩ := List.mem_map.mp hp
    exact hw x hx c hc
/-- lists of truth values compared -/
theorem dpAll_bls {K : PySem.W.Frag} {H : Hp} : ∀ bs : List Bool, DpAll K H (bs.map V.bl) (bs.map PyData.bool)
  | [] => .nil
  | b :: r => .cons (.bl b) (dpAll_bls r)
theorem dp_bls {K : PySem.W.Frag} {H : Hp} {a : Addr} {bs : List Bool} (h : SqL K H a (bs.map V.bl)) : Dp K H (.ref a) (.list (bs.map PyData.bool)) := .lst h (dpAll_bls bs)
theorem lay_bls : ∀ bs : List Bool, PyData.canLayAll0 (bs.map PyData.bool) = true
  | [] => by simp [PyData.canLayAll0]
  | b :: r => by simp [PyData.canLayAll0, PyData.canLay0, lay_bls r]
theorem depth_bls : ∀ bs : List Bool, PyData.depthAll (bs.map PyData.bool) = 0
  | [] => rfl
  | _ :: r => by simp [PyData.depthAll, PyData.depth, depth_bls r]
theorem shaped_bls (bs : List Bool) : SeqAt.shaped (.list (bs.map PyData.bool)) = true := by
  simp [SeqAt.shaped, PyData.canLay0, PyData.depth, lay_bls bs, depth_bls]
theorem eqv_bls : ∀ bs cs : List Bool, PyData.eqvAll (bs.map PyData.bool) (cs.map PyData.bool) = decide (bs = cs)
  | [], [] => by simp [PyData.eqvAll]
  | [], _ :: _ => by simp [PyData.eqvAll]
  | _ :: _, [] => by simp [PyData.eqvAll]
  | b :: r, c :: q => by
    rw [List.map_cons, List.map_cons, PyData.eqvAll, PyData.eqv, eqv_bls r q]
    by_cases h : b = c <;> simp [h]
theorem eqv_blsL (bs cs : List Bool) : PyData.eqv (.list (bs.map PyData.bool)) (.list (cs.map PyData.bool)) = decide (bs = cs) := by rw [PyData.eqv, eqv_bls]
theorem lat_of {α : Type} {xs : List α} {z : Int} {j : Nat} {v : α} (e : z = (j : Int)) (h : xs[j]? = some v) : atI xs z = some v := by
  rw [e]
  exact atI_nat h
theorem getD_str (ws : List Str) (i : Nat) (hi : i < ws.length) : (ws.map V.str).getD i .non = .str (ws.getD i Str.empty) := by
  rw [List.getD_eq_getElem?_getD, List.getElem?_map, List.getElem?_eq_getElem hi, List.getD_eq_getElem?_getD, List.getElem?_eq_getElem hi]
  rfl
end LH
namespace LH
open PySem PySem.Spec PyProof.Rows L2
/-! ### and, or of values, each part told by its truth -/
theorem andV {ta tb : TE} {σ : L2.St} {H : Hp} {Q : VK} (c d : Bool) (ha : ∀ Q' : VK, Tell H (.bl c) Q' → ta σ H Q') (hb : c = true → ∀ (H1 : Hp) (Q' : VK), Same H H1 → Tell H1 (.bl d) Q' → tb σ H1 Q') (q : Tell H (.bl (c && d)) Q) : tAndV ta tb σ H Q := by
  refine ha _ fun H1 s1 => ⟨c, rfl, ?_⟩
  cases c with
  | true => exact iteT (hb rfl H1 Q s1 fun H2 s2 => q H2 (s1.trans s2))
  | false => exact iteF (q H1 s1)
theorem orV {ta tb : TE} {σ : L2.St} {H : Hp} {Q : VK} (c d : Bool) (ha : ∀ Q' : VK, Tell H (.bl c) Q' → ta σ H Q') (hb : c = false → ∀ (H1 : Hp) (Q' : VK), Same H H1 → Tell H1 (.bl d) Q' → tb σ H1 Q') (q : Tell H (.bl (c || d)) Q) : tOrV ta tb σ H Q := by
  refine ha _ fun H1 s1 => ⟨c, rfl, ?_⟩
  cases c with
  | true => exact iteT (q H1 s1)
  | false => exact iteF (hb rfl H1 Q s1 fun H2 s2 => q H2 (s1.trans s2))
/-- two blanks side by side -/
def dbl (s : Nat) (l : List Nat) : Bool := (List.range l.length).any fun i => decide (l[i]? = some s) && decide (l[i + 1]? = some s)
theorem dbl_iff (s : Nat) (l : List Nat) : dbl s l = true ↔ ∃ i, l[i]? = some s ∧ l[i + 1]? = some s := by
  unfold dbl
  rw [List.any_eq_true]
  constructor
  · rintro ⟨i, _, h⟩
    rw [Bool.and_eq_true, decide_eq_true_eq, decide_eq_true_eq] at h
    exact ⟨i, h⟩
  · rintro ⟨i, h1, h2⟩
    refine ⟨i, List.mem_range.mpr (List.getElem?_eq_some_iff.mp h1).1, ?_⟩
    rw [Bool.and_eq_true, decide_eq_true_eq, decide_eq_true_eq]
    exact ⟨h1, h2⟩
theorem take2 (s : Nat) : ∀ (l : List Nat) (i : Nat), (l.drop i).take 2 = [s, s] ↔ l[i]? = some s ∧ l[i + 1]? = some s
  | [], i => by simp
  | c :: r, 0 => by cases r <;> simp
  | c :: r, i + 1 => by simpa using take2 s r i
theorem in_two {x y : Str} {s : Nat} (hy : TL.tl y = [s, s]) : (!(Builtin.Str.occurrences x y 0 x.length 1).isEmpty) = dbl s (TL.tl x) := by
  rw [Bool.eq_iff_iff, PySem.StrLaws.found_iff, dbl_iff]
  have hyl : y.length = 2 := by rw [TL.len_tl, hy]; rfl
  constructor
  · rintro ⟨i, h1, h2⟩
    rw [PySem.StrLaws.subAt_eq, hyl] at h2
    exact ⟨i, (take2 s _ i).mp ((eq_of_beq h2).trans hy)⟩
  · rintro ⟨i, h⟩
    have hl := (List.getElem?_eq_some_iff.mp h.2).1
    refine ⟨i, by rw [hyl, TL.len_tl]; omega, ?_⟩
    rw [PySem.StrLaws.subAt_eq, hyl]
    refine beq_iff_eq.mpr ?_
    rw [show x.cps.toList = TL.tl x from rfl, (take2 s _ i).mpr h]
    exact hy.symm
theorem take1 (s : Nat) (l : List Nat) : l.take 1 = [s] ↔ l[0]? = some s := by cases l <;> simp
theorem dropL (s : Nat) (l : List Nat) : l.drop (l.length - 1) = [s] ↔ ∃ i, l[i]? = some s ∧ l[i + 1]? = none := by
  constructor
  · intro h
    refine ⟨l.length - 1, ?_, ?_⟩
    · have := congrArg (fun m : List Nat => m[0]?) h
      simpa using this
    · rw [List.getElem?_eq_none_iff]; omega
  · rintro ⟨i, h1, h2⟩
    obtain ⟨hl, e⟩ := List.getElem?_eq_some_iff.mp h1
    have hl2 := List.getElem?_eq_none_iff.mp h2
    have : i = l.length - 1 := by omega
    subst this
    rw [List.drop_eq_getElem_cons hl, e, List.drop_of_length_le (by omega)]
theorem blanks_iff (s : Nat) (l : List Nat) (h0 : l ≠ []) : (decide (l.take 1 = [s]) || (decide (l.drop (l.length - 1) = [s]) || dbl s l)) = decide ([] ∈ splitL s l) := by
  rw [Bool.eq_iff_iff, Bool.or_eq_true, Bool.or_eq_true, decide_eq_true_eq, decide_eq_true_eq, dbl_iff, decide_eq_true_eq, split_gap, take1, dropL]
  constructor
  · rintro (h | ⟨i, h1, h2⟩ | ⟨i, h1, h2⟩)
    · exact .inr (.inl h)
    · exact .inr (.inr ⟨i, h1, .inl h2⟩)
    · exact .inr (.inr ⟨i, h1, .inr h2⟩)
  · rintro (h | h | ⟨i, h1, h2 | h2⟩)
    · exact absurd h h0
    · exact .inl h
    · exact .inr (.inl ⟨i, h1, h2⟩)
    · exact .inr (.inr ⟨i, h1, h2⟩)
theorem cutS_last (z : Str) : TL.tl (cutS z (some (-1)) none) = (TL.tl z).drop ((TL.tl z).length - 1) := by
  unfold cutS
  rw [HT.sIx_none]
  have e : HT.sIx z.length 0 (some (-1)) = z.length - 1 := by
    show (if (-1 : Int) < 0 then (-1 + ((z.length : Nat) : Int)).toNat else min (-1 : Int).toNat z.length) = _
    rw [if_pos (by decide)]
    omega
  rw [e]
  show ((TL.tl z).drop (z.length - 1)).take (z.length - (z.length - 1)) = _
  rw [TL.len_tl]
  exact List.take_of_length_le (by rw [List.length_drop]; exact Nat.le_refl _)
end LH
namespace LH
open PySem PySem.Spec PyProof.Rows L2
theorem pickL {α : Type} (xs : List α) (m : Int) (h0 : 0 ≤ m) (h1 : m < xs.length) : ∃ x, x ∈ xs ∧ atI xs m = some x := by
  obtain ⟨j, rfl⟩ : ∃ j : Nat, m = (j : Int) := ⟨m.toNat, by omega⟩
  have hj : j < xs.length := by omega
  exact ⟨xs[j], List.getElem_mem hj, atI_nat (List.getElem?_eq_getElem hj)⟩
/-- a thing that is no text -/
def Odd (H : Hp) (x : V) : Prop := x = .non ∨ (∃ i, x = .int i) ∨ (∃ b, x = .bl b) ∨ ∃ a, x = .ref a ∧ ((∃ xs, H a = some (.lst xs)) ∨ (∃ xs, H a = some (.tup xs)) ∨ ∃ kvs, H a = some (.dK kvs))
theorem Odd.same {H H' : Hp} {x : V} (s : Same H H') (h : Odd H x) : Odd H' x := by
  rcases h with h | h | h | ⟨a, e, h⟩
  · exact .inl h
  · exact .inr (.inl h)
  · exact .inr (.inr (.inl h))
  · refine .inr (.inr (.inr ⟨a, e, ?_⟩))
    rcases h with ⟨xs, h⟩ | ⟨xs, h⟩ | ⟨xs, h⟩
    · exact .inl ⟨xs, s _ _ h⟩
    · exact .inr (.inl ⟨xs, s _ _ h⟩)
    · exact .inr (.inr ⟨xs, s _ _ h⟩)
theorem Odd.ty {K : PySem.W.Frag} {H : Hp} {x : V} (h : Odd H x) : ∃ t, TyX K H x t ∧ PySem.W.kitOne K t (.type "str") = some false := by
  rcases h with rfl | ⟨i, rfl⟩ | ⟨b, rfl⟩ | ⟨a, rfl, ⟨xs, h⟩ | ⟨xs, h⟩ | ⟨xs, h⟩⟩
  · exact ⟨_, .base .non, kit_ty (by decide +kernel)⟩
  · exact ⟨_, .base (.int i), kit_ty (by decide +kernel)⟩
  · exact ⟨_, .base (.bl b), kit_ty (by decide +kernel)⟩
  · exact ⟨_, .base (.lst h), kit_ty (by decide +kernel)⟩
  · exact ⟨_, .base (.tup h), kit_ty (by decide +kernel)⟩
  · exact ⟨_, .base (.dK h), kit_ty (by decide +kernel)⟩
end LH

namespace LH
open PySem PySem.Spec PySem.Calls PyProof.Rows L2
/-! ### enumerate(text) -/
/-- the signs of x, each in a new pair with its number -/
def ItES (x : Str) : It :=
  ⟨fun i _ => i < x.cps.size, fun i H v H' => ∃ T c, v = .ref T ∧ H T = none ∧ H' = upd H T (.tup [.int (i : Nat), .str ⟨#[c]⟩]) ∧ x.cps[i]? = some c, fun i _ => x.cps.size = i⟩
theorem turn_enumS {P : Program} {w : World} {K : PySem.W.Frag} {elts : List Expr} {kk : Nat} {tpos : Pos} (x : Str) (t : Tok) (e it : Addr) :
    Turn P w K (.Tuple elts kk tpos) (ItES x) [e, it] e (fun i h => (∃ old, IsEnum h e it ((i : Nat) : Int) old) ∧ h.IsStrIter it (strIterType x) x t i ∧ e ≠ it) where
  mem := by simp
  obj := fun i h st b hb => by
    obtain ⟨⟨old, he⟩, ⟨o, ho, hc, hd⟩, _⟩ := st
    have e' : b = e ∨ b = it := by simpa using hb
    rcases e' with z | z
    · rw [z]; exact ⟨_, he, fun v q => nomatch q⟩
    · rw [z]; exact ⟨o, ho, fun v q => by rw [hd] at q; cases q⟩
  keep := fun i h h' st k => let ⟨⟨old, he⟩, ⟨o, ho, r⟩, hne⟩ := st; ⟨⟨old, k e (by simp) _ he⟩, ⟨o, k it (by simp) o ho, r⟩, hne⟩
  item := by
    intro X hP hw hK hc i pins s σ H E I hf st hg
    subst hP hw hK
    obtain ⟨⟨old, he⟩, hit, hne⟩ := st
    have hel : e < s.heap.objs.size := Heap.lt_size he
    have hil : it < s.heap.objs.size := by obtain ⟨_, q, _⟩ := hit; exact Heap.lt_size q
    refine wpAny_pyNext_enum_itemD (Draws.text (A := X.A.in1) (I.ok.hd hc) it x t) he hit hg hne (by simpa using hne) fun v h' tk hv ho hit' hT hsz hk => ?_
    obtain ⟨c, u, hcx, rfl⟩ := hv
    refine ⟨_, rfl, wpAny_letOwnedTupleGo_enum (s := { s with heap := h', toks := tk + 1 }) ho fun h'' he' sb => ?_⟩
    have hT2 : h''.get? s.heap.objs.size = some { cls := .type "tuple", data := .seq #[.int i tk, .str ⟨#[c]⟩ u] } := (sb.2 _ (Nat.ne_of_gt hel)).trans hT
    have new : ObjOk X.prog X.w (upd H s.heap.objs.size (.tup [.int (i : Nat), .str ⟨#[c]⟩])) h'' s.heap.objs.size (.tup [.int (i : Nat), .str ⟨#[c]⟩]) :=
      ⟨by show 2 ≤ sizeLine; decide, [.int i tk, .str ⟨#[c]⟩ u], .cons ⟨_, rfl⟩ (.cons ⟨_, rfl⟩ .nil), ⟨_, hT2, rfl, _, rfl⟩⟩
    have I1 : Inv X pins σ (upd H s.heap.objs.size (.tup [.int (i : Nat), .str ⟨#[c]⟩])) { s with heap := h'', toks := tk + 1 } :=
      I.turnedNew (ch := [e, it]) (fun b ob hb q => (sb.2 b (fun z => hb (by simp [z]))).trans (hk b ob (fun z => hb (by simp [z])) (fun z => hb (by simp [z])) q)) hf (Nat.le_refl _) new
    refine ⟨.ref s.heap.objs.size, _, I1, rfl, ⟨_, c, rfl, I.hok.fresh (Nat.le_refl _), rfl, hcx⟩, ⟨⟨.str ⟨#[c]⟩ u, ?_⟩, ?_, hne⟩, fun b hb => ?_⟩
    · have e1 : ((i + 1 : Nat) : Int) = (i : Int) + 1 := by omega
      rw [e1]; exact he'
    · obtain ⟨o, ho', r⟩ := hit'
      exact ⟨o, (sb.2 it (Ne.symm hne)).trans ho', r⟩
    · have hb' : b < s.heap.objs.size := by
        have e' : b = e ∨ b = it := by simpa using hb
        rcases e' with z | z
        · rw [z]; exact hel
        · rw [z]; exact hil
      rw [upd_ne (Nat.ne_of_lt hb')]
      exact (hf b hb).1
  done := by
    intro X hP hw hK hc i pins s σ H E I hf st hg
    subst hP hw hK
    obtain ⟨⟨old, he⟩, hit, hne⟩ := st
    obtain ⟨f0, f1, f2, f3, f4, f5⟩ := hf it (by simp)
    have heq : x.cps.size = i := hg
    subst heq
    exact wpAny_pyNext_enum_endD (Draws.text (A := X.A.in1) (I.ok.hd hc) it x t) he hit fun h' eb => ⟨rfl, I.turned (t' := s.toks) (fun b o hb q => eb b o hb q) f0 f1 f3 f4 f5⟩
  self := fun A i s Q E st h => let ⟨⟨_, he⟩, _⟩ := st; wpAny_pyIter_enum he h
def iEnumS (ta : TA) : TI := fun σ H R => ta σ H fun vs H1 => ∃ x, vs = [.str x] ∧ R (ItES x) H1
theorem pi_enumS {X : Cx} {e : Expr} {ta : TA} {p pos tpos : Pos} {elts : List Expr} {kk : Nat} (hg : Gl X "enumerate") (hm : X.mg "enumerate" = none) (ha : PA X [e] ta) (hs : starEach [e] X.env = [(false, eval e X.env)] := by rfl) :
    PI X (.Tuple elts kk tpos) (.Call (.Name "enumerate" p) [e] [] pos) (iEnumS ta) := by
  refine ⟨fun pins s σ H R I h => ?_⟩
  refine Call_ (ld_blt I hg hm boot_enumerate (PyProof.Rows.callWith_type1 (thn (ha.run pos pins s σ H _ I h) fun us s1 ⟨vs, H1, I1, r1, q1⟩ => ?_) hs rfl))
  obtain ⟨x, ex, q⟩ := q1
  subst ex
  cases r1 with
  | cons r rr =>
    cases rr
    obtain ⟨t, rfl⟩ := r
    refine call_enumerate_str fun h' he hit hsz hk => wpAny_pyIter_enum he ?_
    have I2 : Inv X pins σ H1 { s1 with heap := h' } := I1.kept (t' := s1.toks) hk
    refine ⟨s1.heap.objs.size + 1, [s1.heap.objs.size + 1, s1.heap.objs.size], _, _, H1, rfl, I2, turn_enumS x t (s1.heap.objs.size + 1) s1.heap.objs.size, ⟨⟨.none, he⟩, hit, Nat.succ_ne_self _⟩, fun b hb => ?_, q⟩
    have e' : b = s1.heap.objs.size + 1 ∨ b = s1.heap.objs.size := by simpa using hb
    have hle : s1.heap.objs.size ≤ b := by
      rcases e' with z | z
      · rw [z]; exact Nat.le_add_right _ _
      · rw [z]; exact Nat.le_refl _
    exact I1.fpOk hle (I1.hok.fresh hle)
theorem walk_enumS {x : Str} : Walk (ItES x) (TL.tl x).length (fun _ => True) (YPair (fun i => some (.int (i : Nat))) (fun i => some (.str ⟨#[(TL.tl x).getD i 0]⟩))) := by
  have e : (TL.tl x).length = x.cps.size := Array.length_toList
  rw [e]
  refine ⟨fun i _ hi q => hi, fun _ q => rfl, fun i H v H' _ q y => ?_⟩
  obtain ⟨T, c, h1, h2, h3, h4⟩ := y
  have : (TL.tl x)[i]? = some c := by rw [← h4]; exact Array.getElem?_toList
  exact ⟨T, .int (i : Nat), .str ⟨#[c]⟩, h1, h2, h3, rfl, by show some (V.str ⟨#[(TL.tl x).getD i 0]⟩) = _; rw [List.getD_eq_getElem?_getD, this]; rfl⟩
end LH

namespace LH
open PySem PySem.Spec PyProof.Rows L2
/-! ### tests told by their truth; an if by its two branches -/
def TellB (H : Hp) (c : Bool) (k : Bool → Hp → Prop) : Prop := ∀ H1, Same H H1 → k c H1
section
variable {t u : TT} {σ : L2.St} {H : Hp} {k : Bool → Hp → Prop}
theorem orT (c d : Bool) (ha : ∀ k', TellB H c k' → t σ H k') (hb : c = false → ∀ H1 k', Same H H1 → TellB H1 d k' → u σ H1 k') (q : TellB H (c || d) k) : tOr t u σ H k := by
  refine ha _ fun H1 s1 => ?_
  cases c with
  | true => exact iteT (q H1 s1)
  | false => exact iteF (hb rfl H1 k s1 fun H2 s2 => q H2 (s1.trans s2))
theorem andT (c d : Bool) (ha : ∀ k', TellB H c k' → t σ H k') (hb : c = true → ∀ H1 k', Same H H1 → TellB H1 d k' → u σ H1 k') (q : TellB H (c && d) k) : tAnd t u σ H k := by
  refine ha _ fun H1 s1 => ?_
  cases c with
  | true => exact iteT (hb rfl H1 k s1 fun H2 s2 => q H2 (s1.trans s2))
  | false => exact iteF (q H1 s1)
theorem notT (c : Bool) (ha : ∀ k', TellB H c k' → t σ H k') (q : TellB H (!c) k) : tNot t σ H k := ha _ fun H1 s1 => q H1 s1
theorem ifT {tc : TT} {t u : TS} {D : Ends} (c : Bool) (hc : ∀ k', TellB H c k' → tc σ H k') (ht : c = true → ∀ H1, Same H H1 → t D σ H1) (hf : c = false → ∀ H1, Same H H1 → u D σ H1) : tIfS tc t u D σ H := by
  refine hc _ fun H1 s1 => ?_
  cases c with
  | true => exact iteT (ht rfl H1 s1)
  | false => exact iteF (hf rfl H1 s1)
theorem ifK {tc : TT} {t u : TS} {D : Ends} (G : ∀ D' : Ends, D' = D → tIfS tc t u D' σ H) : tIfS tc t u D σ H := G D rfl
theorem TellB.eq {c d : Bool} (h : c = d) (q : TellB H d k) : TellB H c k := h ▸ q
end
/-! ### lengths and signs of slices -/
theorem cutTo_len (z : Str) (p : Nat) : (cutS z none (some (p : Int))).length = min p z.length := by rw [cutS_to, mk_len, List.length_take, ← TL.len_tl]
theorem cutFrom_len (z : Str) (p : Nat) : (cutS z (some (p : Int)) none).length = z.length - p := by rw [cutS_from, mk_len, List.length_drop, ← TL.len_tl]
theorem mem_cut {z : Str} {lo hi : Option Int} {c : Nat} (h : c ∈ TL.tl (cutS z lo hi)) : c ∈ TL.tl z := List.mem_of_mem_drop (List.mem_of_mem_take h)
theorem cutV_from (z : List V) (a : Nat) : cutV z (some (a : Int)) none = z.drop a := by
  have e : cutV z (some (a : Int)) none = cutV z (some (a : Int)) (some ((z.length : Nat) : Int)) := by
    unfold cutV
    rw [HT.sIx_none, HT.sIx_nat, HT.sIx_nat]
    simp
  rw [e, cutV_at, List.take_of_length_le (by simp)]
theorem vint_dec (a b : Int) : decide (V.int a = V.int b) = decide (a = b) := decide_eq_decide.mpr ⟨V.int.inj, congrArg _⟩
theorem vstr_dec (a b : Str) : decide (V.str a = V.str b) = decide (a = b) := decide_eq_decide.mpr ⟨V.str.inj, congrArg _⟩
theorem or_false' {a b : Bool} (h : (a || b) = false) : a = false ∧ b = false := by cases a <;> cases b <;> simp_all
end LH
namespace LH
open PySem PySem.Spec PyProof.Rows L2
/-! ### while, its test told by its truth -/
theorem whileT {c : TT} {tb : TS} {D : Ends} {σ : L2.St} {H : Hp} (Pv : L2.St → Hp → Prop) (μ : L2.St → Hp → Nat) (h0 : Pv σ H)
    (hs : ∀ σ H, Pv σ H → ∃ b : Bool, (∀ k, TellB H b k → c σ H k) ∧ (b = true → ∀ H1, Same H H1 → tb { D with nx := fun σ' H' => Pv σ' H' ∧ μ σ' H' < μ σ H, ct := fun σ' H' => Pv σ' H' ∧ μ σ' H' < μ σ H, bk := D.nx } σ H1) ∧ (b = false → ∀ H1, Same H H1 → D.nx σ H1)) : tWhile c tb D σ H := by
  refine ⟨fun m σ H => m = μ σ H ∧ Pv σ H, ⟨_, rfl, h0⟩, ?_⟩
  rintro m σ H ⟨rfl, p⟩
  obtain ⟨b, ht, h1, h2⟩ := hs σ H p
  refine ht _ fun H1 s1 => ?_
  cases b with
  | true => exact ⟨_, fun σ' H' ⟨p', l⟩ => ⟨_, l, rfl, p'⟩, h1 rfl H1 s1⟩
  | false => exact h2 rfl H1 s1
end LH

namespace LH
open PySem PySem.Spec PySem.Calls PyProof.Rows L2 Builtin Builtin.Str Builtin.Int Builtin.Float
/-! ### a number by a written form -/
def FmtI (sp : Str) (i : Int) (y : Str) : Prop := ∀ (prog : Program) (w : World) (A : Around) (E : Value → Shared → Prop) (s : Shared) (t : Tok) (Q : Value → Shared → Prop), (∀ t' k, Q (.str y t') { s with toks := k }) → wpAny (model prog w) A (formatField (.int i t) sp) Q E s
def hexF : FormatSpec := { fill := 48, align := 61, width := some 2, type := some 88 }
def hexT (i : Int) : Str := intField' hexF (decide (i < 0)) [] ((Nat.toDigits 16 i.natAbs).map fun c => (if (88 : Nat) == 88 then c.toUpper else c).toNat) [] 4
theorem hex_parse : parseFormatSpec (Str.ofString "02X").cps.toList "int" 62 = .ok hexF := by kernel_rfl
def hexDig (n : Nat) : Nat := if n < 10 then 48 + n else 55 + n
theorem hexT_eq {b : Nat} (h : b < 256) : hexT (b : Nat) = ⟨#[hexDig (b / 16), hexDig (b % 16)]⟩ := by
  have : ∀ d : Fin 256, (hexT (d.val : Nat)).cps.toList = [hexDig (d.val / 16), hexDig (d.val % 16)] := by decide +kernel
  exact TL.ext_tl (this ⟨b, h⟩)
set_option maxHeartbeats 4000000 in
theorem fmt_hex {b : Nat} (h : b < 256) : FmtI (Str.ofString "02X") (b : Nat) ⟨#[hexDig (b / 16), hexDig (b % 16)]⟩ := by
  intro prog w A E s t Q q
  have hlen : (hexT (b : Nat)).length ≤ sizeLine := by rw [hexT_eq h, sizeLine_eq]; show 2 ≤ 16777216; decide
  rw [← hexT_eq h] at q
  refine PySem.W.KXf.field_int (spec' := Str.ofString "02X") (y := hexT (b : Nat)) rfl (by decide +kernel) (by decide +kernel) ?_ q
  intro _
  apply PySem.W.KPc.meets_of
  intro _ _ _ _ _ _ _
  unfold Builtin.«int.__format__»
  refine wpAny_bind (wpAny_of_eq (a := (_, _)) rfl ?_)
  refine wpAny_bind (wpAny_of_eq (a := _) rfl ?_)
  kxf_if
  refine wpAny_bind (wpAny_typeNameOf (T := "str") (typeIs_str _ _ _) (by decide) fun _ => ?_)
  refine wpAny_bind (wpAny_of_eq (a := some _) rfl ?_)
  kxf_if
  kxf_if
  refine wpAny_bind (wpAny_typeNameOfCut_int ?_)
  simp only [hex_parse, hexF]
  (repeat kxf_if)
  refine PySem.W.KXf.ret_text (T := hexT (b : Nat)) rfl hlen ?_
  assumption
/-! ### a number by figures, noughts ahead -/
def decF (k : Nat) : FormatSpec := { fill := 48, align := 61, width := some k, type := some 100 }
def decT (k : Nat) (i : Int) : Str := intField' (decF k) (decide (i < 0)) [] ((Nat.toDigits 10 i.natAbs).map fun c => (if (100 : Nat) == 88 then c.toUpper else c).toNat) [] 3
theorem dec2_parse : parseFormatSpec (Str.ofString "02d").cps.toList "int" 62 = .ok (decF 2) := by kernel_rfl
theorem dec4_parse : parseFormatSpec (Str.ofString "04d").cps.toList "int" 62 = .ok (decF 4) := by kernel_rfl
theorem dec2_eq {b : Nat} (h : b < 100) : decT 2 (b : Nat) = ⟨#[48 + b / 10, 48 + b % 10]⟩ := by
  have : ∀ d : Fin 100, (decT 2 (d.val : Nat)).cps.toList = [48 + d.val / 10, 48 + d.val % 10] := by decide +kernel
  exact TL.ext_tl (this ⟨b, h⟩)
section
variable {X : Cx}
def tFmtS (te : TE) (sp : Str) : TE := fun σ H Q => te σ H fun x H1 => ∃ i y, x = .int i ∧ FmtI sp i y ∧ Q (.str y) H1
theorem pe_fmtS {e spec : Expr} {te : TE} {sp : Str} {pos : Pos} (he : PE X e te) (hs : PE X spec (tC (.str sp))) : PE X (.FormattedValue e (-1) (some spec) pos) (tFmtS te sp) := by
  refine ⟨fun pins s σ H Q I h => ?_⟩
  refine wpAny_FormattedValue_spec (thn (he.run pins s σ H _ I h) fun v s1 hv => ?_)
  obtain ⟨x, H1, I1, r1, i, y, rfl, hf, q⟩ := hv
  obtain ⟨t, rfl⟩ := r1
  refine thn (hs.run pins s1 σ H1 (fun z H2 => z = .str sp ∧ Q (.str y) H2) I1 ⟨rfl, q⟩) fun v2 s2 hv => ?_
  obtain ⟨z, H2, I2, r2, rfl, q2⟩ := hv
  obtain ⟨t2, rfl⟩ := r2
  exact ⟨sp, t2, rfl, hf _ _ _ _ _ _ _ fun t' k => ⟨.str y, H2, I2.tok _, ⟨_, rfl⟩, q2⟩⟩
end
end LH

namespace LH
open PySem PySem.Spec PyProof.Rows L2
/-! ### o[i] op= e of a list -/
def rGetL (K : PySem.W.Frag) : V → V → Hp → VK → Prop := fun o i H Q => ∃ p xs k v, o = .ref p ∧ i = .int k ∧ SqL K H p xs ∧ atI xs k = some v ∧ Q v H
theorem get_list {X : Cx} : PGet X (rGetL X.K) := by
  intro pins s σ H x y v u Q I rx ry h
  obtain ⟨p, xs, i, z, rfl, rfl, hq, he, q⟩ := h
  cases rx
  obtain ⟨t, rfl⟩ := ry
  obtain ⟨its, r, pl, hz⟩ := I.list hq
  obtain ⟨j, h1, h2, h3, h4, h5⟩ := atI_get he
  obtain ⟨w, ew, rw'⟩ := r.get h2
  have hl := r.length
  have hn := line63
  have fin : EP X pins σ Q w s := ⟨z, H, I, rw', q⟩
  by_cases h0 : 0 ≤ i
  · have hj : i.toNat = j := by
      rw [seqIndex_of h0 h5] at h1
      exact Option.some.inj h1
    exact wpAny_getItem_list pl.isList h0 (by omega) (by rw [hj]; simpa using ew) fin
  · have hj : (i + (its.toArray.size : Int)).toNat = j := by
      rw [seqIndex_neg (by omega) h4] at h1
      rw [List.size_toArray, ← hl]
      exact Option.some.inj h1
    exact wpAny_getItem_list_neg pl.isList (by omega) (by rw [List.size_toArray] <;> omega) (by omega) (by rw [hj]; simpa using ew) fin
theorem get_listK {X : Cx} (K : PySem.W.Frag) (h : X.K = K := by rfl) : PGet X (rGetL K) := h ▸ get_list
theorem ixN_last {α : Type} (xs : List α) (v : α) : ixN (xs ++ [v]).length (-1) = some xs.length := by
  have hl : (xs ++ [v]).length = xs.length + 1 := by simp
  unfold ixN
  rw [hl, if_neg (by decide), if_pos (by omega)]
  congr 1
  omega
theorem set_last {α : Type} (xs : List α) (v u : α) : (xs ++ [v]).set xs.length u = xs ++ [u] := by
  rw [List.set_append_right _ _ (Nat.le_refl _), Nat.sub_self]
  rfl
/-! ### small letters made great -/
def Sm (l : List Nat) : Prop := ∀ c ∈ l, 97 ≤ c ∧ c ≤ 122
def cap : List Nat → List Nat
  | [] => []
  | c :: r => (c - 32) :: r
theorem title_small {c : Nat} (h : 97 ≤ c ∧ c ≤ 122) : Unicode.titleOf c = [c - 32] := by
  have : ∀ d : Fin 26, Unicode.titleOf (97 + d.val) = [97 + d.val - 32] := by decide +kernel
  have e := this ⟨c - 97, by omega⟩
  rwa [show 97 + (c - 97) = c by omega] at e
theorem upper_small {c : Nat} (h : 97 ≤ c ∧ c ≤ 122) : Unicode.upperOf c = [c - 32] := by
  have : ∀ d : Fin 26, Unicode.upperOf (97 + d.val) = [97 + d.val - 32] := by decide +kernel
  have e := this ⟨c - 97, by omega⟩
  rwa [show 97 + (c - 97) = c by omega] at e
theorem lower_small {c : Nat} (h : 97 ≤ c ∧ c ≤ 122) : Unicode.lowerOf c = [c] := by
  have : ∀ d : Fin 26, Unicode.lowerOf (97 + d.val) = [97 + d.val] := by decide +kernel
  have e := this ⟨c - 97, by omega⟩
  rwa [show 97 + (c - 97) = c by omega] at e
theorem tl_placed (x : Str) (f : Nat → Nat → List Nat) : TL.tl ⟨placed x f⟩ = ((TL.tl x).mapIdx f).flatten := by
  unfold placed TL.tl
  simp only [Array.toList_flatten, Array.toList_mapIdx]
  congr 1
  apply List.ext_getElem?
  intro i
  rw [List.getElem?_map, List.getElem?_mapIdx, List.getElem?_mapIdx]
  cases x.cps.toList[i]? <;> rfl
theorem mapIdx_same {f g : Nat → Nat → List Nat} : ∀ l : List Nat, (∀ i c, l[i]? = some c → f i c = g i c) → l.mapIdx f = l.mapIdx g := fun l h => by
  apply List.ext_getElem?
  intro i
  rw [List.getElem?_mapIdx, List.getElem?_mapIdx]
  cases e : l[i]? with
  | none => rfl
  | some c => exact congrArg some (h i c e)
theorem flat_one : ∀ l : List Nat, (l.mapIdx fun _ c => [c]).flatten = l := by
  intro l
  rw [List.mapIdx_eq_zipIdx_map]
  induction l with
  | nil => rfl
  | cons c r ih =>
    have : ∀ (l : List Nat) (n : Nat), ((l.zipIdx n).map fun (p : Nat × Nat) => [p.1]).flatten = l := by
      intro l
      induction l with
      | nil => intro n; rfl
      | cons c r ih => intro n; rw [List.zipIdx_cons, List.map_cons, List.flatten_cons, ih]; rfl
    exact this _ 0
theorem cap_eq (x : Str) (h : Sm (TL.tl x)) : TL.tl (Txt.capitalize x) = cap (TL.tl x) := by
  unfold Txt.capitalize
  by_cases h0 : (x.length == 0) = true
  · rw [if_pos h0]
    have : TL.tl x = [] := by
      have e := eq_of_beq h0
      rw [TL.len_tl] at e
      exact List.length_eq_zero_iff.mp e
    rw [this]
    rfl
  · rw [if_neg h0]
    unfold Txt.capitalized
    rw [tl_placed, mapIdx_same (g := fun i c => if i = 0 then [c - 32] else [c]) _ fun i c hc => ?_]
    · cases e : TL.tl x with
      | nil => rfl
      | cons c r =>
        rw [List.mapIdx_cons, List.flatten_cons]
        show [c - 32] ++ _ = (c - 32) :: r
        have : (r.mapIdx fun i c => if i + 1 = 0 then [c - 32] else [c]) = r.mapIdx fun _ c => [c] := mapIdx_same r fun i c _ => if_neg (by omega)
        rw [this, flat_one]
        rfl
    · have hm := h c (List.mem_of_getElem? hc)
      by_cases hi : i = 0
      · subst hi
        exact title_small hm
      · have hb : (i == 0) = false := by simpa using hi
        rw [if_neg hi]
        show (if (i == 0) = true then Unicode.titleOf c else Unicode.lowerAt x.cps i) = [c]
        rw [hb, if_neg Bool.false_ne_true]
        unfold Unicode.lowerAt
        have ec : x.cps[i]? = some c := by rw [← hc]; exact Array.getElem?_toList.symm
        rw [ec]
        show (if (c == 0x3A3 && Unicode.endsWord x.cps i) = true then [0x3C2] else Unicode.lowerOf c) = [c]
        have hb2 : (c == 0x3A3) = false := by simp; omega
        rw [hb2, Bool.false_and, if_neg Bool.false_ne_true]
        exact lower_small hm
theorem upper_eq (x : Str) (h : Sm (TL.tl x)) : TL.tl (Txt.upper x) = (TL.tl x).map fun c => c - 32 := by
  unfold Txt.upper
  rw [tl_placed, mapIdx_same (g := fun _ c => [c - 32]) _ fun i c hc => upper_small (h c (List.mem_of_getElem? hc))]
  generalize TL.tl x = l
  have : (l.mapIdx fun _ c => [c - 32]) = (l.map fun c => c - 32).mapIdx fun _ c => [c] := by
    apply List.ext_getElem?
    intro i
    rw [List.getElem?_mapIdx, List.getElem?_mapIdx, List.getElem?_map]
    cases l[i]? <;> rfl
  rw [this, flat_one]
theorem upper_cap (x : Str) (h : Sm (TL.tl x)) : TL.tl (Txt.upper (cutS x none (some 1)) ++ cutS x (some 1) none) = cap (TL.tl x) := by
  have e1 : TL.tl (cutS x none (some 1)) = (TL.tl x).take 1 := by rw [show (1 : Int) = ((1 : Nat) : Int) from rfl, cutS_to]
  have e2 : TL.tl (cutS x (some 1) none) = (TL.tl x).drop 1 := by rw [show (1 : Int) = ((1 : Nat) : Int) from rfl, cutS_from]
  rw [TL.tl_append, upper_eq _ (by rw [e1]; exact fun c hc => h c (List.mem_of_mem_take hc)), e1, e2]
  cases TL.tl x with
  | nil => rfl
  | cons c r => simp [cap]
theorem cap_len (l : List Nat) : (cap l).length = l.length := by cases l <;> rfl
/-! ### words of a text -/
/-- a word's signs: none of them a blank -/
def WordL (l : List Nat) : Prop := l ≠ [] ∧ ∀ c ∈ l, 33 ≤ c ∧ c ≤ 126 ∧ c ≠ 37
theorem space_no {c : Nat} (h : 33 ≤ c ∧ c ≤ 126) : Unicode.isSpace c = false := by
  have : ∀ d : Fin 94, Unicode.isSpace (33 + d.val) = false := by decide +kernel
  have e := this ⟨c - 33, by omega⟩
  rwa [show 33 + (c - 33) = c by omega] at e
theorem words_join (ws : List Str) (h : ∀ x ∈ ws, WordL (TL.tl x)) (sp : Str) (hs : TL.tl sp = [32]) : Txt.words (Txt.join sp ws) = ws := by
  refine TL.map_tl_inj ?_
  rw [TL.words_tl, TL.join_eq, TL.tl_join, hs]
  cases ws with
  | nil => rfl
  | cons x r =>
    rw [TL.wfold_join _ _ (by simp) fun p hp => ?_, List.nil_append]
    obtain ⟨y, hy, rfl⟩ := List.mem_map.mp hp
    exact ⟨(h y hy).1, fun c hc => space_no ⟨((h y hy).2 c hc).1, ((h y hy).2 c hc).2.1⟩⟩
/-! ### joined by a sign and split there again -/
theorem splitL_app (s : Nat) (w r : List Nat) (hw : s ∉ w) : splitL s (w ++ s :: r) = w :: splitL s r := by
  induction w with
  | nil => simp [splitL]
  | cons c w ih =>
    have hc : c ≠ s := fun h => hw (by rw [h]; exact List.mem_cons_self)
    have ih' := ih fun h => hw (List.mem_cons_of_mem _ h)
    show splitL s (c :: (w ++ s :: r)) = _
    rw [splitL, if_neg hc, ih']
    rfl
theorem splitL_self (s : Nat) (w : List Nat) (hw : s ∉ w) : splitL s w = [w] := by
  induction w with
  | nil => rfl
  | cons c w ih =>
    have hc : c ≠ s := fun h => hw (by rw [h]; exact List.mem_cons_self)
    rw [splitL, if_neg hc, ih fun h => hw (List.mem_cons_of_mem _ h)]
    rfl
theorem splitL_join (s : Nat) : ∀ ps : List (List Nat), ps ≠ [] → (∀ p ∈ ps, s ∉ p) → splitL s (TL.joinL [s] ps) = ps
  | [], h, _ => absurd rfl h
  | [p], _, h => splitL_self s p (h p (by simp))
  | p :: q :: r, _, h => by
    rw [TL.joinL]
    show splitL s (p ++ s :: TL.joinL [s] (q :: r)) = _
    rw [splitL_app s p _ (h p (by simp)), splitL_join s (q :: r) (by simp) fun x hx => h x (List.mem_cons_of_mem _ hx)]
/-! ### a header's rows -/
def hstep (st : List (List Nat) × List Nat) (w : List Nat) : List (List Nat) × List Nat :=
  if 60 < st.2.length + 1 + w.length then (st.1 ++ [st.2], 32 :: w) else (st.1, st.2 ++ 32 :: w)
def great (l : List Nat) : List Nat := TL.joinL [45] ((splitL 45 l).map cap)
def hfold (l : List Nat) (ws : List (List Nat)) : List (List Nat) × List Nat := ws.foldl hstep ([], great l ++ [58])
def hrows (l : List Nat) (ws : List (List Nat)) : List (List Nat) := (hfold l ws).1 ++ [(hfold l ws).2]
def strL (ls : List (List Nat)) : List Str := ls.map fun l => ⟨l.toArray⟩
theorem strL_app (a b : List (List Nat)) : strL (a ++ b) = strL a ++ strL b := by unfold strL; rw [List.map_append]
theorem hfold_snoc (l : List Nat) (ws : List (List Nat)) (w : List Nat) : hfold l (ws ++ [w]) = hstep (hfold l ws) w := by
  unfold hfold
  rw [List.foldl_append]
  rfl
theorem foldl_rev_ind {P : List (List Nat) → Prop} (h0 : P []) (hs : ∀ ws w, P ws → P (ws ++ [w])) : ∀ ws, P ws := by
  intro ws
  have key : ∀ r : List (List Nat), P r.reverse := by
    intro r
    induction r with
    | nil => exact h0
    | cons w r ih => rw [List.reverse_cons]; exact hs _ _ ih
  have := key ws.reverse
  rwa [List.reverse_reverse] at this
theorem hfold_len (l : List Nat) (hl : (great l).length ≤ 59) : ∀ ws : List (List Nat), (∀ w ∈ ws, w.length ≤ 59) → (hfold l ws).2.length ≤ 60 ∧ (∀ r ∈ (hfold l ws).1, r.length ≤ 60) ∧ (hfold l ws).1.length ≤ ws.length := by
  refine foldl_rev_ind (P := fun ws => (∀ w ∈ ws, w.length ≤ 59) → (hfold l ws).2.length ≤ 60 ∧ (∀ r ∈ (hfold l ws).1, r.length ≤ 60) ∧ (hfold l ws).1.length ≤ ws.length) ?_ ?_
  · intro _
    refine ⟨?_, (fun r hr => by cases hr), Nat.le_refl _⟩
    show (great l ++ [58]).length ≤ 60
    rw [List.length_append, List.length_singleton]
    omega
  · intro ws w ih h
    obtain ⟨h1, h2, h3⟩ := ih fun x hx => h x (by simp [hx])
    have hw := h w (by simp)
    rw [hfold_snoc]
    unfold hstep
    split
    · refine ⟨by simp only [List.length_cons]; omega, fun r hr => ?_, by simp only [List.length_append, List.length_singleton]; omega⟩
      rcases List.mem_append.mp hr with hr | hr
      · exact h2 r hr
      · rw [List.mem_singleton.mp hr]; exact h1
    · refine ⟨by simp only [List.length_append, List.length_cons]; omega, h2, by simp only [List.length_append, List.length_singleton]; omega⟩
theorem hfold_ok (l : List Nat) (hl : ∀ c ∈ great l, c < 1114112) : ∀ ws : List (List Nat), (∀ w ∈ ws, ∀ c ∈ w, c < 1114112) → (∀ c ∈ (hfold l ws).2, c < 1114112) ∧ ∀ r ∈ (hfold l ws).1, ∀ c ∈ r, c < 1114112 := by
  refine foldl_rev_ind (P := fun ws => (∀ w ∈ ws, ∀ c ∈ w, c < 1114112) → (∀ c ∈ (hfold l ws).2, c < 1114112) ∧ ∀ r ∈ (hfold l ws).1, ∀ c ∈ r, c < 1114112) ?_ ?_
  · intro _
    refine ⟨fun c hc => ?_, fun r hr => by cases hr⟩
    rcases List.mem_append.mp (show c ∈ great l ++ [58] from hc) with h | h
    · exact hl c h
    · rw [List.mem_singleton.mp h]; decide
  · intro ws w ih h
    obtain ⟨h1, h2⟩ := ih fun x hx => h x (by simp [hx])
    have hw := h w (by simp)
    have hw' : ∀ c ∈ 32 :: w, c < 1114112 := fun c hc => by
      rcases List.mem_cons.mp hc with rfl | hc
      · decide
      · exact hw c hc
    rw [hfold_snoc]
    unfold hstep
    split
    · refine ⟨hw', fun r hr => ?_⟩
      rcases List.mem_append.mp hr with hr | hr
      · exact h2 r hr
      · rw [List.mem_singleton.mp hr]; exact h1
    · refine ⟨fun c hc => ?_, h2⟩
      rcases List.mem_append.mp hc with h | h
      · exact h1 c h
      · exact hw' c h
end LH

namespace LH
open PySem PySem.Spec PySem.Calls PyProof.Rows L2
/-! ### a thing in a tuple of data -/
def rInT (K : PySem.W.Frag) : R2 := fun x y H Q => ∃ d ds, Dp K H x d ∧ Dp K H y (.tuple ds) ∧ SeqAt.shaped d = true ∧ SeqAt.shaped (.tuple ds) = true ∧ Q (.bl (ds.any fun z => PyData.eqv z d)) H
theorem op_inT {X : Cx} (K : PySem.W.Frag) (hu : X.A.units + 65 < cLine) (hK : X.K = K := by rfl) : OpR X (compareOp .In) (rInT K) := by
  subst hK
  intro pins s σ H x y v u Q I rx ry h
  obtain ⟨d, ds, hd, he, sd, se, q⟩ := h
  obtain ⟨as, r1⟩ := Dp.reads I d x v hd rx
  obtain ⟨bs, r2⟩ := Dp.reads I (.tuple ds) y u he ry
  exact SeqAt.in_tuple_reads r2 r1 (SeqAt.canLay_of_shaped se) (SeqAt.canLay_of_shaped sd) (room_in_shaped sd hu) ⟨.bl _, H, I, rfl, q⟩
theorem unit1 {k : Nat} {A : Around} (hr : Room k A) : A.units + 1 < cLine := by have := hr.un; omega
theorem room65 {k : Nat} {A : Around} (hr : Room (k + 1) A) : A.units + 65 < cLine := by have := hr.un; omega
end LH

set_option maxHeartbeats 2000000
namespace LH
open PySem PySem.Spec PySem.Calls PyProof.Rows L2 Builtin Builtin.Str Builtin.Int Builtin.Float
/-! ### a number by two or four figures -/
theorem dig_char : ∀ d : Fin 10, (Nat.digitChar d.val).toNat = 48 + d.val := by decide
def digs (n : Nat) : List Nat := (Nat.toDigits 10 n).map fun c => (if (100 : Nat) == 88 then c.toUpper else c).toNat
theorem digs_lt {n : Nat} (h : n < 10) : digs n = [48 + n] := by
  unfold digs
  rw [Nat.toDigits_of_lt_base h]
  exact congrArg (fun x => [x]) (dig_char ⟨n, h⟩)
theorem digs_ge {n : Nat} (h : 10 ≤ n) : digs n = digs (n / 10) ++ [48 + n % 10] := by
  unfold digs
  rw [Nat.toDigits_of_base_le (by decide) h, List.map_append]
  exact congrArg (fun x => _ ++ [x]) (dig_char ⟨n % 10, Nat.mod_lt _ (by decide)⟩)
theorem dec4_eq {n : Nat} (h : n < 10000) : decT 4 ((n : Nat) : Int) = ⟨#[48 + n / 1000, 48 + n / 100 % 10, 48 + n / 10 % 10, 48 + n % 10]⟩ := by
  have key : ∀ a b c d : Nat, digs n = [d] ∧ a = 48 ∧ b = 48 ∧ c = 48 ∨ digs n = [c, d] ∧ a = 48 ∧ b = 48 ∨ digs n = [b, c, d] ∧ a = 48 ∨ digs n = [a, b, c, d] → decT 4 ((n : Nat) : Int) = ⟨#[a, b, c, d]⟩ := by
    intro a b c d hk
    unfold decT
    rw [show decide (((n : Nat) : Int) < 0) = false from decide_eq_false (by omega), show ((n : Nat) : Int).natAbs = n from rfl]
    show intField' (decF 4) false [] (digs n) [] 3 = _
    rcases hk with ⟨h, rfl, rfl, rfl⟩ | ⟨h, rfl, rfl⟩ | ⟨h, rfl⟩ | h <;> rw [h] <;> rfl
  refine key _ _ _ _ ?_
  by_cases h1 : n < 10
  · exact .inl ⟨by rw [digs_lt h1, show n % 10 = n by omega], by omega, by omega, by omega⟩
  · by_cases h2 : n < 100
    · exact .inr (.inl ⟨by rw [digs_ge (by omega), digs_lt (by omega)]; simp; omega, by omega, by omega⟩)
    · by_cases h3 : n < 1000
      · refine .inr (.inr (.inl ⟨?_, by omega⟩))
        rw [digs_ge (by omega), digs_ge (by omega), digs_lt (by omega)]
        simp
        omega
      · refine .inr (.inr (.inr ?_))
        rw [digs_ge (by omega), digs_ge (by omega), digs_ge (by omega), digs_lt (by omega)]
        simp
        omega
set_option maxHeartbeats 4000000 in
theorem fmt_dec2 {n : Nat} (h : n < 100) : FmtI (Str.ofString "02d") ((n : Nat) : Int) ⟨#[48 + n / 10, 48 + n % 10]⟩ := by
  intro prog w A E s t Q q
  have hlen : (decT 2 ((n : Nat) : Int)).length ≤ sizeLine := by rw [dec2_eq h, sizeLine_eq]; show 2 ≤ 16777216; decide
  rw [← dec2_eq h] at q
  refine PySem.W.KXf.field_int (spec' := Str.ofString "02d") (y := decT 2 ((n : Nat) : Int)) rfl (by decide +kernel) (by decide +kernel) ?_ q
  intro _
  apply PySem.W.KPc.meets_of
  intro _ _ _ _ _ _ _
  unfold Builtin.«int.__format__»
  refine wpAny_bind (wpAny_of_eq (a := (_, _)) rfl ?_)
  refine wpAny_bind (wpAny_of_eq (a := _) rfl ?_)
  kxf_if
  refine wpAny_bind (wpAny_typeNameOf (T := "str") (typeIs_str _ _ _) (by decide) fun _ => ?_)
  refine wpAny_bind (wpAny_of_eq (a := some _) rfl ?_)
  kxf_if
  kxf_if
  refine wpAny_bind (wpAny_typeNameOfCut_int ?_)
  simp only [dec2_parse, decF]
  (repeat kxf_if)
  have hlog : ((n : Nat) : Int).natAbs.log2 < 1920 := by
    rw [Int.natAbs_natCast]
    by_cases h0 : n = 0
    · rw [h0]; decide
    · have : n.log2 < 20 := (Nat.log2_lt h0).mpr (by omega)
      omega
  refine wpAny_bind (m := Builtin.overDigitLimit? ((n : Nat) : Int)) (wpAny_of_eq (PySem.overDigitLimit_small hlog) ?_)
  refine PySem.W.KXf.ret_text (T := decT 2 ((n : Nat) : Int)) rfl hlen ?_
  assumption
set_option maxHeartbeats 4000000 in
theorem fmt_dec4 {n : Nat} (h : n < 10000) : FmtI (Str.ofString "04d") ((n : Nat) : Int) ⟨#[48 + n / 1000, 48 + n / 100 % 10, 48 + n / 10 % 10, 48 + n % 10]⟩ := by
  intro prog w A E s t Q q
  have hlen : (decT 4 ((n : Nat) : Int)).length ≤ sizeLine := by rw [dec4_eq h, sizeLine_eq]; show 4 ≤ 16777216; decide
  rw [← dec4_eq h] at q
  refine PySem.W.KXf.field_int (spec' := Str.ofString "04d") (y := decT 4 ((n : Nat) : Int)) rfl (by decide +kernel) (by decide +kernel) ?_ q
  intro _
  apply PySem.W.KPc.meets_of
  intro _ _ _ _ _ _ _
  unfold Builtin.«int.__format__»
  refine wpAny_bind (wpAny_of_eq (a := (_, _)) rfl ?_)
  refine wpAny_bind (wpAny_of_eq (a := _) rfl ?_)
  kxf_if
  refine wpAny_bind (wpAny_typeNameOf (T := "str") (typeIs_str _ _ _) (by decide) fun _ => ?_)
  refine wpAny_bind (wpAny_of_eq (a := some _) rfl ?_)
  kxf_if
  kxf_if
  refine wpAny_bind (wpAny_typeNameOfCut_int ?_)
  simp only [dec4_parse, decF]
  (repeat kxf_if)
  have hlog : ((n : Nat) : Int).natAbs.log2 < 1920 := by
    rw [Int.natAbs_natCast]
    by_cases h0 : n = 0
    · rw [h0]; decide
    · have : n.log2 < 20 := (Nat.log2_lt h0).mpr (by omega)
      omega
  refine wpAny_bind (m := Builtin.overDigitLimit? ((n : Nat) : Int)) (wpAny_of_eq (PySem.overDigitLimit_small hlog) ?_)
  refine PySem.W.KXf.ret_text (T := decT 4 ((n : Nat) : Int)) rfl hlen ?_
  assumption
/-! ### x in a text or a list -/
def rInBoth (K : PySem.W.Frag) : R2 := fun x y H Q => (∃ (c : Nat) (z : Str), x = .str ⟨#[c]⟩ ∧ y = .str z ∧ Q (.bl (decide (c ∈ z.cps.toList))) H) ∨ rIn K false x y H Q
theorem op_inBoth {X : Cx} (K : PySem.W.Frag) (hK : X.K = K := by rfl) : OpR X (compareOp .In) (rInBoth K) := fun pins s σ H x y v u Q I rx ry h => h.elim (fun h => op_in_sign pins s σ H x y v u Q I rx ry h) (fun h => oIn K hK pins s σ H x y v u Q I rx ry h)
/-- a method as its callers see it -/
structure DefM (P : Program) (w : World) (K : PySem.W.Frag) (mg : Str → Option Value) (base : Heap) (C : Addr) (m : Str) (k : Nat) (f : Addr) (fd : FuncData) (ps : List Str) (sp : Sp) : Prop where
  c : Cls K C
  hm : Meth K C m f
  ok : FnOk P w K mg base CX0 k f fd ps sp
  bd : Binds K fd ps []
/-- a class that is called -/
structure DefC (P : Program) (w : World) (K : PySem.W.Frag) (mg : Str → Option Value) (base : Heap) (x : Str) (C : Addr) (k : Nat) (f : Addr) (fd : FuncData) (ps : List Str) (sp : Sp) : Prop where
  make : Mk K C f
  ok : FnOk P w K mg base CX0 k f fd ps sp
  mg : mg x = some (.ref C)
  bd : Binds K fd ps []
/-- all but the object at a stays -/
def SameBut (a : Addr) (H H' : Hp) : Prop := ∀ b o, b ≠ a → H b = some o → H' b = some o
theorem SameBut.refl (a : Addr) (H : Hp) : SameBut a H H := fun _ _ _ e => e
theorem SameBut.trans {a : Addr} {H H' H2 : Hp} (h : SameBut a H H') (g : SameBut a H' H2) : SameBut a H H2 := fun b o hb e => g b o hb (h b o hb e)
theorem SameBut.of {a : Addr} {H H' : Hp} (h : Same H H') : SameBut a H H' := fun b o _ e => h b o e
theorem SameBut.upd (a : Addr) (H : Hp) (o : HO) : SameBut a H (upd H a o) := fun b u hb e => by rw [upd_ne hb]; exact e
end LH

namespace LH
open PySem PySem.Spec PyProof.Rows L2 Builtin Builtin.Str PySem.StrLaws
/-! ### a text of which nothing is left when some signs are taken from its ends -/
theorem has_mem (y : Str) (c : Nat) : y.cps.contains c = decide (c ∈ TL.tl y) := by
  show y.cps.contains c = decide (c ∈ y.cps.toList)
  simp
theorem strip_none (x y : Str) : (Txt.stripChars x y = ⟨#[]⟩) ↔ (TL.tl x).all (fun c => decide (c ∈ TL.tl y)) = true := by
  have hl : x.cps.toList.length = x.length := by simp [Str.length]
  unfold Txt.stripChars
  rw [stripBy_eq]
  obtain ⟨l1, l2, l3⟩ := lo_facts y.cps.contains x
  obtain ⟨h1, h2, h3, h4⟩ := hi_facts y.cps.contains x (stripLo y.cps.contains true x) l1
  generalize stripLo y.cps.contains true x = lo at *
  generalize stripHi y.cps.contains true x lo = hi at *
  have hs : (strSub x lo hi).cps.toList = (x.cps.toList.drop lo).take (hi - lo) := strSub_toList ..
  have hg : ∀ k, k < x.length → (x.cps.getD k 0) ∈ x.cps.toList := fun k hk => by
    rw [← getD_list, List.getD_eq_getElem?_getD, List.getElem?_eq_getElem (by rw [hl]; exact hk)]
    exact List.getElem_mem _
  rw [List.all_eq_true]
  constructor
  · intro e c hc
    have e0 : (x.cps.toList.drop lo).take (hi - lo) = [] := by rw [← hs, e]
    have e1 : hi = lo := by
      have := congrArg List.length e0
      rw [List.length_take, List.length_drop, hl, List.length_nil] at this
      omega
    have hc' : c ∈ x.cps.toList := hc
    obtain ⟨k, hk, e2⟩ := List.getElem_of_mem hc'
    have ek : c = x.cps.getD k 0 := by
      rw [← getD_list, List.getD_eq_getElem?_getD, List.getElem?_eq_getElem hk, ← e2]; rfl
    rw [hl] at hk
    rw [← has_mem, ek]
    by_cases hkl : k < lo
    · exact l2 k hkl
    · exact h3 k (by omega) hk
  · intro ha
    have hb : ∀ k, k < x.length → y.cps.contains (x.cps.getD k 0) = true := fun k hk => by rw [has_mem]; exact ha _ (hg k hk)
    have : lo = x.length := by
      rcases l3 with h | h
      · exact h
      · by_cases hlt : lo < x.length
        · rw [hb lo hlt] at h; cases h
        · omega
    have e : (x.cps.toList.drop lo).take (hi - lo) = [] := by
      apply List.eq_nil_of_length_eq_zero
      rw [List.length_take, List.length_drop, hl]; omega
    apply TL.ext_tl
    show (strSub x lo hi).cps.toList = []
    rw [hs, e]
theorem strip_eq (x y : Str) : decide (V.str (Txt.stripChars x y) = V.str (Str.ofString "")) = (TL.tl x).all (fun c => decide (c ∈ TL.tl y)) := by
  have e0 : (Str.ofString "") = ⟨#[]⟩ := by decide +kernel
  rw [e0]
  by_cases h : (TL.tl x).all (fun c => decide (c ∈ TL.tl y)) = true
  · rw [h, decide_eq_true (congrArg V.str ((strip_none x y).mpr h))]
  · rw [Bool.not_eq_true] at h
    rw [h, decide_eq_false (fun e => by rw [(strip_none x y).mp (V.str.inj e)] at h; cases h)]
end LH

namespace LH
open PySem PySem.Spec PyProof.Rows L2
/-! ### the sum of a tuple of whole numbers; a slice of a tuple, the whole of it too -/
def rSumT (K : PySem.W.Frag) : List V → Hp → VK → Prop := fun vs H Q => ∃ (a : Addr) (ns : List Int), vs = [V.ref a] ∧ SqT K H a (ns.map V.int) ∧ Q (.int ns.sum) H
theorem cr_sumT {X : Cx} (hc : X.calm = true) : CallR X (.builtin "sum") (rSumT X.K) := by
  intro pins s σ H vs us Q I r h
  obtain ⟨a, ns, rfl, hs, q⟩ := h
  obtain ⟨its, rv, hl, _⟩ := I.tuple hs
  rw [Vals.ref1 r]
  obtain ⟨xs, e⟩ := rv.ints.allInts.items
  have hn : numsOf (intItems xs).toList = ns := by rw [← e]; exact rv.ints.numsOf
  rw [nums_intItems] at hn
  rw [e] at hl
  refine PySem.W.ktm_sumG (I.ok.hd hc) hl fun h' tk t' hk => ?_
  have : preSum (numAt xs) xs.size = ns.sum := by rw [preSum_eq, List.take_of_length_le (by simp), hn]
  rw [this]
  exact ⟨.int _, H, I.kept hk, ⟨_, rfl⟩, q⟩
theorem sumT (K : PySem.W.Frag) {X : Cx} (hc : X.calm = true) (h : X.K = K := by rfl) : CallR X (.builtin "sum") (rSumT K) := h ▸ cr_sumT hc
theorem slA (K : PySem.W.Frag) {X : Cx} (h : X.K = K := by rfl) : SlR X (rSlA K) := h ▸ sl_tupA
end LH

namespace K13
open PySem PySem.Spec PyProof.Rows L2 LH
def topS (i : Nat) : Stmt := PySem.Challenge.pw_letterhouse_k13_whole_days_walked.main.body.getD i (.Pass ⟨0, 0, 0, 0⟩)
def clsS (i j : Nat) : Stmt := match topS i with
  | .ClassDef _ _ _ b _ _ _ _ _ _ _ => b.getD j (.Pass ⟨0, 0, 0, 0⟩)
  | s => s
def FIGS : Str := Str.ofString "0123456789"
def dayNames : List Str := [Str.ofString "Mon", Str.ofString "Tue", Str.ofString "Wed", Str.ofString "Thu", Str.ofString "Fri", Str.ofString "Sat", Str.ofString "Sun"]
def monthDays : List Int := [31, 28, 31, 30, 31, 30, 31, 31, 30, 31, 30, 31]
structure Tx (K : PySem.W.Frag) (mg : Str → Option Value) (tk : Nat → Tok) (dn md : Addr) : Prop where
  n_all : mg "all" = none
  n_abs : mg "abs" = none
  n_bool : mg "bool" = none
  n_divmod : mg "divmod" = none
  n_enumerate : mg "enumerate" = none
  n_int : mg "int" = none
  n_isinstance : mg "isinstance" = none
  n_len : mg "len" = none
  n_max : mg "max" = none
  n_range : mg "range" = none
  n_str : mg "str" = none
  n_sum : mg "sum" = none
  m_FIGURES : mg "FIGURES" = some (.str FIGS (tk 0))
  m_LAST_YEAR : mg "LAST_YEAR" = some (.int 9999 (tk 1))
  m_DAY_MINUTES : mg "DAY_MINUTES" = some (.int 1440 (tk 2))
  m_MOST_HOURS : mg "MOST_HOURS" = some (.int 14 (tk 3))
  m_DAY_NAMES : mg "DAY_NAMES" = some (.ref dn)
  m_MONTH_DAYS : mg "MONTH_DAYS" = some (.ref md)
  t_DAY_NAMES : ∀ H, SqT K H dn (dayNames.map V.str)
  t_MONTH_DAYS : ∀ H, SqT K H md (monthDays.map V.int)
end K13

namespace K13
open PySem PySem.Spec PyProof.Rows L2 LH
section
variable {P : Program} {w : World} {K : PySem.W.Frag} {mg : Str → Option Value} {base : Heap} {tk : Nat → Tok} {ca : Nat → Addr} {dn md C : Addr}
/-! ### a text read from its first sign on -/
def rfs (z : Str) (n : Nat) : List (Str × V) := [("signs", .str z), ("at", .int (n : Nat))]
def Rdr (H : Hp) (C a dx : Addr) (z : Str) (n : Nat) : Prop := H a = some (.ins C dx (rfs z n))
structure Rc (K : PySem.W.Frag) (C : Addr) : Prop where
  c : Cls K C
  n_signs : NoAttr K C "signs"
  n_at : NoAttr K C "at"
def oneV (c : Nat) : V := .str ⟨#[c]⟩
/-- a choice with the sign c -/
def ChIn (K : PySem.W.Frag) (H : Hp) (y : V) (c : Nat) : Prop := (∃ t : Str, y = .str t ∧ c ∈ TL.tl t) ∨ ∃ (p : Addr) (L : List Nat), y = .ref p ∧ H p = some (.lst (L.map oneV)) ∧ c ∈ L
/-! ### Reader___init__ -/
abbrev s_Reader___init__ : Stmt := clsS 9 0
abbrev N_Reader___init__ : List Str := ["self", "signs"]
abbrev P_Reader___init__ : List Str := ["self", "signs"]
theorem sc_Reader___init__ : FnScope N_Reader___init__ ["self", "signs"] (defScope s_Reader___init__) := ⟨rfl, rfl, rfl, by decide +kernel, rfl, by decide +kernel, by decide +kernel⟩
def sp_init (C : Addr) : Sp := fun vs H Q _ => ∃ (a dx : Addr) (z : Str), vs = [.ref a, .str z] ∧ H a = some (.ins C dx []) ∧ ∀ H', SameBut a H H' → Rdr H' C a dx z 0 → Q .non H'
theorem ok_init {f : Addr} {fd : FuncData} {k : Nat} (F : Fun K "__init__" "Reader.__init__" s_Reader___init__ f fd) (R : Rc K C) : FnOk P w K mg base CX0 (k + 1) f fd P_Reader___init__ (sp_init C) := by
  refine F.ok sc_Reader___init__ (fun vs H Q E h => ?_) (fun cdv A outer s H vs Q E hr h => ?_)
  · obtain ⟨a, dx, z, rfl, _⟩ := h
    rfl
  · have nd := sc_Reader___init__.nd
    obtain ⟨a, dx, z, rfl, e, q⟩ := h
    refine ⟨_, (pss_cons (ps_fld (pv 0) (pv 1) rfl)
      (pss_one (ps_fld (pv 0) pe_int rfl))), ?_⟩
    refine ⟨.str z, rfl, .ref a, rfl, a, C, dx, [], rfl, e, R.c, R.n_signs, (by show 0 < 1000; decide), ?_⟩
    refine ⟨.ref a, rfl, a, C, dx, _, rfl, upd_same, R.c, R.n_at, (by show 1 < 1000; decide), ?_⟩
    exact q _ (SameBut.trans (SameBut.upd _ _ _) (SameBut.upd _ _ _)) upd_same
/-! ### Reader_sees -/
abbrev s_Reader_sees : Stmt := clsS 9 1
abbrev N_Reader_sees : List Str := ["self", "choice"]
abbrev P_Reader_sees : List Str := ["self", "choice"]
theorem sc_Reader_sees : FnScope N_Reader_sees ["self", "choice"] (defScope s_Reader_sees) := ⟨rfl, rfl, rfl, by decide +kernel, rfl, by decide +kernel, by decide +kernel⟩
def sp_sees (K : PySem.W.Frag) (C : Addr) : Sp := fun vs H Q _ => ∃ (a dx : Addr) (z : Str) (n c : Nat) (y : V), vs = [.ref a, y] ∧ Rdr H C a dx z n ∧ z.length ≤ 100000 ∧ (TL.tl z)[n]? = some c ∧ ChIn K H y c ∧ Tell H (.bl true) Q
theorem ok_sees {f : Addr} {fd : FuncData} {k : Nat} (F : Fun K "sees" "Reader.sees" s_Reader_sees f fd) (T : Tx K mg tk dn md) (R : Rc K C) : FnOk P w K mg base CX0 (k + 1) f fd P_Reader_sees (sp_sees K C) := by
  refine F.ok sc_Reader_sees (fun vs H Q E h => ?_) (fun cdv A outer s H vs Q E hr h => ?_)
  · obtain ⟨a, dx, z, n, c, y, rfl, _⟩ := h
    rfl
  · have nd := sc_Reader_sees.nd
    obtain ⟨a, dx, z, n, c, y, rfl, e, hz, hc, hy, q⟩ := h
    refine ⟨_, (pss_one (ps_ret (pe_and (pe_cmpR op_lt (pe_fld (pv 0) rfl) (pe_callB call_len_str (by rfl) T.n_len (by decide +kernel) (pa_cons (pe_fld (pv 0) rfl) pa_nil)) (nomark _)) (pe_one (pe_cmpR (op_inBoth K) (pe_ix ix_str (pe_fld (pv 0) rfl) (pe_fld (pv 0) rfl) (fun _ _ => rfl)) (pv 1) rfl))))), ?_⟩
    have hlt := (List.getElem?_eq_some_iff.mp hc).1
    have hzl : z.length = (TL.tl z).length := TL.len_tl z
    have hzs : z.length ≤ sizeLine := by rw [sizeLine_eq]; omega
    refine andV true true (fun Q' q' => ?_) (fun _ H2 Q' s2 q' => ?_) q
    · refine ⟨.ref a, rfl, a, C, dx, _, _, rfl, e, R.c, R.n_at, rfl, .ref a, rfl, a, C, dx, _, _, rfl, e, R.c, R.n_signs, rfl, z, rfl, hzs, _, _, rfl, rfl, ?_⟩
      show Q' (.bl (decide (((n : Nat) : Int) < (z.length : Nat)))) _
      rw [decide_eq_true (by omega)]
      exact q' _ (Same.refl _)
    · have e2 := s2 _ _ e
      refine ⟨.ref a, rfl, a, C, dx, _, _, rfl, e2, R.c, R.n_signs, rfl, .ref a, rfl, a, C, dx, _, _, rfl, e2, R.c, R.n_at, rfl, z, _, c, rfl, rfl, hzs, atI_nat hc, y, rfl, ?_⟩
      rcases hy with ⟨t, rfl, ht⟩ | ⟨p, L, rfl, ep, hL⟩
      · refine .inl ⟨c, t, rfl, rfl, ?_⟩
        show Q' (.bl (decide (c ∈ TL.tl t))) _
        rw [decide_eq_true ht]
        exact q' _ (Same.refl _)
      · refine .inr ⟨p, _, rfl, .inl (.inl (.inl (s2 _ _ ep))), rfl, ?_, ?_⟩
        · rw [List.all_eq_true]
          intro v hv
          obtain ⟨d, _, rfl⟩ := List.mem_map.mp hv
          rfl
        · show Q' (.bl (inV (oneV c) (L.map oneV))) _
          rw [show inV (oneV c) (L.map oneV) = true by
            unfold inV
            rw [List.any_eq_true]
            exact ⟨oneV c, List.mem_map_of_mem hL, by simp [oneV, eqV]⟩]
          exact q' _ (Same.refl _)
/-! ### Reader_one_of -/
abbrev s_Reader_one_of : Stmt := clsS 9 3
abbrev N_Reader_one_of : List Str := ["self", "choice"]
abbrev P_Reader_one_of : List Str := ["self", "choice"]
theorem sc_Reader_one_of : FnScope N_Reader_one_of ["self", "choice"] (defScope s_Reader_one_of) := ⟨rfl, rfl, rfl, by decide +kernel, rfl, by decide +kernel, by decide +kernel⟩
def sp_one (K : PySem.W.Frag) (C : Addr) : Sp := fun vs H Q _ => ∃ (a dx : Addr) (z : Str) (n c : Nat) (y : V), vs = [.ref a, y] ∧ Rdr H C a dx z n ∧ z.length ≤ 100000 ∧ (TL.tl z)[n]? = some c ∧ ChIn K H y c ∧ ∀ H', SameBut a H H' → Rdr H' C a dx z (n + 1) → Q (oneV c) H'
theorem ok_one {f fS : Addr} {fd fdS : FuncData} (F : Fun K "one_of" "Reader.one_of" s_Reader_one_of f fd) (T : Tx K mg tk dn md) (R : Rc K C) (M_Reader_sees : DefM P w K mg base C "sees" 1 fS fdS P_Reader_sees (sp_sees K C)) : FnOk P w K mg base CX0 2 f fd P_Reader_one_of (sp_one K C) := by
  refine F.ok sc_Reader_one_of (fun vs H Q E h => ?_) (fun cdv A outer s H vs Q E hr h => ?_)
  · obtain ⟨a, dx, z, n, c, y, rfl, _⟩ := h
    rfl
  · have nd := sc_Reader_one_of.nd
    obtain ⟨a, dx, z, n, c, y, rfl, e, hz, hc, hy, q⟩ := h
    refine ⟨_, (pss_cons (ps_if (pt_not (pt_val (pe_meth (pv 0) M_Reader_sees.c M_Reader_sees.hm M_Reader_sees.ok (hr.mono (by decide)) M_Reader_sees.bd .nil pass0 (pa_cons (pv 1) pa_nil))))
        (pss_one ps_never)
        pss_nil)
      (pss_cons (ps_fldaug (pv 0) pe_int in_add)
      (pss_one (ps_ret (pe_ix ix_str (pe_fld (pv 0) rfl) (pe_op op_sub (pe_fld (pv 0) rfl) pe_int) (fun _ _ => rfl)))))), ?_⟩
    have hzs : z.length ≤ sizeLine := by rw [sizeLine_eq]; omega
    refine ifT false (fun k q1 => notT true (fun k q2 => ⟨.ref a, rfl, a, dx, _, rfl, e, rfl, y, rfl, a, dx, z, n, c, y, rfl, e, hz, hc, hy, fun H3 s3 => ⟨true, rfl, q2 _ s3⟩⟩) q1) (fun h => nomatch h) (fun _ H1 s1 => ?_)
    dsimp only [tNext, tSeq]
    have e1 := s1 _ _ e
    refine ⟨.ref a, rfl, a, C, dx, _, _, rfl, e1, R.c, R.n_at, rfl, _, 1, rfl, rfl, dx, _, e1, (by show 2 < 1000; decide), ?_⟩
    have e2 : Rdr (upd H1 a (.ins C dx (putF (Str.ofString "at") (.int ((n : Nat) + 1)) (rfs z n)))) C a dx z (n + 1) := by
      unfold Rdr
      rw [upd_same]
      rfl
    have s2 : SameBut a H (upd H1 a (.ins C dx (putF (Str.ofString "at") (.int ((n : Nat) + 1)) (rfs z n)))) := (SameBut.of s1).trans (SameBut.upd _ _ _)
    dsimp only
    generalize upd H1 a (.ins C dx (putF (Str.ofString "at") (.int ((n : Nat) + 1)) (rfs z n))) = H2 at *
    refine ⟨.ref a, rfl, a, C, dx, _, _, rfl, e2, R.c, R.n_signs, rfl, .ref a, rfl, a, C, dx, _, _, rfl, e2, R.c, R.n_at, rfl, _, 1, rfl, rfl, z, _, c, rfl, rfl, hzs, ?_, q _ s2 e2⟩
    rw [show ((n + 1 : Nat) : Int) - 1 = ((n : Nat) : Int) by omega]
    exact atI_nat hc
/-! ### Reader_sees_word -/
abbrev s_Reader_sees_word : Stmt := clsS 9 2
abbrev N_Reader_sees_word : List Str := ["self", "wanted"]
abbrev P_Reader_sees_word : List Str := ["self", "wanted"]
theorem sc_Reader_sees_word : FnScope N_Reader_sees_word ["self", "wanted"] (defScope s_Reader_sees_word) := ⟨rfl, rfl, rfl, by decide +kernel, rfl, by decide +kernel, by decide +kernel⟩
/-- whether the signs from n on are a word's -/
def aheadIs (l w : List Nat) (n : Nat) : Bool := decide ((l.drop n).take w.length = w)
def sp_seesword (C : Addr) : Sp := fun vs H Q _ => ∃ (a dx : Addr) (z t : Str) (n : Nat), vs = [.ref a, .str t] ∧ Rdr H C a dx z n ∧ z.length ≤ 100000 ∧ t.length ≤ 100000 ∧ Tell H (.bl (aheadIs (TL.tl z) (TL.tl t) n)) Q
theorem ok_seesword {f : Addr} {fd : FuncData} {k : Nat} (F : Fun K "sees_word" "Reader.sees_word" s_Reader_sees_word f fd) (T : Tx K mg tk dn md) (R : Rc K C) : FnOk P w K mg base CX0 (k + 1) f fd P_Reader_sees_word (sp_seesword C) := by
  refine F.ok sc_Reader_sees_word (fun vs H Q E h => ?_) (fun cdv A outer s H vs Q E hr h => ?_)
  · obtain ⟨a, dx, z, t, n, rfl, _⟩ := h
    rfl
  · have nd := sc_Reader_sees_word.nd
    obtain ⟨a, dx, z, t, n, rfl, e, hz, ht, q⟩ := h
    refine ⟨_, (pss_one (ps_ret (pe_cmpR op_eq (pe_slice sl_str (pe_fld (pv 0) rfl) (po_some (pe_fld (pv 0) rfl)) (po_some (pe_op op_add (pe_fld (pv 0) rfl) (pe_callB call_len_str (by rfl) T.n_len (by decide +kernel) (pa_cons (pv 1) pa_nil))))) (pv 1) (nomark _)))), ?_⟩
    have hzs : z.length ≤ sizeLine := by rw [sizeLine_eq]; omega
    have hts : t.length ≤ sizeLine := by rw [sizeLine_eq]; omega
    refine ⟨.ref a, rfl, a, C, dx, _, _, rfl, e, R.c, R.n_signs, rfl, .ref a, rfl, a, C, dx, _, _, rfl, e, R.c, R.n_at, rfl, _, rfl, .ref a, rfl, a, C, dx, _, _, rfl, e, R.c, R.n_at, rfl, .str t, rfl, t, rfl, hts, _, _, rfl, rfl, _, rfl, z, rfl, hzs, .str t, rfl, rfl, ?_⟩
    have et : decide (V.str (cutS z (some (n : Int)) (some ((n : Int) + (t.length : Nat)))) = V.str t) = aheadIs (TL.tl z) (TL.tl t) n := by
      have hl : t.length = (TL.tl t).length := TL.len_tl t
      rw [show ((n : Int) + (t.length : Nat)) = ((n + t.length : Nat) : Int) by omega, cutS_at, show n + t.length - n = (TL.tl t).length by omega]
      unfold aheadIs
      rw [decide_eq_decide]
      constructor
      · intro h
        exact congrArg TL.tl (V.str.inj h)
      · intro h
        exact congrArg V.str (TL.ext_tl h)
    show Q (.bl (decide (V.str (cutS z (some (n : Int)) (some ((n : Int) + (t.length : Nat)))) = V.str t))) H
    rw [et]
    exact q _ (Same.refl _)
/-! ### Reader_word -/
abbrev s_Reader_word : Stmt := clsS 9 4
abbrev N_Reader_word : List Str := ["self", "wanted", "sign"]
abbrev P_Reader_word : List Str := ["self", "wanted"]
theorem sc_Reader_word : FnScope N_Reader_word ["self", "wanted"] (defScope s_Reader_word) := ⟨rfl, rfl, rfl, by decide +kernel, rfl, by decide +kernel, by decide +kernel⟩
def sp_word (K : PySem.W.Frag) (C : Addr) : Sp := fun vs H Q _ => ∃ (a dx : Addr) (z t : Str) (n : Nat) (rest : List Nat), vs = [.ref a, .str t] ∧ Rdr H C a dx z n ∧ z.length ≤ 100000 ∧ (TL.tl z).drop n = TL.tl t ++ rest ∧ ∀ H', SameBut a H H' → Rdr H' C a dx z (n + (TL.tl t).length) → Q .non H'
theorem ok_word {f fO fW : Addr} {fd fdO fdW : FuncData} (F : Fun K "word" "Reader.word" s_Reader_word f fd) (T : Tx K mg tk dn md) (R : Rc K C) (M_Reader_one_of : DefM P w K mg base C "one_of" 2 fO fdO P_Reader_one_of (sp_one K C)) (M_Reader_sees_word : DefM P w K mg base C "sees_word" 1 fW fdW P_Reader_sees_word (sp_seesword C)) : FnOk P w K mg base CX0 3 f fd P_Reader_word (sp_word K C) := by
  refine F.ok sc_Reader_word (fun vs H Q E h => ?_) (fun cdv A outer s H vs Q E hr h => ?_)
  · obtain ⟨a, dx, z, t, n, rest, rfl, _⟩ := h
    rfl
  · have nd := sc_Reader_word.nd
    obtain ⟨a, dx, z, t, n, rest, rfl, e, hz, hd, q⟩ := h
    refine ⟨_, (pss_cons (ps_if (pt_truth (pe_meth (pv 0) M_Reader_sees_word.c M_Reader_sees_word.hm M_Reader_sees_word.ok (hr.mono (by decide)) M_Reader_sees_word.bd .nil pass0 (pa_cons (pv 1) pa_nil)) (by intro _; rfl))
        (pss_cons (ps_fldaug (pv 0) (pe_callB call_len_str (by rfl) T.n_len (by decide +kernel) (pa_cons (pv 1) pa_nil)) in_add)
        (pss_one ps_retN))
        pss_nil)
      (pss_one (ps_for PassesOwn.never rfl (pi_str (pv 1)) (pg_name (i := 2) nd rfl (Or.inl rfl))
        (pss_one (ps_expr (pe_meth (pv 0) M_Reader_one_of.c M_Reader_one_of.hm M_Reader_one_of.ok (hr.mono (by decide)) M_Reader_one_of.bd .nil pass0 (pa_cons (pv 2) pa_nil))))))), ?_⟩
    have hts : t.length ≤ 100000 := by
      have := congrArg List.length hd
      rw [List.length_append, List.length_drop, ← TL.len_tl, ← TL.len_tl] at this
      omega
    dsimp only [gName, tSeq]
    refine ifT true (fun k q1 => ⟨.ref a, rfl, a, dx, _, rfl, e, rfl, .str t, rfl, a, dx, z, t, n, rfl, e, hz, hts, ?_⟩) (fun _ H1 s1 => ?_) (fun h => nomatch h)
    · rw [show aheadIs (TL.tl z) (TL.tl t) n = true by unfold aheadIs; rw [hd]; simp]
      exact fun H1 s1 => ⟨true, rfl, q1 _ s1⟩
    · dsimp only [tNext, tSeq]
      have e1 := s1 _ _ e
      have hl : t.length = (TL.tl t).length := TL.len_tl t
      have hts2 : t.length ≤ sizeLine := by rw [sizeLine_eq]; omega
      refine ⟨.ref a, rfl, a, C, dx, _, _, rfl, e1, R.c, R.n_at, rfl, .str t, rfl, t, rfl, hts2, _, _, rfl, rfl, dx, _, e1, (by show 2 < 1000; decide), ?_⟩
      dsimp only [tRetN]
      refine q _ ((SameBut.of s1).trans (SameBut.upd _ _ _)) ?_
      unfold Rdr
      rw [upd_same, ← hl]
      rfl
/-! ### Reader_refuse_number -/
abbrev s_Reader_refuse_number : Stmt := clsS 9 8
abbrev N_Reader_refuse_number : List Str := ["self", "low", "high", "found", "many", "sign"]
abbrev P_Reader_refuse_number : List Str := ["self", "low", "high"]
theorem sc_Reader_refuse_number : FnScope N_Reader_refuse_number ["self", "low", "high"] (defScope s_Reader_refuse_number) := ⟨rfl, rfl, rfl, by decide +kernel, rfl, by decide +kernel, by decide +kernel⟩
def sp_never : Sp := fun _ _ _ _ => False
theorem ok_refuse {f : Addr} {fd : FuncData} {k : Nat} (F : Fun K "refuse_number" "Reader.refuse_number" s_Reader_refuse_number f fd) : FnOk P w K mg base CX0 (k + 1) f fd P_Reader_refuse_number sp_never := by
  exact F.ok sc_Reader_refuse_number (fun vs H Q E h => h.elim) (fun cdv A outer s H vs Q E hr h => h.elim)
/-! ### Reader_number -/
abbrev s_Reader_number : Stmt := clsS 9 7
abbrev N_Reader_number : List Str := ["self", "low", "high", "found"]
abbrev P_Reader_number : List Str := ["self", "low", "high"]
theorem sc_Reader_number : FnScope N_Reader_number ["self", "low", "high"] (defScope s_Reader_number) := ⟨rfl, rfl, rfl, by decide +kernel, rfl, by decide +kernel, by decide +kernel⟩
/-- figures that are a number from lo to hi, place by place -/
def Fits (lo hi ds : List Nat) : Prop := lo.length = ds.length ∧ hi.length = ds.length ∧ 1 ≤ ds.length ∧ ds.length ≤ 4 ∧ (∀ d ∈ ds, 48 ≤ d ∧ d ≤ 57) ∧ ∀ j, j < ds.length → ¬ ds.take (j + 1) < lo.take (j + 1) ∧ ¬ hi.take (j + 1) < ds.take (j + 1)
def sp_number (K : PySem.W.Frag) (C : Addr) : Sp := fun vs H Q _ => ∃ (a dx : Addr) (z lo hi : Str) (n : Nat) (ds rest : List Nat), vs = [.ref a, .str lo, .str hi] ∧ Rdr H C a dx z n ∧ z.length ≤ 100000 ∧ (TL.tl z).drop n = ds ++ rest ∧ Fits (TL.tl lo) (TL.tl hi) ds ∧ ∀ H', SameBut a H H' → Rdr H' C a dx z (n + ds.length) → Q (.int (NumText.digitsVal ds : Nat)) H'
theorem ok_number {f fR : Addr} {fd fdR : FuncData} (F : Fun K "number" "Reader.number" s_Reader_number f fd) (T : Tx K mg tk dn md) (R : Rc K C) (M_Reader_refuse_number : DefM P w K mg base C "refuse_number" 1 fR fdR P_Reader_refuse_number sp_never) : FnOk P w K mg base CX0 3 f fd P_Reader_number (sp_number K C) := by
  refine F.ok sc_Reader_number (fun vs H Q E h => ?_) (fun cdv A outer s H vs Q E hr h => ?_)
  · obtain ⟨a, dx, z, lo, hi, n, ds, rest, rfl, _⟩ := h
    rfl
  · have nd := sc_Reader_number.nd
    obtain ⟨a, dx, z, lo, hi, n, ds, rest, rfl, e, hz, hd, ⟨hlo, hhi, h1, h4, hdig, hpre⟩, q⟩ := h
    refine ⟨_, (pss_cons (ps_set (i := 3) nd rfl (.inl rfl) (pe_slice sl_str (pe_fld (pv 0) rfl) (po_some (pe_fld (pv 0) rfl)) (po_some (pe_op op_add (pe_fld (pv 0) rfl) (pe_callB call_len_str (by rfl) T.n_len (by decide +kernel) (pa_cons (pv 1) pa_nil))))))
      (pss_cons (ps_if (PW.pt (pw_or (pt_cmpR op_lt (pe_callB call_len_str (by rfl) T.n_len (by decide +kernel) (pa_cons (pv 3) pa_nil)) (pe_callB call_len_str (by rfl) T.n_len (by decide +kernel) (pa_cons (pv 1) pa_nil)) (nomark _)) (pw_or (pt_cmpR op_ne (pe_m1 PySem.F.slot_str_strip PySem.F.type_str_strip mt_stripChars (pv 3) (pe_glob (v := .str FIGS) (by rfl) T.m_FIGURES ⟨_, rfl⟩)) pe_str (nomark _)) (pw_or1 (pt_not (pt_chain op_le_str op_le_str (pv 1) (pv 3) (pv 2)))))))
        (pss_one (ps_expr (pe_meth (pv 0) M_Reader_refuse_number.c M_Reader_refuse_number.hm M_Reader_refuse_number.ok (hr.mono (by decide)) M_Reader_refuse_number.bd .nil pass0 (pa_cons (pv 1) (pa_cons (pv 2) pa_nil)))))
        pss_nil)
      (pss_cons (ps_fldaug (pv 0) (pe_callB call_len_str (by rfl) T.n_len (by decide +kernel) (pa_cons (pv 1) pa_nil)) in_add)
      (pss_one (ps_ret (pe_callTy call_int_str (by rfl) T.n_int (by decide +kernel) (pa_cons (pv 3) pa_nil))))))), ?_⟩
    have hlol : lo.length = (TL.tl lo).length := TL.len_tl lo
    have hlos : lo.length ≤ sizeLine := by rw [sizeLine_eq]; omega
    dsimp only [gName, tSeq]
    have hzs : z.length ≤ sizeLine := by rw [sizeLine_eq]; omega
    have hne : ds ≠ [] := fun h => by rw [h] at h1; simp at h1
    have hcut : cutS z (some (n : Int)) (some ((n : Int) + (lo.length : Nat))) = SX.S ds := by
      rw [show ((n : Int) + (lo.length : Nat)) = ((n + lo.length : Nat) : Int) by omega, cutS_at, show n + lo.length - n = ds.length by omega, hd]
      apply TL.ext_tl
      simp [SX.S, hlo]
    have hfl : (SX.S ds).length = ds.length := by rw [TL.len_tl]
    refine ⟨.ref a, rfl, a, C, dx, _, _, rfl, e, R.c, R.n_signs, rfl, .ref a, rfl, a, C, dx, _, _, rfl, e, R.c, R.n_at, rfl, _, rfl, .ref a, rfl, a, C, dx, _, _, rfl, e, R.c, R.n_at, rfl, .str lo, rfl, lo, rfl, hlos, _, _, rfl, rfl, _, rfl, z, rfl, hzs, ?_⟩
    dsimp only [gName, tSeq]
    show tIfS _ _ _ _ [some (.ref a), some (.str lo), some (.str hi), some (.str (cutS z (some (n : Int)) (some ((n : Int) + (lo.length : Nat)))))] H
    rw [hcut]
    have hfs : (SX.S ds).length ≤ sizeLine := by rw [hfl, sizeLine_eq]; omega
    refine ifT false (fun k q1 => orT false false (fun k2 q2 => ⟨.str (SX.S ds), rfl, _, rfl, hfs, .str lo, rfl, lo, rfl, hlos, _, _, rfl, rfl, _, rfl, TellB.eq (decide_eq_false (by rw [hfl]; omega)) q2 _ (Same.refl _)⟩)
      (fun _ H1 k2 s1 q2 => orT false false (fun k3 q3 => ⟨.str (SX.S ds), rfl, ⟨_, rfl⟩, SX.S ds, FIGS, rfl, rfl, hfs, ?_⟩) (fun _ H2 k3 s2 q3 => notT true (fun k4 q4 => ?_) q3) q2) q1) (fun h => nomatch h) (fun _ H1 s1 => ?_)
    · refine ⟨rfl, _, rfl, TellB.eq ?_ q3 _ (Same.refl _)⟩
      rw [strip_eq, Bool.not_eq_false', List.all_eq_true]
      intro d hd'
      obtain ⟨g1, g2⟩ := hdig d hd'
      have hF : TL.tl FIGS = (List.range 10).map (· + 48) := by decide +kernel
      rw [decide_eq_true_eq, hF, List.mem_map]
      exact ⟨d - 48, List.mem_range.mpr (by omega), by omega⟩
    · have hp := hpre (ds.length - 1) (by omega)
      rw [show ds.length - 1 + 1 = ds.length by omega, List.take_length, List.take_of_length_le (by omega), List.take_of_length_le (by omega)] at hp
      refine ⟨.str lo, rfl, .str (SX.S ds), rfl, lo, SX.S ds, rfl, rfl, _, rfl, ?_⟩
      rw [show (!decide ((SX.S ds).cps.toList < lo.cps.toList)) = true by rw [Bool.not_eq_true']; exact decide_eq_false hp.1]
      refine iteT ⟨.str hi, rfl, SX.S ds, hi, rfl, rfl, _, rfl, TellB.eq ?_ q4 _ (Same.refl _)⟩
      rw [Bool.not_eq_true']
      exact decide_eq_false hp.2
    · dsimp only [tNext, tSeq]
      have e1 := s1 _ _ e
      refine ⟨.ref a, rfl, a, C, dx, _, _, rfl, e1, R.c, R.n_at, rfl, .str lo, rfl, lo, rfl, hlos, _, _, rfl, rfl, dx, _, e1, (by show 2 < 1000; decide), ?_⟩
      have hall : (ds.all fun c => decide (48 ≤ c) && decide (c ≤ 57)) = true := by
        rw [List.all_eq_true]
        intro c hc
        have := hdig c hc
        rw [decide_eq_true this.1, decide_eq_true this.2]
        rfl
      refine ⟨.str (SX.S ds), rfl, SX.S ds, _, rfl, SX.int_S hall hne (by omega), by rw [hfl]; omega, q _ ((SameBut.of s1).trans (SameBut.upd _ _ _)) ?_⟩
      unfold Rdr
      rw [upd_same, ← hlo, ← hlol]
      rfl
/-! ### Reader_end -/
abbrev s_Reader_end : Stmt := clsS 9 9
abbrev N_Reader_end : List Str := ["self"]
abbrev P_Reader_end : List Str := ["self"]
theorem sc_Reader_end : FnScope N_Reader_end ["self"] (defScope s_Reader_end) := ⟨rfl, rfl, rfl, by decide +kernel, rfl, by decide +kernel, by decide +kernel⟩
def sp_end (C : Addr) : Sp := fun vs H Q _ => ∃ (a dx : Addr) (z : Str), vs = [.ref a] ∧ Rdr H C a dx z (TL.tl z).length ∧ z.length ≤ 100000 ∧ Tell H .non Q
theorem ok_end {f : Addr} {fd : FuncData} {k : Nat} (F : Fun K "end" "Reader.end" s_Reader_end f fd) (T : Tx K mg tk dn md) (R : Rc K C) : FnOk P w K mg base CX0 (k + 1) f fd P_Reader_end (sp_end C) := by
  refine F.ok sc_Reader_end (fun vs H Q E h => ?_) (fun cdv A outer s H vs Q E hr h => ?_)
  · obtain ⟨a, dx, z, rfl, _⟩ := h
    rfl
  · have nd := sc_Reader_end.nd
    obtain ⟨a, dx, z, rfl, e, hz, q⟩ := h
    refine ⟨_, (pss_one (ps_if (pt_cmpR op_lt (pe_fld (pv 0) rfl) (pe_callB call_len_str (by rfl) T.n_len (by decide +kernel) (pa_cons (pe_fld (pv 0) rfl) pa_nil)) (nomark _))
        (pss_one ps_never)
        pss_nil)), ?_⟩
    have hzl : z.length = (TL.tl z).length := TL.len_tl z
    have hzs : z.length ≤ sizeLine := by rw [sizeLine_eq]; omega
    refine ifT false (fun k q1 => ⟨.ref a, rfl, a, C, dx, _, _, rfl, e, R.c, R.n_at, rfl, .ref a, rfl, a, C, dx, _, _, rfl, e, R.c, R.n_signs, rfl, z, rfl, hzs, _, _, rfl, rfl, _, rfl, TellB.eq (decide_eq_false (by omega)) q1 _ (Same.refl _)⟩) (fun h => nomatch h) (fun _ H1 s1 => q _ s1)
end
end K13

namespace K13
open PySem PySem.Spec PyProof.Rows L2 LH
section
variable {P : Program} {w : World} {K : PySem.W.Frag} {mg : Str → Option Value} {base : Heap} {tk : Nat → Tok} {ca : Nat → Addr} {dn md C : Addr}
/-! ### the calendar -/
def leapB (y : Int) : Bool := decide (y % 400 = 0) || (decide (y % 4 = 0) && decide (0 < y % 100))
def daysIn (y m : Int) : Int := if m = 2 then (if leapB y = true then 29 else 28) else if m = 4 ∨ m = 6 ∨ m = 9 ∨ m = 11 then 30 else 31
/-- days of the year ahead of a month -/
def daysTo (y : Int) : Nat → Int
  | 0 => 0
  | k + 1 => daysTo y k + daysIn y ((k : Nat) + 1)
def daysA (y m : Int) : Int := (y - 1) * 365 + ((y - 1) / 4 - (y - 1) / 100 + (y - 1) / 400) + daysTo y (m - 1).toNat
/-! ### has_leap_day -/
abbrev s_has_leap_day : Stmt := topS 30
abbrev N_has_leap_day : List Str := ["year"]
abbrev P_has_leap_day : List Str := ["year"]
theorem sc_has_leap_day : FnScope N_has_leap_day ["year"] (defScope s_has_leap_day) := ⟨rfl, rfl, rfl, by decide +kernel, rfl, by decide +kernel, by decide +kernel⟩
def sp_leap : Sp := fun vs H Q _ => ∃ y : Int, vs = [.int y] ∧ Tell H (.bl (leapB y)) Q
theorem ok_leap {f : Addr} {fd : FuncData} {k : Nat} (F : Fun K "has_leap_day" "has_leap_day" s_has_leap_day f fd) : FnOk P w K mg base CX0 (k + 1) f fd P_has_leap_day sp_leap := by
  refine F.ok sc_has_leap_day (fun vs H Q E h => ?_) (fun cdv A outer s H vs Q E hr h => ?_)
  · obtain ⟨y, rfl, _⟩ := h
    rfl
  · have nd := sc_has_leap_day.nd
    obtain ⟨y, rfl, q⟩ := h
    refine ⟨_, (pss_one (ps_ret (pe_or (pe_cmpR op_eq (pe_op op_mod (pv 0) pe_int) pe_int (nomark _)) (pe_one (pe_and (pe_cmpR op_eq (pe_op op_mod (pv 0) pe_int) pe_int (nomark _)) (pe_one (pe_cmpR op_gt (pe_op op_mod (pv 0) pe_int) pe_int (nomark _)))))))), ?_⟩
    refine orV (decide (y % 400 = 0)) (decide (y % 4 = 0) && decide (0 < y % 100)) (fun Q' q' => ⟨_, rfl, _, 400, rfl, rfl, (show (0 : Int) < 400 by decide), rfl, ?_⟩) (fun _ H2 Q' s2 q' => andV (decide (y % 4 = 0)) (decide (0 < y % 100)) (fun Q2 q2 => ⟨_, rfl, _, 4, rfl, rfl, (show (0 : Int) < 4 by decide), rfl, ?_⟩) (fun _ H3 Q2 s3 q2 => ⟨_, rfl, _, 100, rfl, rfl, (show (0 : Int) < 100 by decide), _, 0, rfl, rfl, q2 _ (Same.refl _)⟩) q') q
    · rw [vint_dec]; exact q' _ (Same.refl _)
    · rw [vint_dec]; exact q2 _ (Same.refl _)
/-! ### days_in -/
abbrev s_days_in : Stmt := topS 29
abbrev N_days_in : List Str := ["year", "month"]
abbrev P_days_in : List Str := ["year", "month"]
theorem sc_days_in : FnScope N_days_in ["year", "month"] (defScope s_days_in) := ⟨rfl, rfl, rfl, by decide +kernel, rfl, by decide +kernel, by decide +kernel⟩
theorem md_at : ∀ m : Fin 13, 1 ≤ m.val → monthDays[m.val - 1]? = some (if m.val = 2 then 28 else if m.val = 4 ∨ m.val = 6 ∨ m.val = 9 ∨ m.val = 11 then 30 else 31) := by decide
def sp_daysin : Sp := fun vs H Q _ => ∃ (y : Int) (m : Nat), vs = [.int y, .int (m : Nat)] ∧ 1 ≤ m ∧ m ≤ 12 ∧ Tell H (.int (daysIn y m)) Q
theorem ok_daysin {f fL : Addr} {fd fdL : FuncData} (F : Fun K "days_in" "days_in" s_days_in f fd) (T : Tx K mg tk dn md) (D_has_leap_day : Def P w K mg base "has_leap_day" 1 fL fdL P_has_leap_day sp_leap) : FnOk P w K mg base CX0 2 f fd P_days_in sp_daysin := by
  refine F.ok sc_days_in (fun vs H Q E h => ?_) (fun cdv A outer s H vs Q E hr h => ?_)
  · obtain ⟨y, m, rfl, _⟩ := h
    rfl
  · have nd := sc_days_in.nd
    obtain ⟨y, m, rfl, h1, h2, q⟩ := h
    refine ⟨_, (pss_one (ps_ret (pe_op op_add (pe_ix (ixT K) (pe_glob (v := .ref md) (by rfl) T.m_MONTH_DAYS rfl) (pe_op op_sub (pv 1) pe_int) (fun _ _ => rfl)) (pe_ifExp (PW.pt (pw_and (pt_cmpR op_eq (pv 1) pe_int (nomark _)) (pw_and1 (pt_val (pe_def D_has_leap_day (hr.mono (by decide)) (pa_cons (pv 0) pa_nil)))))) pe_int pe_int)))), ?_⟩
    have hm := md_at ⟨m, by omega⟩ h1
    dsimp only at hm
    have hat : atI (monthDays.map V.int) ((m : Nat) - 1 : Int) = some (.int (if m = 2 then 28 else if m = 4 ∨ m = 6 ∨ m = 9 ∨ m = 11 then 30 else 31)) := by
      rw [show ((m : Nat) : Int) - 1 = ((m - 1 : Nat) : Int) by omega]
      refine atI_nat ?_
      rw [List.getElem?_map, hm]
      rfl
    refine ⟨.int m, rfl, _, 1, rfl, rfl, md, _, _, _, rfl, rfl, T.t_MONTH_DAYS _, hat, ?_⟩
    refine andT (decide ((m : Int) = 2)) (leapB y) (fun k q1 => ⟨.int m, rfl, rfl, _, rfl, ?_⟩) (fun _ H1 k s1 q1 => ⟨.int y, rfl, y, rfl, fun H2 s2 => ⟨_, rfl, q1 _ s2⟩⟩) (fun H1 s1 => ?_)
    · rw [vint_dec]
      exact q1 _ (Same.refl _)
    have hq := q H1 s1
    unfold daysIn at hq
    cases hb : (decide ((m : Int) = 2) && leapB y) with
    | true =>
      obtain ⟨e2, el⟩ := Bool.and_eq_true_iff.mp hb
      have e2 := of_decide_eq_true e2
      have e3 : m = 2 := by omega
      refine iteT ⟨_, 1, rfl, rfl, ?_⟩
      rw [if_pos e2, if_pos el] at hq
      rw [if_pos e3]
      exact hq
    | false =>
      refine iteF ⟨_, 0, rfl, rfl, ?_⟩
      by_cases e2 : m = 2
      · have : leapB y = false := by
          cases h : leapB y with
          | false => rfl
          | true => rw [h, decide_eq_true (by omega : (m : Int) = 2)] at hb; exact nomatch hb
        rw [if_pos (by omega), this] at hq
        rw [if_pos e2]
        exact hq
      · rw [if_neg (by omega)] at hq
        rw [if_neg e2]
        by_cases e4 : m = 4 ∨ m = 6 ∨ m = 9 ∨ m = 11
        · rw [if_pos (by omega)] at hq
          rw [if_pos e4]
          exact hq
        · rw [if_neg (by omega)] at hq
          rw [if_neg e4]
          exact hq
/-! ### days_ahead -/
abbrev s_days_ahead : Stmt := topS 28
abbrev N_days_ahead : List Str := ["year", "month", "years", "leap_days"]
abbrev P_days_ahead : List Str := ["year", "month"]
theorem sc_days_ahead : FnScope N_days_ahead ["year", "month"] (defScope s_days_ahead) := ⟨rfl, rfl, rfl, by decide +kernel, rfl, by decide +kernel, by decide +kernel⟩
def sp_daysA : Sp := fun vs H Q _ => ∃ (y : Int) (m : Nat), vs = [.int y, .int (m : Nat)] ∧ 1 ≤ m ∧ m ≤ 13 ∧ Tell H (.int (daysA y m)) Q
theorem ok_daysA {f fL : Addr} {fd fdL : FuncData} (F : Fun K "days_ahead" "days_ahead" s_days_ahead f fd) (T : Tx K mg tk dn md) (D_has_leap_day : Def P w K mg base "has_leap_day" 1 fL fdL P_has_leap_day sp_leap) : FnOk P w K mg base CX0 3 f fd P_days_ahead sp_daysA := by
  refine F.ok sc_days_ahead (fun vs H Q E h => ?_) (fun cdv A outer s H vs Q E hr h => ?_)
  · obtain ⟨y, m, rfl, _⟩ := h
    rfl
  · have nd := sc_days_ahead.nd
    obtain ⟨y, m, rfl, h1, h2, q⟩ := h
    refine ⟨_, (pss_cons (ps_set (i := 2) nd rfl (.inl rfl) (pe_op op_sub (pv 0) pe_int))
      (pss_cons (ps_set (i := 3) nd rfl (.inl rfl) (pe_op op_add (pe_op op_sub (pe_op op_fdiv (pv 2) pe_int) (pe_op op_fdiv (pv 2) pe_int)) (pe_op op_fdiv (pv 2) pe_int)))
      (pss_cons (ps_if (PW.pt (pw_and (pt_cmpR op_gt (pv 1) pe_int (nomark _)) (pw_and1 (pt_val (pe_def D_has_leap_day (hr.mono (by decide)) (pa_cons (pv 0) pa_nil))))))
        (pss_one (ps_aug (i := 3) nd rfl (.inl rfl) pe_int ip_add))
        pss_nil)
      (pss_one (ps_ret (pe_op op_add (pe_op op_add (pe_op op_mul (pv 2) pe_int) (pv 3)) (pe_callB (sumT K (by rfl)) (by rfl) T.n_sum (by decide +kernel) (pa_cons (pe_slice (slA K) (pe_glob (v := .ref md) (by rfl) T.m_MONTH_DAYS rfl) po_none (po_some (pe_op op_sub (pv 1) pe_int))) pa_nil)))))))), ?_⟩
    dsimp only [gName, tSeq]
    refine ⟨.int y, rfl, _, 1, rfl, rfl, ?_⟩
    refine ⟨_, rfl, _, 4, rfl, rfl, ⟨by decide, by decide⟩, _, rfl, _, 100, rfl, rfl, ⟨by decide, by decide⟩, _, _, rfl, rfl, _, rfl, _, 400, rfl, rfl, ⟨by decide, by decide⟩, _, _, rfl, rfl, ?_⟩
    have hsum : ((monthDays.take (m - 1)).sum : Int) + (if (decide (2 < (m : Int)) && leapB y) = true then 1 else 0) = daysTo y (m - 1) := by
      have : m = 1 ∨ m = 2 ∨ m = 3 ∨ m = 4 ∨ m = 5 ∨ m = 6 ∨ m = 7 ∨ m = 8 ∨ m = 9 ∨ m = 10 ∨ m = 11 ∨ m = 12 ∨ m = 13 := by omega
      cases hb : leapB y <;> rcases this with rfl | rfl | rfl | rfl | rfl | rfl | rfl | rfl | rfl | rfl | rfl | rfl | rfl <;> simp [daysTo, daysIn, hb, monthDays]
    have fin : ∀ (H1 : Hp) (L : Int), Same H H1 → L = ((y - 1) / 4 - (y - 1) / 100 + (y - 1) / 400) + (if (decide (2 < (m : Int)) && leapB y) = true then 1 else 0) → ∀ v : Int, v = (y - 1) * 365 + L + (monthDays.take (m - 1)).sum → ∀ H2, Same H1 H2 → Q (.int v) H2 := fun H1 L s1 eL v ev H2 s2 => by
      have := q H2 (s1.trans s2)
      unfold daysA at this
      rw [show (((m : Nat) : Int) - 1).toNat = m - 1 by omega, ← hsum] at this
      rw [ev, eL]
      rw [show (y - 1) * 365 + ((y - 1) / 4 - (y - 1) / 100 + (y - 1) / 400 + if (decide (2 < (m : Int)) && leapB y) = true then 1 else 0) + (monthDays.take (m - 1)).sum = (y - 1) * 365 + ((y - 1) / 4 - (y - 1) / 100 + (y - 1) / 400) + ((monthDays.take (m - 1)).sum + if (decide (2 < (m : Int)) && leapB y) = true then 1 else 0) by omega]
      exact this
    have hcut : cutV (monthDays.map V.int) none (some (((m : Nat) : Int) - 1)) = (monthDays.take (m - 1)).map V.int := by
      rw [show ((m : Nat) : Int) - 1 = ((m - 1 : Nat) : Int) by omega]
      unfold cutV
      rw [HT.sIx_nat, HT.sIx_none, List.map_take, List.length_map]
      show ((monthDays.map V.int).drop 0).take (min (m - 1) 12 - 0) = _
      rw [List.drop_zero, show min (m - 1) 12 - 0 = m - 1 by omega]
    dsimp only [gName, tSeq]
    show tIfS _ _ _ _ [some (.int y), some (.int m), some (.int (y - 1)), some (.int ((y - 1) / 4 - (y - 1) / 100 + (y - 1) / 400))] H
    have hsq : ∀ H, SqT K H md (monthDays.map V.int) := T.t_MONTH_DAYS
    have ret : ∀ (H1 : Hp) (L : Int), Same H H1 → L = ((y - 1) / 4 - (y - 1) / 100 + (y - 1) / 400) + (if (decide (2 < (m : Int)) && leapB y) = true then 1 else 0) →
        tRet (tOp (rI0 fun i j => V.int (i + j)) (tOp (rI0 fun i j => V.int (i + j)) (tOp (rI CMul fun i j => V.int (i * j)) (tVar 2) (tC (V.int 365))) (tVar 3))
          (tCB (rSumT K) (tCons (tSl (rSlA K) (tC (V.ref md)) tNoPart (tPart (tOp (rI0 fun i j => V.int (i - j)) (tVar 1) (tC (V.int 1))))) tNil))) { nx := fun x H' => Q V.non H', rt := Q } [some (.int y), some (.int m), some (.int (y - 1)), some (.int L)] H1 := fun H1 L s1 eL => by
      refine ⟨_, rfl, _, 365, rfl, rfl, .inr ⟨by decide, by decide⟩, _, rfl, _, _, rfl, rfl, .int m, rfl, _, 1, rfl, rfl, _, rfl, md, _, rfl, hsq _, fun hw => ?_, fun _ p np => ?_⟩
      · have h13 : m = 13 := by
          have := hw.2
          rw [show ((m : Nat) : Int) - 1 = ((m - 1 : Nat) : Int) by omega, HT.sIx_nat, List.length_map] at this
          have h12 : monthDays.length = 12 := rfl
          omega
        subst h13
        exact ⟨md, monthDays, rfl, hsq _, _, _, rfl, rfl, fin _ _ s1 eL _ rfl _ (Same.refl _)⟩
      · refine ⟨p, monthDays.take (m - 1), rfl, ?_, _, _, rfl, rfl, fin _ _ s1 eL _ rfl _ (same_upd np)⟩
        rw [hcut]
        exact .inl (.inl upd_same)
    refine ifT (decide (2 < (m : Int)) && leapB y) (fun k q1 => andT (decide (2 < (m : Int))) (leapB y) (fun k2 q2 => ⟨.int m, rfl, _, _, rfl, rfl, _, rfl, q2 _ (Same.refl _)⟩) (fun _ H1 k2 s1 q2 => ⟨.int y, rfl, y, rfl, fun H2 s2 => ⟨_, rfl, q2 _ s2⟩⟩) q1) (fun hb H1 s1 => ?_) (fun hb H1 s1 => ?_)
    · refine ⟨_, rfl, _, 1, rfl, rfl, ?_⟩
      exact ret _ _ s1 (by rw [hb]; rfl)
    · dsimp only [tNext, tSeq]
      exact ret _ _ s1 (by rw [hb]; simp)
/-! ### day_name -/
abbrev s_day_name : Stmt := topS 27
abbrev N_day_name : List Str := ["day"]
abbrev P_day_name : List Str := ["day"]
theorem sc_day_name : FnScope N_day_name ["day"] (defScope s_day_name) := ⟨rfl, rfl, rfl, by decide +kernel, rfl, by decide +kernel, by decide +kernel⟩
def sp_dayname : Sp := fun vs H Q _ => ∃ d : Int, vs = [.int d] ∧ Tell H (.str (dayNames.getD (d % 7).toNat Str.empty)) Q
theorem ok_dayname {f : Addr} {fd : FuncData} {k : Nat} (F : Fun K "day_name" "day_name" s_day_name f fd) (T : Tx K mg tk dn md) : FnOk P w K mg base CX0 (k + 1) f fd P_day_name sp_dayname := by
  refine F.ok sc_day_name (fun vs H Q E h => ?_) (fun cdv A outer s H vs Q E hr h => ?_)
  · obtain ⟨d, rfl, _⟩ := h
    rfl
  · have nd := sc_day_name.nd
    obtain ⟨d, rfl, q⟩ := h
    refine ⟨_, (pss_one (ps_ret (pe_ix (ixT K) (pe_glob (v := .ref dn) (by rfl) T.m_DAY_NAMES rfl) (pe_op op_mod (pv 0) (pe_callB (cLen K) (by rfl) T.n_len (by decide +kernel) (pa_cons (pe_glob (v := .ref dn) (by rfl) T.m_DAY_NAMES rfl) pa_nil))) (fun _ _ => rfl)))), ?_⟩
    have h0 := Int.emod_nonneg d (by decide : (7 : Int) ≠ 0)
    have h7 := Int.emod_lt_of_pos d (by decide : (0 : Int) < 7)
    have hat : atI (dayNames.map V.str) (d % 7) = some (.str (dayNames.getD (d % 7).toNat Str.empty)) := by
      conv => lhs; rw [show d % 7 = ((d % 7).toNat : Int) by omega]
      have hl : (d % 7).toNat < dayNames.length := by show _ < 7; omega
      refine atI_nat ?_
      rw [List.getElem?_map, List.getElem?_eq_getElem hl, List.getD_eq_getElem?_getD, List.getElem?_eq_getElem hl]
      rfl
    exact ⟨.int d, rfl, dn, _, rfl, .inr (T.t_DAY_NAMES _), _, 7, rfl, rfl, (show (0 : Int) < 7 by decide), dn, _, _, _, rfl, rfl, T.t_DAY_NAMES _, hat, q _ (Same.refl _)⟩
/-! ### clock_text -/
abbrev s_clock_text : Stmt := topS 25
abbrev N_clock_text : List Str := ["clock", "hour", "minute"]
abbrev P_clock_text : List Str := ["clock"]
theorem sc_clock_text : FnScope N_clock_text ["clock"] (defScope s_clock_text) := ⟨rfl, rfl, rfl, by decide +kernel, rfl, by decide +kernel, by decide +kernel⟩
def two (n : Nat) : List Nat := [48 + n / 10, 48 + n % 10]
def four (n : Nat) : List Nat := [48 + n / 1000, 48 + n / 100 % 10, 48 + n / 10 % 10, 48 + n % 10]
def sp_clock : Sp := fun vs H Q _ => ∃ n : Nat, vs = [.int (n : Nat)] ∧ n < 1440 ∧ Tell H (.str (SX.S (two (n / 60) ++ [58] ++ two (n % 60)))) Q
theorem ok_clock {f : Addr} {fd : FuncData} {k : Nat} (F : Fun K "clock_text" "clock_text" s_clock_text f fd) (T : Tx K mg tk dn md) : FnOk P w K mg base CX0 (k + 1) f fd P_clock_text sp_clock := by
  refine F.ok sc_clock_text (fun vs H Q E h => ?_) (fun cdv A outer s H vs Q E hr h => ?_)
  · obtain ⟨n, rfl, _⟩ := h
    rfl
  · have nd := sc_clock_text.nd
    obtain ⟨n, rfl, hn, q⟩ := h
    refine ⟨_, (pss_cons (ps_asg (pe_callB call_divmod (by rfl) T.n_divmod (by decide +kernel) (pa_cons (pv 0) (pa_cons pe_int pa_nil))) (pg_tup rfl (pgs_cons (pg_name (i := 1) nd rfl (Or.inl rfl)) (pgs_cons (pg_name (i := 2) nd rfl (Or.inl rfl)) pgs_nil))))
      (pss_one (ps_ret (pe_joined (PJ.cons (pe_fmtS (pv 1) (pe_joined1 pe_str)) (PJ.cons pe_str (PJ.cons (pe_fmtS (pv 2) (pe_joined1 pe_str)) PJ.nil))))))), ?_⟩
    dsimp only [gName, tSeq]
    refine ⟨.int n, rfl, _, _, rfl, ⟨by decide, by decide⟩, fun p hp => ⟨p, _, rfl, .inl (.inl upd_same), rfl, _, _, rfl, _, _, rfl, rfl, ?_⟩⟩
    have hb1 : (two (n / 60)).length = 2 := rfl
    refine ⟨_, rfl, ((n / 60 : Nat) : Int), _, by rw [Int.natCast_ediv]; rfl, fmt_dec2 (by omega), _, rfl, by show 0 + 2 ≤ _; rw [sizeLine_eq]; decide, Str.ofString ":", rfl, by rw [len_app]; show 0 + 2 + 1 ≤ _; rw [sizeLine_eq]; decide, _, rfl, ((n % 60 : Nat) : Int), _, by rw [Int.natCast_emod]; rfl, fmt_dec2 (by omega), _, rfl, by rw [len_app, len_app]; show 0 + 2 + 1 + 2 ≤ _; rw [sizeLine_eq]; decide, ?_⟩
    have e : Str.empty ++ (⟨#[48 + n / 60 / 10, 48 + n / 60 % 10]⟩ : Str) ++ Str.ofString ":" ++ (⟨#[48 + n % 60 / 10, 48 + n % 60 % 10]⟩ : Str) = SX.S (two (n / 60) ++ [58] ++ two (n % 60)) := TL.ext_tl (by rw [TL.tl_append, TL.tl_append, TL.tl_append, show TL.tl Str.empty = [] from rfl, show TL.tl (Str.ofString ":") = [58] by decide +kernel]; rfl)
    have := q (upd H p (.tup [.int ((n : Int) / 60), .int ((n : Int) % 60)])) (same_upd hp)
    rw [← e] at this
    exact this
/-! ### ahead_text -/
abbrev s_ahead_text : Stmt := topS 26
abbrev N_ahead_text : List Str := ["ahead", "mark", "hours", "minutes"]
abbrev P_ahead_text : List Str := ["ahead"]
theorem sc_ahead_text : FnScope N_ahead_text ["ahead"] (defScope s_ahead_text) := ⟨rfl, rfl, rfl, by decide +kernel, rfl, by decide +kernel, by decide +kernel⟩
def aheadL (a : Int) : List Nat := [if a < 0 then 45 else 43] ++ two (a.natAbs / 60) ++ two (a.natAbs % 60)
def sp_ahead : Sp := fun vs H Q _ => ∃ a : Int, vs = [.int a] ∧ a.natAbs ≤ 840 ∧ Tell H (.str (SX.S (aheadL a))) Q
theorem ok_ahead {f : Addr} {fd : FuncData} {k : Nat} (F : Fun K "ahead_text" "ahead_text" s_ahead_text f fd) (T : Tx K mg tk dn md) : FnOk P w K mg base CX0 (k + 1) f fd P_ahead_text sp_ahead := by
  refine F.ok sc_ahead_text (fun vs H Q E h => ?_) (fun cdv A outer s H vs Q E hr h => ?_)
  · obtain ⟨a, rfl, _⟩ := h
    rfl
  · have nd := sc_ahead_text.nd
    obtain ⟨a, rfl, ha, q⟩ := h
    refine ⟨_, (pss_cons (ps_asg (pe_callB call_divmod (by rfl) T.n_divmod (by decide +kernel) (pa_cons (pe_callB call_abs (by rfl) T.n_abs (by decide +kernel) (pa_cons (pv 0) pa_nil)) (pa_cons pe_int pa_nil))) (pg_tup rfl (pgs_cons (pg_name (i := 2) nd rfl (Or.inl rfl)) (pgs_cons (pg_name (i := 3) nd rfl (Or.inl rfl)) pgs_nil))))
      (pss_cons (ps_set (i := 1) nd rfl (.inl rfl) (pe_ifExp (pt_cmpR op_lt (pv 0) pe_int (nomark _)) pe_str pe_str))
      (pss_one (ps_ret (pe_joined (PJ.cons (pe_fmt (pv 1)) (PJ.cons (pe_fmtS (pv 2) (pe_joined1 pe_str)) (PJ.cons (pe_fmtS (pv 3) (pe_joined1 pe_str)) PJ.nil)))))))), ?_⟩
    dsimp only [gName, tSeq]
    have hab : (if a < 0 then -a else a) = ((a.natAbs : Nat) : Int) := by split <;> omega
    have ht : a.natAbs / 60 < 100 := by omega
    have hm : a.natAbs % 60 < 100 := by omega
    refine ⟨.int a, rfl, a, rfl, ?_⟩
    rw [hab]
    refine ⟨_, _, rfl, ⟨by decide, by decide⟩, fun p hp => ⟨p, _, rfl, .inl (.inl upd_same), rfl, _, _, rfl, _, _, rfl, rfl, ?_⟩⟩
    have key : ∀ (x : Nat) (H1 : Hp), (x = if a < 0 then 45 else 43) → Same H H1 → Q (.str (Str.empty ++ (⟨#[x]⟩ : Str) ++ (⟨#[48 + a.natAbs / 60 / 10, 48 + a.natAbs / 60 % 10]⟩ : Str) ++ (⟨#[48 + a.natAbs % 60 / 10, 48 + a.natAbs % 60 % 10]⟩ : Str))) H1 := by
      intro x H1 hx s1
      have e : Str.empty ++ (⟨#[x]⟩ : Str) ++ (⟨#[48 + a.natAbs / 60 / 10, 48 + a.natAbs / 60 % 10]⟩ : Str) ++ (⟨#[48 + a.natAbs % 60 / 10, 48 + a.natAbs % 60 % 10]⟩ : Str) = SX.S (aheadL a) := TL.ext_tl (by rw [TL.tl_append, TL.tl_append, TL.tl_append, show TL.tl Str.empty = [] from rfl]; unfold aheadL; rw [← hx]; rfl)
      rw [e]
      exact q _ s1
    refine ⟨.int a, rfl, a, 0, rfl, rfl, _, rfl, ?_⟩
    by_cases h0 : a < 0
    · rw [decide_eq_true h0]
      refine iteT ?_
      have ht1 : Str.ofString "-" = ⟨#[45]⟩ := TL.ext_tl (by decide +kernel)
      refine ⟨_, rfl, .inl ⟨Str.ofString "-", rfl, by rw [ht1, sizeLine_eq]; decide, _, rfl, by rw [ht1, len_app, sizeLine_eq]; decide, _, rfl, ((a.natAbs / 60 : Nat) : Int), _, by rw [Int.natCast_ediv]; rfl, fmt_dec2 ht, _, rfl, by rw [len_app, len_app, ht1]; show 0 + 1 + 2 ≤ _; rw [sizeLine_eq]; decide, _, rfl, ((a.natAbs % 60 : Nat) : Int), _, by rw [Int.natCast_emod]; rfl, fmt_dec2 hm, _, rfl, by rw [len_app, len_app, len_app, ht1]; show 0 + 1 + 2 + 2 ≤ _; rw [sizeLine_eq]; decide, ?_⟩⟩
      rw [ht1]
      exact key 45 _ (by rw [if_pos h0]) (same_upd hp)
    · rw [decide_eq_false h0]
      refine iteF ?_
      have ht1 : Str.ofString "+" = ⟨#[43]⟩ := TL.ext_tl (by decide +kernel)
      refine ⟨_, rfl, .inl ⟨Str.ofString "+", rfl, by rw [ht1, sizeLine_eq]; decide, _, rfl, by rw [ht1, len_app, sizeLine_eq]; decide, _, rfl, ((a.natAbs / 60 : Nat) : Int), _, by rw [Int.natCast_ediv]; rfl, fmt_dec2 ht, _, rfl, by rw [len_app, len_app, ht1]; show 0 + 1 + 2 ≤ _; rw [sizeLine_eq]; decide, _, rfl, ((a.natAbs % 60 : Nat) : Int), _, by rw [Int.natCast_emod]; rfl, fmt_dec2 hm, _, rfl, by rw [len_app, len_app, len_app, ht1]; show 0 + 1 + 2 + 2 ≤ _; rw [sizeLine_eq]; decide, ?_⟩⟩
      rw [ht1]
      exact key 43 _ (by rw [if_neg h0]) (same_upd hp)
end
end K13

namespace K13
open PySem PySem.Spec PyProof.Rows L2 LH
section
variable {P : Program} {w : World} {K : PySem.W.Frag} {mg : Str → Option Value} {base : Heap} {tk : Nat → Tok} {ca : Nat → Addr} {dn md C : Addr}
/-! ### the calendar's arithmetic -/
def leapI (y : Int) : Int := if leapB y = true then 1 else 0
theorem leapI_val (y : Int) : leapI y = y / 4 - y / 100 + y / 400 - ((y - 1) / 4 - (y - 1) / 100 + (y - 1) / 400) := by
  unfold leapI leapB
  by_cases h4 : y % 4 = 0 <;> by_cases h1 : y % 100 = 0 <;> by_cases h400 : y % 400 = 0 <;> simp [h4, h1, h400] <;> first | omega | (split <;> omega)
theorem leapI_01 (y : Int) : leapI y = 0 ∨ leapI y = 1 := by unfold leapI; split <;> simp
theorem daysIn_val (y m : Int) : daysIn y m = if m = 2 then 28 + leapI y else if m = 4 ∨ m = 6 ∨ m = 9 ∨ m = 11 then 30 else 31 := by
  unfold daysIn leapI
  split
  · split <;> rfl
  · rfl
theorem daysIn_ge (y m : Int) : 28 ≤ daysIn y m ∧ daysIn y m ≤ 31 := by
  rw [daysIn_val]
  have := leapI_01 y
  split
  · omega
  · split <;> omega
theorem daysTo_val (y : Int) : ∀ m : Nat, 1 ≤ m → m ≤ 13 → daysTo y (m - 1) = if m = 1 then 0 else if m = 2 then 31 else if m = 13 then 365 + leapI y else (153 * ((m : Int) - 3) + 2) / 5 + 59 + leapI y := by
  intro m h1 h2
  have h : m = 1 ∨ m = 2 ∨ m = 3 ∨ m = 4 ∨ m = 5 ∨ m = 6 ∨ m = 7 ∨ m = 8 ∨ m = 9 ∨ m = 10 ∨ m = 11 ∨ m = 12 ∨ m = 13 := by omega
  rcases h with rfl | rfl | rfl | rfl | rfl | rfl | rfl | rfl | rfl | rfl | rfl | rfl | rfl <;> simp [daysTo, daysIn_val] <;> omega
theorem daysA_val (y : Int) (m : Nat) : daysA y m = (y - 1) * 365 + ((y - 1) / 4 - (y - 1) / 100 + (y - 1) / 400) + daysTo y (m - 1) := by
  unfold daysA
  rw [show (((m : Nat) : Int) - 1).toNat = m - 1 by omega]
theorem daysA_succ (y : Int) (k : Nat) (h : 1 ≤ k) : daysA y (k + 1 : Nat) = daysA y k + daysIn y k := by
  rw [daysA_val, daysA_val]
  obtain ⟨j, rfl⟩ : ∃ j, k = j + 1 := ⟨k - 1, by omega⟩
  simp only [Nat.add_sub_cancel, daysTo]
  rw [show ((j + 1 : Nat) : Int) = (j : Int) + 1 by omega]
  omega
theorem daysA_mono (y : Int) {k m : Nat} (h1 : 1 ≤ k) (h : k ≤ m) : daysA y k ≤ daysA y m := by
  induction m with
  | zero => omega
  | succ n ih =>
    by_cases e : k = n + 1
    · rw [e]; exact Int.le_refl _
    · have := ih (by omega)
      rw [daysA_succ y n (by omega)]
      have := daysIn_ge y n
      omega
theorem daysA_one (y : Int) : daysA y (1 : Nat) = (y - 1) * 365 + ((y - 1) / 4 - (y - 1) / 100 + (y - 1) / 400) := by rw [daysA_val]; simp [daysTo]
theorem daysA_13 (y : Int) : daysA y (13 : Nat) = daysA (y + 1) (1 : Nat) := by
  rw [daysA_one, daysA_val, daysTo_val y 13 (by decide) (by decide), leapI_val]
  simp
  omega
theorem daysA_years {y1 y2 : Int} (h : y1 ≤ y2) : daysA y1 (1 : Nat) ≤ daysA y2 (1 : Nat) := by
  rw [daysA_one, daysA_one]
  omega
theorem daysA_small {y : Int} (h : 1 ≤ y) : daysA y (1 : Nat) ≤ (y - 1) * 366 ∧ 0 ≤ daysA y (1 : Nat) := by
  rw [daysA_one]
  omega
theorem daysA_in (y : Int) {m d : Nat} (h1 : 1 ≤ m) (h2 : m ≤ 12) (hd : 1 ≤ d) (hd2 : (d : Int) ≤ daysIn y m) : daysA y (1 : Nat) ≤ daysA y m + d - 1 ∧ daysA y m + d - 1 < daysA (y + 1) (1 : Nat) := by
  have a := daysA_mono y (Nat.le_refl 1) h1
  have b := daysA_mono y (show 1 ≤ m + 1 by omega) (show m + 1 ≤ 13 by omega)
  rw [daysA_13, daysA_succ y m h1] at b
  omega
def dateL (y m d : Nat) : List Nat := four y ++ [45] ++ two m ++ [45] ++ two d
/-- a day of the calendar -/
def Date (y m d : Nat) : Prop := 1 ≤ y ∧ y ≤ 9999 ∧ 1 ≤ m ∧ m ≤ 12 ∧ 1 ≤ d ∧ (d : Int) ≤ daysIn y m
def dayNo (y m d : Nat) : Int := daysA y m + d - 1
/-! ### day_text -/
abbrev s_day_text : Stmt := topS 24
abbrev N_day_text : List Str := ["day", "year", "month"]
abbrev P_day_text : List Str := ["day"]
theorem sc_day_text : FnScope N_day_text ["day"] (defScope s_day_text) := ⟨rfl, rfl, rfl, by decide +kernel, rfl, by decide +kernel, by decide +kernel⟩
def sp_daytext : Sp := fun vs H Q _ => ∃ y m d : Nat, vs = [.int (dayNo y m d)] ∧ Date y m d ∧ Tell H (.str (SX.S (dateL y m d))) Q
theorem ok_daytext {f fA : Addr} {fd fdA : FuncData} (F : Fun K "day_text" "day_text" s_day_text f fd) (T : Tx K mg tk dn md) (D_days_ahead : Def P w K mg base "days_ahead" 3 fA fdA P_days_ahead sp_daysA) : FnOk P w K mg base CX0 4 f fd P_day_text sp_daytext := by
  refine F.ok sc_day_text (fun vs H Q E h => ?_) (fun cdv A outer s H vs Q E hr h => ?_)
  · obtain ⟨y, m, d, rfl, _⟩ := h
    rfl
  · have nd := sc_day_text.nd
    obtain ⟨y, m, d, rfl, ⟨y1, y2, m1, m2, d1, d2⟩, q⟩ := h
    refine ⟨_, (pss_cons (ps_set (i := 1) nd rfl (.inl rfl) (pe_op op_add (pe_op op_fdiv (pv 0) pe_int) pe_int))
      (pss_cons (ps_while PassesOwn.never (pt_cmpR op_le (pe_def D_days_ahead (hr.mono (by decide)) (pa_cons (pe_op op_add (pv 1) pe_int) (pa_cons pe_int pa_nil))) (pv 0) (nomark _))
        (pss_one (ps_aug (i := 1) nd rfl (.inl rfl) pe_int ip_add)))
      (pss_cons (ps_set (i := 2) nd rfl (.inl rfl) pe_int)
      (pss_cons (ps_while PassesOwn.never (pt_cmpR op_le (pe_def D_days_ahead (hr.mono (by decide)) (pa_cons (pv 1) (pa_cons (pe_op op_add (pv 2) pe_int) pa_nil))) (pv 0) (nomark _))
        (pss_one (ps_aug (i := 2) nd rfl (.inl rfl) pe_int ip_add)))
      (pss_one (ps_ret (pe_joined (PJ.cons (pe_fmtS (pv 1) (pe_joined1 pe_str)) (PJ.cons pe_str (PJ.cons (pe_fmtS (pv 2) (pe_joined1 pe_str)) (PJ.cons pe_str (PJ.cons (pe_fmtS (pe_op op_add (pe_op op_sub (pv 0) (pe_def D_days_ahead (hr.mono (by decide)) (pa_cons (pv 1) (pa_cons (pv 2) pa_nil)))) pe_int) (pe_joined1 pe_str)) PJ.nil)))))))))))), ?_⟩
    dsimp only [gName, tSeq]
    have hin := daysA_in y m1 m2 d1 d2
    have hsm := daysA_small (y := y) (by omega)
    have hsm2 := daysA_small (y := (y : Int) + 1) (by omega)
    have h31 := (daysIn_ge y m).2
    have hdef : dayNo y m d = daysA y m + d - 1 := rfl
    have hy0 : ∃ n : Nat, dayNo y m d / 366 + 1 = (n : Int) ∧ 1 ≤ n ∧ n ≤ y := ⟨(dayNo y m d / 366 + 1).toNat, by omega, by omega, by omega⟩
    obtain ⟨n0, en0, hn1, hn2⟩ := hy0
    refine ⟨_, rfl, _, 366, rfl, rfl, ⟨by decide, by decide⟩, _, 1, rfl, rfl, ?_⟩
    dsimp only [gName]
    rw [en0]
    refine whileT (fun σ H' => ∃ n : Nat, σ = [some (.int (dayNo y m d)), some (.int (n : Nat)), none] ∧ 1 ≤ n ∧ n ≤ y ∧ Same H H') (fun σ H' => match σ with | [_, some (.int i), _] => y - i.toNat | _ => 0) ⟨n0, rfl, hn1, hn2, Same.refl _⟩ (fun σ H1 hP => ?_)
    obtain ⟨n, rfl, h1, h2, s1⟩ := hP
    have hlt : decide (daysA ((n : Int) + 1) (1 : Nat) ≤ dayNo y m d) = decide (n < y) := by
      by_cases hny : n < y
      · have := daysA_years (show (n : Int) + 1 ≤ y by omega)
        rw [decide_eq_true hny, decide_eq_true (by omega)]
      · have : n = y := by omega
        rw [decide_eq_false hny, decide_eq_false (by rw [this]; omega)]
    refine ⟨decide (n < y), fun k q1 => ⟨_, rfl, _, 1, rfl, rfl, (n : Int) + 1, 1, rfl, by decide, by decide, fun H2 s2 => ⟨_, rfl, _, _, rfl, rfl, _, rfl, TellB.eq hlt q1 _ s2⟩⟩, fun hb H2 s2 => ?_, fun hb H2 s2 => ?_⟩
    · have := of_decide_eq_true hb
      refine ⟨_, rfl, _, 1, rfl, rfl, ?_⟩
      refine ⟨⟨n + 1, ?_, by omega, by omega, s1.trans s2⟩, ?_⟩
      · rfl
      · show y - ((n : Int) + 1).toNat < y - ((n : Nat) : Int).toNat
        omega
    have hny : n = y := by have := of_decide_eq_false hb; omega
    subst hny
    have s2 := s1.trans s2
    dsimp only [tSeq, tAsg, gName]
    refine whileT (fun σ H' => ∃ j : Nat, σ = [some (.int (dayNo n m d)), some (.int (n : Nat)), some (.int (j : Nat))] ∧ 1 ≤ j ∧ j ≤ m ∧ Same H H') (fun σ H' => match σ with | [_, _, some (.int i)] => m - i.toNat | _ => 0) ⟨1, rfl, Nat.le_refl _, m1, s2⟩ (fun σ H3 hP => ?_)
    obtain ⟨j, rfl, j1, j2, s3⟩ := hP
    have hlt2 : decide (daysA (n : Int) (j + 1 : Nat) ≤ dayNo n m d) = decide (j < m) := by
      by_cases hjm : j < m
      · have := daysA_mono (n : Int) (show 1 ≤ j + 1 by omega) (show j + 1 ≤ m by omega)
        rw [decide_eq_true hjm, decide_eq_true (by omega)]
      · have : j = m := by omega
        subst this
        rw [decide_eq_false hjm, decide_eq_false (by rw [daysA_succ _ _ m1]; omega)]
    refine ⟨decide (j < m), fun k q1 => ⟨_, rfl, _, rfl, _, 1, rfl, rfl, (n : Int), j + 1, rfl, by omega, by omega, fun H4 s4 => ⟨_, rfl, _, _, rfl, rfl, _, rfl, TellB.eq hlt2 q1 _ s4⟩⟩, fun hb H4 s4 => ?_, fun hb H4 s4 => ?_⟩
    · have := of_decide_eq_true hb
      refine ⟨_, rfl, _, 1, rfl, rfl, ?_⟩
      refine ⟨⟨j + 1, ?_, by omega, by omega, s3.trans s4⟩, ?_⟩
      · rfl
      · show m - ((j : Int) + 1).toNat < m - ((j : Nat) : Int).toNat
        omega
    have hjm : j = m := by have := of_decide_eq_false hb; omega
    subst hjm
    have s4 := s3.trans s4
    have e2 : dayNo n j d - daysA n j + 1 = ((d : Nat) : Int) := by omega
    refine ⟨_, rfl, ((n : Nat) : Int), _, rfl, fmt_dec4 (by omega), _, rfl, by show 0 + 4 ≤ _; rw [sizeLine_eq]; decide, Str.ofString "-", rfl, by rw [len_app]; show 0 + 4 + 1 ≤ _; rw [sizeLine_eq]; decide, _, rfl, ((j : Nat) : Int), _, rfl, fmt_dec2 (by omega), _, rfl, by rw [len_app, len_app]; show 0 + 4 + 1 + 2 ≤ _; rw [sizeLine_eq]; decide, Str.ofString "-", rfl, by rw [len_app, len_app, len_app]; show 0 + 4 + 1 + 2 + 1 ≤ _; rw [sizeLine_eq]; decide, ?_⟩
    refine ⟨_, rfl, _, rfl, _, rfl, (n : Int), j, rfl, m1, by omega, fun H5 s5 => ⟨_, _, rfl, rfl, _, 1, rfl, rfl, ((d : Nat) : Int), _, congrArg V.int e2, fmt_dec2 (by omega), _, rfl, by rw [len_app, len_app, len_app, len_app]; show 0 + 4 + 1 + 2 + 1 + 2 ≤ _; rw [sizeLine_eq]; decide, ?_⟩⟩
    have e : Str.empty ++ (⟨#[48 + n / 1000, 48 + n / 100 % 10, 48 + n / 10 % 10, 48 + n % 10]⟩ : Str) ++ Str.ofString "-" ++ (⟨#[48 + j / 10, 48 + j % 10]⟩ : Str) ++ Str.ofString "-" ++ (⟨#[48 + d / 10, 48 + d % 10]⟩ : Str) = SX.S (dateL n j d) := TL.ext_tl (by rw [TL.tl_append, TL.tl_append, TL.tl_append, TL.tl_append, TL.tl_append, show TL.tl Str.empty = [] from rfl, show TL.tl (Str.ofString "-") = [45] by decide +kernel]; rfl)
    have := q _ (s4.trans s5)
    rw [← e] at this
    exact this
/-! ### a minute's text -/
/-! ### is_number -/
abbrev s_is_number : Stmt := topS 11
abbrev N_is_number : List Str := ["thing"]
abbrev P_is_number : List Str := ["thing"]
theorem sc_is_number : FnScope N_is_number ["thing"] (defScope s_is_number) := ⟨rfl, rfl, rfl, by decide +kernel, rfl, by decide +kernel, by decide +kernel⟩
def sp_isnum : Sp := fun vs H Q _ => ∃ i : Int, vs = [.int i] ∧ Tell H (.bl true) Q
theorem ok_isnum {f : Addr} {fd : FuncData} {k : Nat} (F : Fun K "is_number" "is_number" s_is_number f fd) (T : Tx K mg tk dn md) : FnOk P w K mg base CX0 (k + 1) f fd P_is_number sp_isnum := by
  refine F.ok sc_is_number (fun vs H Q E h => ?_) (fun cdv A outer s H vs Q E hr h => ?_)
  · obtain ⟨i, rfl, _⟩ := h
    rfl
  · have nd := sc_is_number.nd
    obtain ⟨i, rfl, q⟩ := h
    refine ⟨_, (pss_one (ps_ret (pe_and (pe_callB (cIsi K) (by rfl) T.n_isinstance (by decide +kernel) (pa_cons (pv 0) (pa_cons (pe_bltn (v := .ty "int") (by rfl) T.n_int (by decide +kernel) rfl) pa_nil))) (pe_one (pe_not (pe_callB (cIsi K) (by rfl) T.n_isinstance (by decide +kernel) (pa_cons (pv 0) (pa_cons (pe_bltn (v := .ty "bool") (by rfl) T.n_bool (by decide +kernel) rfl) pa_nil)))))))), ?_⟩
    refine ⟨.int i, rfl, .int i, .ty "int", _, _, true, rfl, .ty _, .base (.int i), kit_ty (by decide +kernel), true, rfl, iteT ⟨.int i, rfl, .int i, .ty "bool", _, _, false, rfl, .ty _, .base (.int i), kit_ty (by decide +kernel), false, rfl, q H (Same.refl _)⟩⟩
/-- the signs of a time -/
def timeL (y m d l : Nat) (a : Int) : List Nat := dateL y m d ++ [32] ++ TL.tl (dayNames.getD (dayNo y m d % 7).toNat Str.empty) ++ [32] ++ (two (l / 60) ++ [58] ++ two (l % 60)) ++ [32] ++ aheadL a
/-! ### time_text -/
abbrev s_time_text : Stmt := topS 23
abbrev N_time_text : List Str := ["minute", "ahead", "day", "clock"]
abbrev P_time_text : List Str := ["minute", "ahead"]
theorem sc_time_text : FnScope N_time_text ["minute", "ahead"] (defScope s_time_text) := ⟨rfl, rfl, rfl, by decide +kernel, rfl, by decide +kernel, by decide +kernel⟩
def sp_ttext : Sp := fun vs H Q _ => ∃ (y m d l : Nat) (a : Int), vs = [.int (1440 * dayNo y m d + l - a), .int a] ∧ Date y m d ∧ l < 1440 ∧ a.natAbs ≤ 840 ∧ Tell H (.str (SX.S (timeL y m d l a))) Q
theorem ok_ttext {fN fA fY fM fC fH f : Addr} {fdN fdA fdY fdM fdC fdH fd : FuncData} (F : Fun K "time_text" "time_text" s_time_text f fd) (T : Tx K mg tk dn md)
    (D_is_number : Def P w K mg base "is_number" 1 fN fdN P_is_number sp_isnum) (D_days_ahead : Def P w K mg base "days_ahead" 3 fA fdA P_days_ahead sp_daysA) (D_day_text : Def P w K mg base "day_text" 4 fY fdY P_day_text sp_daytext)
    (D_day_name : Def P w K mg base "day_name" 1 fM fdM P_day_name sp_dayname) (D_clock_text : Def P w K mg base "clock_text" 1 fC fdC P_clock_text sp_clock) (D_ahead_text : Def P w K mg base "ahead_text" 1 fH fdH P_ahead_text sp_ahead) : FnOk P w K mg base CX0 5 f fd P_time_text sp_ttext := by
  refine F.ok sc_time_text (fun vs H Q E h => ?_) (fun cdv A outer s H vs Q E hr h => ?_)
  · obtain ⟨y, m, d, l, a, rfl, _⟩ := h
    rfl
  · have nd := sc_time_text.nd
    obtain ⟨y, m, d, l, a, rfl, hD, hl, ha, q⟩ := h
    refine ⟨_, (pss_cons (ps_if (PW.pt (pw_or (pt_not (pt_val (pe_def D_is_number (hr.mono (by decide)) (pa_cons (pv 0) pa_nil)))) (pw_or1 (pt_not (pt_val (pe_def D_is_number (hr.mono (by decide)) (pa_cons (pv 1) pa_nil)))))))
        (pss_one ps_never)
        pss_nil)
      (pss_cons (ps_if (pt_cmpR op_gt (pe_callB call_abs (by rfl) T.n_abs (by decide +kernel) (pa_cons (pv 1) pa_nil)) (pe_op op_mul (pe_glob (v := .int 14) (by rfl) T.m_MOST_HOURS ⟨_, rfl⟩) pe_int) (nomark _))
        (pss_one ps_never)
        pss_nil)
      (pss_cons (ps_asg (pe_callB call_divmod (by rfl) T.n_divmod (by decide +kernel) (pa_cons (pe_op op_add (pv 0) (pv 1)) (pa_cons (pe_glob (v := .int 1440) (by rfl) T.m_DAY_MINUTES ⟨_, rfl⟩) pa_nil))) (pg_tup rfl (pgs_cons (pg_name (i := 2) nd rfl (Or.inl rfl)) (pgs_cons (pg_name (i := 3) nd rfl (Or.inl rfl)) pgs_nil))))
      (pss_cons (ps_if (pt_not (pt_chain op_le op_lt pe_int (pv 2) (pe_def D_days_ahead (hr.mono (by decide)) (pa_cons (pe_op op_add (pe_glob (v := .int 9999) (by rfl) T.m_LAST_YEAR ⟨_, rfl⟩) pe_int) (pa_cons pe_int pa_nil)))))
        (pss_one ps_never)
        pss_nil)
      (pss_one (ps_ret (pe_joined (PJ.cons (pe_fmt (pe_def D_day_text (hr.mono (by decide)) (pa_cons (pv 2) pa_nil))) (PJ.cons pe_str (PJ.cons (pe_fmt (pe_def D_day_name (hr.mono (by decide)) (pa_cons (pv 2) pa_nil))) (PJ.cons pe_str (PJ.cons (pe_fmt (pe_def D_clock_text (hr.mono (by decide)) (pa_cons (pv 3) pa_nil))) (PJ.cons pe_str (PJ.cons (pe_fmt (pe_def D_ahead_text (hr.mono (by decide)) (pa_cons (pv 1) pa_nil))) PJ.nil)))))))))))))), ?_⟩
    dsimp only [gName, tSeq]
    obtain ⟨y1, y2, m1, m2, d1, d2⟩ := hD
    have hD : Date y m d := ⟨y1, y2, m1, m2, d1, d2⟩
    have hin := daysA_in y m1 m2 d1 d2
    have hsm := daysA_small (y := y) (by omega)
    have hlast := daysA_years (show (y : Int) + 1 ≤ 10000 by omega)
    have hdef : dayNo y m d = daysA y m + d - 1 := rfl
    refine ifT false (fun k q1 => orT false false (fun k q1 => notT true (fun k q2 => ⟨_, rfl, _, rfl, fun H2 s2 => ⟨true, rfl, q2 _ s2⟩⟩) q1) (fun _ H1 k s1 q1 => notT true (fun k q2 => ⟨_, rfl, _, rfl, fun H2 s2 => ⟨true, rfl, q2 _ s2⟩⟩) q1) q1) (fun h => nomatch h) (fun _ H1 s1 => ?_)
    dsimp only [tNext, tSeq]
    refine ifT false (fun k q1 => ⟨.int a, rfl, a, rfl, 14, 60, rfl, rfl, .inl ⟨by decide, by decide⟩, _, _, rfl, rfl, _, rfl, TellB.eq (decide_eq_false (by split <;> omega)) q1 _ (Same.refl _)⟩) (fun h => nomatch h) (fun _ H2 s2 => ?_)
    dsimp only [tNext, tSeq]
    have eD : (1440 * dayNo y m d + l - a + a) / 1440 = dayNo y m d := by omega
    have eL : (1440 * dayNo y m d + l - a + a) % 1440 = ((l : Nat) : Int) := by omega
    refine ⟨_, rfl, _, rfl, _, _, rfl, rfl, _, _, rfl, ⟨by decide, by decide⟩, fun p hp => ⟨p, _, rfl, .inl (.inl upd_same), rfl, _, _, rfl, _, _, rfl, rfl, ?_⟩⟩
    dsimp only
    rw [eD, eL]
    have s3 := (s1.trans s2).trans (same_upd (o := .tup [.int (dayNo y m d), .int ((l : Nat) : Int)]) hp)
    generalize upd H2 p (.tup [.int (dayNo y m d), .int ((l : Nat) : Int)]) = H3 at *
    refine ifT false (fun k q1 => notT true (fun k q2 => ⟨_, rfl, _, _, rfl, rfl, true, congrArg V.bl (decide_eq_true (by omega)), iteT ⟨9999, 1, rfl, rfl, 10000, 1, rfl, by decide, by decide, fun H4 s4 => ⟨_, _, rfl, rfl, _, rfl, TellB.eq (decide_eq_true (by omega)) q2 _ s4⟩⟩⟩) q1) (fun h => nomatch h) (fun _ H4 s4 => ?_)
    dsimp only [tNext]
    have n1 : (SX.S (dateL y m d)).length = 10 := by rw [TL.len_tl]; rfl
    have n2 : (dayNames.getD (dayNo y m d % 7).toNat Str.empty).length ≤ 3 := by
      have : ∀ i, i < 7 → (dayNames.getD i Str.empty).length ≤ 3 := by decide +kernel
      exact this _ (by omega)
    have n3 : (SX.S (two (l / 60) ++ [58] ++ two (l % 60))).length = 5 := by rw [TL.len_tl]; rfl
    have n4 : (SX.S (aheadL a)).length = 5 := by rw [TL.len_tl]; rfl
    have n5 : (Str.ofString " ").length = 1 := by decide +kernel
    have n0 : Str.empty.length = 0 := rfl
    refine ⟨_, rfl, y, m, d, rfl, hD, fun H5 s5 => .inl ⟨_, rfl, by rw [n1, sizeLine_eq]; decide, _, rfl, by simp only [len_app, sizeLine_eq]; omega, Str.ofString " ", rfl, by simp only [len_app, sizeLine_eq]; omega, ?_⟩⟩
    refine ⟨_, rfl, _, rfl, fun H6 s6 => .inl ⟨_, rfl, by rw [sizeLine_eq]; omega, _, rfl, by simp only [len_app, sizeLine_eq]; omega, Str.ofString " ", rfl, by simp only [len_app, sizeLine_eq]; omega, ?_⟩⟩
    refine ⟨_, rfl, l, rfl, hl, fun H7 s7 => .inl ⟨_, rfl, by rw [n3, sizeLine_eq]; decide, _, rfl, by simp only [len_app, sizeLine_eq]; omega, Str.ofString " ", rfl, by simp only [len_app, sizeLine_eq]; omega, ?_⟩⟩
    refine ⟨_, rfl, a, rfl, ha, fun H8 s8 => .inl ⟨_, rfl, by rw [n4, sizeLine_eq]; decide, _, rfl, by simp only [len_app, sizeLine_eq]; omega, ?_⟩⟩
    have e : Str.empty ++ SX.S (dateL y m d) ++ Str.ofString " " ++ dayNames.getD (dayNo y m d % 7).toNat Str.empty ++ Str.ofString " " ++ SX.S (two (l / 60) ++ [58] ++ two (l % 60)) ++ Str.ofString " " ++ SX.S (aheadL a) = SX.S (timeL y m d l a) := TL.ext_tl (by simp only [TL.tl_append, show TL.tl Str.empty = [] from rfl, show TL.tl (Str.ofString " ") = [32] by decide +kernel]; rfl)
    have := q _ (((((s3.trans s4).trans s5).trans s6).trans s7).trans s8)
    rw [← e] at this
    exact this
end
end K13

namespace K13
open PySem PySem.Spec PyProof.Rows L2 LH
section
variable {P : Program} {w : World} {K : PySem.W.Frag} {mg : Str → Option Value} {base : Heap} {tk : Nat → Tok} {ca : Nat → Addr} {dn md C : Addr}
/-! ### figures in their bounds -/
theorem lt2 (a b c d : Nat) : [a, b] < [c, d] ↔ a < c ∨ (a = c ∧ b < d) := by
  rw [List.cons_lt_cons_iff, List.cons_lt_cons_iff]
  simp
theorem fits2 {L U v : Nat} (h1 : L ≤ v) (h2 : v ≤ U) (h3 : U < 100) : Fits (two L) (two U) (two v) := by
  refine ⟨rfl, rfl, by show 1 ≤ 2; decide, by show 2 ≤ 4; decide, fun d hd => ?_, fun j hj => ?_⟩
  · simp only [two, List.mem_cons, List.not_mem_nil, or_false] at hd
    omega
  · have : j = 0 ∨ j = 1 := by have : (two v).length = 2 := rfl; omega
    rcases this with rfl | rfl
    · show ¬ [48 + v / 10] < [48 + L / 10] ∧ ¬ [48 + U / 10] < [48 + v / 10]
      simp only [List.cons_lt_cons_iff, List.not_lt_nil, and_false, or_false]
      omega
    · show ¬ [48 + v / 10, 48 + v % 10] < [48 + L / 10, 48 + L % 10] ∧ ¬ [48 + U / 10, 48 + U % 10] < [48 + v / 10, 48 + v % 10]
      rw [lt2, lt2]
      omega
theorem val2 {v : Nat} (h : v < 100) : NumText.digitsVal (two v) = v := by
  simp [NumText.digitsVal, two]
  omega
theorem val4 {v : Nat} (h : v < 10000) : NumText.digitsVal (four v) = v := by
  simp [NumText.digitsVal, four]
  omega
theorem fits4 {v : Nat} (h1 : 1 ≤ v) (h2 : v ≤ 9999) : Fits [48, 48, 48, 49] [57, 57, 57, 57] (four v) := by
  refine ⟨rfl, rfl, by show 1 ≤ 4; decide, by show 4 ≤ 4; decide, fun d hd => ?_, fun j hj => ?_⟩
  · simp only [four, List.mem_cons, List.not_mem_nil, or_false] at hd
    omega
  · have : j = 0 ∨ j = 1 ∨ j = 2 ∨ j = 3 := by have : (four v).length = 4 := rfl; omega
    rcases this with rfl | rfl | rfl | rfl <;> simp only [four, List.take_succ_cons, List.take_zero, List.cons_lt_cons_iff, List.not_lt_nil, and_false, or_false] <;> omega
theorem tl_dash : TL.tl (Str.ofString "-") = [45] := by decide +kernel
theorem tl_colon : TL.tl (Str.ofString ":") = [58] := by decide +kernel
theorem tl_blank : TL.tl (Str.ofString " ") = [32] := by decide +kernel
theorem tl_0001 : TL.tl (Str.ofString "0001") = [48, 48, 48, 49] := by decide +kernel
theorem tl_9999 : TL.tl (Str.ofString (toString (9999 : Int))) = [57, 57, 57, 57] := by decide +kernel
theorem tl_00 : TL.tl (Str.ofString "00") = two 0 := by decide +kernel
theorem tl_01 : TL.tl (Str.ofString "01") = two 1 := by decide +kernel
theorem tl_23 : TL.tl (Str.ofString "23") = two 23 := by decide +kernel
theorem tl_59 : TL.tl (Str.ofString "59") = two 59 := by decide +kernel
theorem tl_12 : TL.tl (Str.ofString (toString (12 : Int))) = two 12 := by decide +kernel
theorem tl_14 : TL.tl (Str.ofString (toString (14 : Int))) = two 14 := by decide +kernel
theorem tl_days {v : Int} (h1 : 28 ≤ v) (h2 : v ≤ 31) : TL.tl (Str.ofString (toString v)) = two v.toNat := by
  have : v = 28 ∨ v = 29 ∨ v = 30 ∨ v = 31 := by omega
  rcases this with rfl | rfl | rfl | rfl <;> decide +kernel
theorem small_log {i : Int} (h : i.natAbs < 1920) : i.natAbs.log2 < 1920 := Nat.lt_of_le_of_lt (Nat.log2_le_self _) h
/-! ### read_day -/
abbrev s_read_day : Stmt := topS 20
abbrev N_read_day : List Str := ["reader", "year", "month", "day"]
abbrev P_read_day : List Str := ["reader"]
theorem sc_read_day : FnScope N_read_day ["reader"] (defScope s_read_day) := ⟨rfl, rfl, rfl, by decide +kernel, rfl, by decide +kernel, by decide +kernel⟩
def sp_readday (C : Addr) : Sp := fun vs H Q _ => ∃ (a dx : Addr) (z : Str) (y m d : Nat) (rest : List Nat), vs = [.ref a] ∧ Rdr H C a dx z 0 ∧ z.length ≤ 100000 ∧ TL.tl z = dateL y m d ++ rest ∧ Date y m d ∧ ∀ H', SameBut a H H' → Rdr H' C a dx z 10 → Q (.int (dayNo y m d)) H'
theorem ok_readday {fN fW fI fA f : Addr} {fdN fdW fdI fdA fd : FuncData} (F : Fun K "read_day" "read_day" s_read_day f fd) (T : Tx K mg tk dn md)
    (M_Reader_number : DefM P w K mg base C "number" 3 fN fdN P_Reader_number (sp_number K C)) (M_Reader_word : DefM P w K mg base C "word" 3 fW fdW P_Reader_word (sp_word K C))
    (D_days_in : Def P w K mg base "days_in" 2 fI fdI P_days_in sp_daysin) (D_days_ahead : Def P w K mg base "days_ahead" 3 fA fdA P_days_ahead sp_daysA) : FnOk P w K mg base CX0 4 f fd P_read_day (sp_readday C) := by
  refine F.ok sc_read_day (fun vs H Q E h => ?_) (fun cdv A outer s H vs Q E hr h => ?_)
  · obtain ⟨a, dx, z, y, m, d, rest, rfl, _⟩ := h
    rfl
  · have nd := sc_read_day.nd
    obtain ⟨a, dx, z, y, m, d, rest, rfl, e, hz, hd, hD, q⟩ := h
    refine ⟨_, (pss_cons (ps_set (i := 1) nd rfl (.inl rfl) (pe_meth (pv 0) M_Reader_number.c M_Reader_number.hm M_Reader_number.ok (hr.mono (by decide)) M_Reader_number.bd .nil pass0 (pa_cons pe_str (pa_cons (pe_callTy call_str_int (by rfl) T.n_str (by decide +kernel) (pa_cons (pe_glob (v := .int 9999) (by rfl) T.m_LAST_YEAR ⟨_, rfl⟩) pa_nil)) pa_nil))))
      (pss_cons (ps_expr (pe_meth (pv 0) M_Reader_word.c M_Reader_word.hm M_Reader_word.ok (hr.mono (by decide)) M_Reader_word.bd .nil pass0 (pa_cons pe_str pa_nil)))
      (pss_cons (ps_set (i := 2) nd rfl (.inl rfl) (pe_meth (pv 0) M_Reader_number.c M_Reader_number.hm M_Reader_number.ok (hr.mono (by decide)) M_Reader_number.bd .nil pass0 (pa_cons pe_str (pa_cons (pe_callTy call_str_int (by rfl) T.n_str (by decide +kernel) (pa_cons (pe_callB (cLen K) (by rfl) T.n_len (by decide +kernel) (pa_cons (pe_glob (v := .ref md) (by rfl) T.m_MONTH_DAYS rfl) pa_nil)) pa_nil)) pa_nil))))
      (pss_cons (ps_expr (pe_meth (pv 0) M_Reader_word.c M_Reader_word.hm M_Reader_word.ok (hr.mono (by decide)) M_Reader_word.bd .nil pass0 (pa_cons pe_str pa_nil)))
      (pss_cons (ps_set (i := 3) nd rfl (.inl rfl) (pe_meth (pv 0) M_Reader_number.c M_Reader_number.hm M_Reader_number.ok (hr.mono (by decide)) M_Reader_number.bd .nil pass0 (pa_cons pe_str (pa_cons (pe_callTy call_str_int (by rfl) T.n_str (by decide +kernel) (pa_cons (pe_def D_days_in (hr.mono (by decide)) (pa_cons (pv 1) (pa_cons (pv 2) pa_nil))) pa_nil)) pa_nil))))
      (pss_one (ps_ret (pe_op op_sub (pe_op op_add (pe_def D_days_ahead (hr.mono (by decide)) (pa_cons (pv 1) (pa_cons (pv 2) pa_nil))) (pv 3)) pe_int)))))))), ?_⟩
    dsimp only [gName, tSeq]
    obtain ⟨y1, y2, m1, m2, d1, d2⟩ := hD
    refine ⟨.ref a, rfl, a, dx, _, rfl, e, rfl, 9999, rfl, by decide +kernel, a, dx, z, _, _, 0, four y, [45] ++ two m ++ [45] ++ two d ++ rest, rfl, e, hz, by rw [hd]; rfl, by rw [tl_0001, tl_9999]; exact fits4 y1 y2, fun H1 s1 e1 => ?_⟩
    rw [val4 (by omega)]
    refine ⟨.ref a, rfl, a, dx, _, rfl, e1, rfl, a, dx, z, Str.ofString "-", 4, two m ++ [45] ++ two d ++ rest, rfl, e1, hz, by rw [hd, tl_dash]; rfl, fun H2 s2 e2 => ?_⟩
    rw [tl_dash] at e2
    refine ⟨.ref a, rfl, a, dx, _, rfl, e2, rfl, md, _, rfl, .inr (T.t_MONTH_DAYS _), 12, rfl, by decide +kernel, a, dx, z, _, _, 5, two m, [45] ++ two d ++ rest, rfl, e2, hz, by rw [hd]; rfl, by rw [tl_01, tl_12]; exact fits2 m1 m2 (by decide), fun H3 s3 e3 => ?_⟩
    rw [val2 (by omega)]
    refine ⟨.ref a, rfl, a, dx, _, rfl, e3, rfl, a, dx, z, Str.ofString "-", 7, two d ++ rest, rfl, e3, hz, by rw [hd, tl_dash]; rfl, fun H4 s4 e4 => ?_⟩
    rw [tl_dash] at e4
    have hdv := daysIn_ge y m
    refine ⟨.ref a, rfl, a, dx, _, rfl, e4, rfl, .int y, rfl, .int m, rfl, (y : Int), m, rfl, m1, m2, fun H5 s5 => ⟨_, rfl, small_log (by omega), a, dx, z, _, _, 8, two d, rest, rfl, s5 _ _ e4, hz, by rw [hd]; rfl, by rw [tl_01, tl_days hdv.1 hdv.2]; exact fits2 d1 (by omega) (by omega), fun H6 s6 e6 => ?_⟩⟩
    rw [val2 (by omega)]
    refine ⟨.int y, rfl, .int m, rfl, (y : Int), m, rfl, m1, by omega, fun H7 s7 => ⟨_, rfl, _, _, rfl, rfl, _, 1, rfl, rfl, ?_⟩⟩
    exact q _ ((((((s1.trans s2).trans s3).trans s4).trans (SameBut.of s5)).trans s6).trans (SameBut.of s7)) (s7 _ _ e6)
/-! ### read_clock -/
abbrev s_read_clock : Stmt := topS 21
abbrev N_read_clock : List Str := ["reader", "hour"]
abbrev P_read_clock : List Str := ["reader"]
theorem sc_read_clock : FnScope N_read_clock ["reader"] (defScope s_read_clock) := ⟨rfl, rfl, rfl, by decide +kernel, rfl, by decide +kernel, by decide +kernel⟩
def sp_readclock (C : Addr) : Sp := fun vs H Q _ => ∃ (a dx : Addr) (z : Str) (n l : Nat) (rest : List Nat), vs = [.ref a] ∧ Rdr H C a dx z n ∧ z.length ≤ 100000 ∧ (TL.tl z).drop n = two (l / 60) ++ [58] ++ two (l % 60) ++ rest ∧ l < 1440 ∧ ∀ H', SameBut a H H' → Rdr H' C a dx z (n + 5) → Q (.int (l : Nat)) H'
theorem ok_readclock {fN fW f : Addr} {fdN fdW fd : FuncData} (F : Fun K "read_clock" "read_clock" s_read_clock f fd)
    (M_Reader_number : DefM P w K mg base C "number" 3 fN fdN P_Reader_number (sp_number K C)) (M_Reader_word : DefM P w K mg base C "word" 3 fW fdW P_Reader_word (sp_word K C)) : FnOk P w K mg base CX0 4 f fd P_read_clock (sp_readclock C) := by
  refine F.ok sc_read_clock (fun vs H Q E h => ?_) (fun cdv A outer s H vs Q E hr h => ?_)
  · obtain ⟨a, dx, z, n, l, rest, rfl, _⟩ := h
    rfl
  · have nd := sc_read_clock.nd
    obtain ⟨a, dx, z, n, l, rest, rfl, e, hz, hd, hl, q⟩ := h
    refine ⟨_, (pss_cons (ps_set (i := 1) nd rfl (.inl rfl) (pe_meth (pv 0) M_Reader_number.c M_Reader_number.hm M_Reader_number.ok (hr.mono (by decide)) M_Reader_number.bd .nil pass0 (pa_cons pe_str (pa_cons pe_str pa_nil))))
      (pss_cons (ps_expr (pe_meth (pv 0) M_Reader_word.c M_Reader_word.hm M_Reader_word.ok (hr.mono (by decide)) M_Reader_word.bd .nil pass0 (pa_cons pe_str pa_nil)))
      (pss_one (ps_ret (pe_op op_add (pe_op op_mul (pv 1) pe_int) (pe_meth (pv 0) M_Reader_number.c M_Reader_number.hm M_Reader_number.ok (hr.mono (by decide)) M_Reader_number.bd .nil pass0 (pa_cons pe_str (pa_cons pe_str pa_nil)))))))), ?_⟩
    dsimp only [gName, tSeq]
    have hdr : ∀ k, (TL.tl z).drop (n + k) = (two (l / 60) ++ [58] ++ two (l % 60) ++ rest).drop k := fun k => by rw [← List.drop_drop, hd]
    refine ⟨.ref a, rfl, a, dx, _, rfl, e, rfl, a, dx, z, _, _, n, two (l / 60), [58] ++ two (l % 60) ++ rest, rfl, e, hz, by rw [hd]; rfl, by rw [tl_00, tl_23]; exact fits2 (by omega) (by omega) (by decide), fun H1 s1 e1 => ?_⟩
    rw [val2 (by omega)]
    refine ⟨.ref a, rfl, a, dx, _, rfl, e1, rfl, a, dx, z, Str.ofString ":", n + 2, two (l % 60) ++ rest, rfl, e1, hz, by rw [hdr, tl_colon]; rfl, fun H2 s2 e2 => ?_⟩
    rw [tl_colon] at e2
    refine ⟨_, rfl, _, 60, rfl, rfl, .inr ⟨by decide, by decide⟩, .ref a, rfl, a, dx, _, rfl, e2, rfl, a, dx, z, _, _, n + 3, two (l % 60), rest, rfl, e2, hz, by rw [hdr]; rfl, by rw [tl_00, tl_59]; exact fits2 (by omega) (by omega) (by decide), fun H3 s3 e3 => ?_⟩
    rw [val2 (by omega)]
    refine ⟨_, _, rfl, rfl, ?_⟩
    have := q _ ((s1.trans s2).trans s3) e3
    rw [show ((l : Nat) : Int) = ((l / 60 : Nat) : Int) * 60 + ((l % 60 : Nat) : Int) by omega] at this
    exact this
/-! ### read_ahead -/
abbrev s_read_ahead : Stmt := topS 22
abbrev N_read_ahead : List Str := ["reader", "behind", "hours", "low", "high", "minutes"]
abbrev P_read_ahead : List Str := ["reader"]
theorem sc_read_ahead : FnScope N_read_ahead ["reader"] (defScope s_read_ahead) := ⟨rfl, rfl, rfl, by decide +kernel, rfl, by decide +kernel, by decide +kernel⟩
def sp_readahead (C : Addr) : Sp := fun vs H Q _ => ∃ (a dx : Addr) (z : Str) (n : Nat) (i : Int) (rest : List Nat), vs = [.ref a] ∧ Rdr H C a dx z n ∧ z.length ≤ 100000 ∧ (TL.tl z).drop n = aheadL i ++ rest ∧ i.natAbs ≤ 840 ∧ ∀ H', SameBut a H H' → Rdr H' C a dx z (n + 5) → Q (.int i) H'
theorem ok_readahead {fN fO f : Addr} {fdN fdO fd : FuncData} (F : Fun K "read_ahead" "read_ahead" s_read_ahead f fd) (T : Tx K mg tk dn md)
    (M_Reader_number : DefM P w K mg base C "number" 3 fN fdN P_Reader_number (sp_number K C)) (M_Reader_one_of : DefM P w K mg base C "one_of" 2 fO fdO P_Reader_one_of (sp_one K C)) : FnOk P w K mg base CX0 4 f fd P_read_ahead (sp_readahead C) := by
  refine F.ok sc_read_ahead (fun vs H Q E h => ?_) (fun cdv A outer s H vs Q E hr h => ?_)
  · obtain ⟨a, dx, z, n, i, rest, rfl, _⟩ := h
    rfl
  · have nd := sc_read_ahead.nd
    obtain ⟨a, dx, z, n, i, rest, rfl, e, hz, hd, hi, q⟩ := h
    refine ⟨_, (pss_cons (ps_set (i := 1) nd rfl (.inl rfl) (pe_cmpR op_eq (pe_meth (pv 0) M_Reader_one_of.c M_Reader_one_of.hm M_Reader_one_of.ok (hr.mono (by decide)) M_Reader_one_of.bd .nil pass0 (pa_cons pe_str pa_nil)) pe_str (nomark _)))
      (pss_cons (ps_set (i := 2) nd rfl (.inl rfl) (pe_meth (pv 0) M_Reader_number.c M_Reader_number.hm M_Reader_number.ok (hr.mono (by decide)) M_Reader_number.bd .nil pass0 (pa_cons pe_str (pa_cons (pe_callTy call_str_int (by rfl) T.n_str (by decide +kernel) (pa_cons (pe_glob (v := .int 14) (by rfl) T.m_MOST_HOURS ⟨_, rfl⟩) pa_nil)) pa_nil))))
      (pss_cons (ps_set (i := 3) nd rfl (.inl rfl) (pe_ifExp (PW.pt (pw_and (pt_val (pv 1)) (pw_and1 (pt_cmpR op_eq (pv 2) pe_int (nomark _))))) pe_str pe_str))
      (pss_cons (ps_set (i := 4) nd rfl (.inl rfl) (pe_ifExp (pt_cmpR op_eq (pv 2) (pe_glob (v := .int 14) (by rfl) T.m_MOST_HOURS ⟨_, rfl⟩) (nomark _)) pe_str pe_str))
      (pss_cons (ps_set (i := 5) nd rfl (.inl rfl) (pe_op op_add (pe_op op_mul (pv 2) pe_int) (pe_meth (pv 0) M_Reader_number.c M_Reader_number.hm M_Reader_number.ok (hr.mono (by decide)) M_Reader_number.bd .nil pass0 (pa_cons (pv 3) (pa_cons (pv 4) pa_nil)))))
      (pss_one (ps_ret (pe_ifExp (pt_val (pv 1)) (pe_un un_neg (pv 5)) (pv 5))))))))), ?_⟩
    dsimp only [gName, tSeq]
    have hdr : ∀ k, (TL.tl z).drop (n + k) = (aheadL i ++ rest).drop k := fun k => by rw [← List.drop_drop, hd]
    have hpm : TL.tl (Str.ofString "+-") = [43, 45] := by decide +kernel
    have hc : (TL.tl z)[n]? = some (if i < 0 then 45 else 43) := by
      have := congrArg (fun l => l[0]?) hd
      simp only [List.getElem?_drop] at this
      exact this
    have hbe : decide (oneV (if i < 0 then 45 else 43) = V.str (Str.ofString "-")) = decide (i < 0) := by
      rw [show Str.ofString "-" = ⟨#[45]⟩ from TL.ext_tl (by decide +kernel)]
      split
      · rename_i h; rw [decide_eq_true h]; rfl
      · rename_i h; rw [decide_eq_false h]; rfl
    refine ⟨.ref a, rfl, a, dx, _, rfl, e, rfl, a, dx, z, n, _, _, rfl, e, hz, hc, .inl ⟨_, rfl, by rw [hpm]; split <;> simp⟩, fun H1 s1 e1 => ⟨rfl, ?_⟩⟩
    rw [hbe]
    refine ⟨.ref a, rfl, a, dx, _, rfl, e1, rfl, 14, rfl, by decide +kernel, a, dx, z, _, _, n + 1, two (i.natAbs / 60), two (i.natAbs % 60) ++ rest, rfl, e1, hz, by rw [hdr]; rfl, by rw [tl_00, tl_14]; exact fits2 (by omega) (by omega) (by decide), fun H2 s2 e2 => ?_⟩
    rw [val2 (by omega)]
    have fin : ∀ (lo hi : V) (H4 : Hp), SameBut a H H4 → Rdr H4 C a dx z (n + 5) → tOp (rI0 fun i j => V.int (i + j)) (tC (.int (((i.natAbs / 60 : Nat) : Int) * 60))) (tC (.int ((i.natAbs % 60 : Nat) : Int))) [some (.ref a), some (.bl (decide (i < 0))), some (.int ((i.natAbs / 60 : Nat) : Int)), some lo, some hi, none] H4 (fun x H1 => gName 5 x [some (.ref a), some (.bl (decide (i < 0))), some (.int ((i.natAbs / 60 : Nat) : Int)), some lo, some hi, none] H1 (tRet (tIf (tB (tVar 1)) (tUn (rU fun i => V.int (-i)) (tVar 5)) (tVar 5)) { nx := fun x H' => Q V.non H', rt := Q })) := by
      intro lo hi H4 s4 e4
      refine ⟨_, _, rfl, rfl, _, rfl, _, rfl, ?_⟩
      by_cases h0 : i < 0
      · rw [decide_eq_true h0]
        refine iteT ⟨_, rfl, _, rfl, ?_⟩
        have := q _ s4 e4
        rw [show i = -(((i.natAbs / 60 : Nat) : Int) * 60 + ((i.natAbs % 60 : Nat) : Int)) by omega] at this
        exact this
      · rw [decide_eq_false h0]
        refine iteF ⟨_, rfl, ?_⟩
        have := q _ s4 e4
        rw [show i = ((i.natAbs / 60 : Nat) : Int) * 60 + ((i.natAbs % 60 : Nat) : Int) by omega] at this
        exact this
    dsimp only [gName, tSeq, tAsg, tIf]
    by_cases ha : i < 0 ∧ i.natAbs / 60 = 0
    · have hb : ¬ i.natAbs / 60 = 14 := by omega
      refine andT (decide (i < 0)) (decide (i.natAbs / 60 = 0)) (fun k q1 => ⟨_, rfl, _, rfl, q1 _ (Same.refl _)⟩) (fun _ H3 k s3 q1 => ⟨_, rfl, rfl, _, rfl, ?_⟩) (fun H3 s3 => ?_)
      · rw [vint_dec, show decide (((i.natAbs / 60 : Nat) : Int) = 0) = decide (i.natAbs / 60 = 0) from decide_eq_decide.mpr (by omega)]
        exact q1 _ (Same.refl _)
      rw [show (decide (i < 0) && decide (i.natAbs / 60 = 0)) = true by rw [decide_eq_true ha.1, decide_eq_true ha.2]; rfl]
      refine iteT ⟨_, rfl, rfl, _, rfl, ?_⟩
      rw [vint_dec, decide_eq_false (show ¬ ((i.natAbs / 60 : Nat) : Int) = 14 by omega)]
      refine iteF ?_
      have e3 := s3 _ _ e2
      refine ⟨_, rfl, _, 60, rfl, rfl, .inr ⟨by decide, by decide⟩, .ref a, rfl, a, dx, _, rfl, e3, rfl, _, rfl, _, rfl, a, dx, z, Str.ofString "01", Str.ofString "59", n + 3, two (i.natAbs % 60), rest, rfl, e3, hz, by rw [hdr]; rfl, by rw [tl_01, tl_59]; exact fits2 (by omega) (by omega) (by decide), fun H4 s4 e4 => ?_⟩
      rw [val2 (by omega)]
      exact fin _ _ _ ((s1.trans s2).trans (SameBut.of s3) |>.trans s4) e4
    by_cases hb : i.natAbs / 60 = 14
    · have : True := trivial
      refine andT (decide (i < 0)) (decide (i.natAbs / 60 = 0)) (fun k q1 => ⟨_, rfl, _, rfl, q1 _ (Same.refl _)⟩) (fun _ H3 k s3 q1 => ⟨_, rfl, rfl, _, rfl, ?_⟩) (fun H3 s3 => ?_)
      · rw [vint_dec, show decide (((i.natAbs / 60 : Nat) : Int) = 0) = decide (i.natAbs / 60 = 0) from decide_eq_decide.mpr (by omega)]
        exact q1 _ (Same.refl _)
      rw [show (decide (i < 0) && decide (i.natAbs / 60 = 0)) = false by cases h : (decide (i < 0) && decide (i.natAbs / 60 = 0)) with | false => rfl | true => obtain ⟨h1, h2⟩ := Bool.and_eq_true_iff.mp h; exact absurd ⟨of_decide_eq_true h1, of_decide_eq_true h2⟩ ha]
      refine iteF ⟨_, rfl, rfl, _, rfl, ?_⟩
      rw [vint_dec, decide_eq_true (show ((i.natAbs / 60 : Nat) : Int) = 14 by omega)]
      refine iteT ?_
      have e3 := s3 _ _ e2
      refine ⟨_, rfl, _, 60, rfl, rfl, .inr ⟨by decide, by decide⟩, .ref a, rfl, a, dx, _, rfl, e3, rfl, _, rfl, _, rfl, a, dx, z, Str.ofString "00", Str.ofString "00", n + 3, two (i.natAbs % 60), rest, rfl, e3, hz, by rw [hdr]; rfl, by rw [tl_00]; exact fits2 (by omega) (by omega) (by decide), fun H4 s4 e4 => ?_⟩
      rw [val2 (by omega)]
      exact fin _ _ _ ((s1.trans s2).trans (SameBut.of s3) |>.trans s4) e4
    · have : True := trivial
      refine andT (decide (i < 0)) (decide (i.natAbs / 60 = 0)) (fun k q1 => ⟨_, rfl, _, rfl, q1 _ (Same.refl _)⟩) (fun _ H3 k s3 q1 => ⟨_, rfl, rfl, _, rfl, ?_⟩) (fun H3 s3 => ?_)
      · rw [vint_dec, show decide (((i.natAbs / 60 : Nat) : Int) = 0) = decide (i.natAbs / 60 = 0) from decide_eq_decide.mpr (by omega)]
        exact q1 _ (Same.refl _)
      rw [show (decide (i < 0) && decide (i.natAbs / 60 = 0)) = false by cases h : (decide (i < 0) && decide (i.natAbs / 60 = 0)) with | false => rfl | true => obtain ⟨h1, h2⟩ := Bool.and_eq_true_iff.mp h; exact absurd ⟨of_decide_eq_true h1, of_decide_eq_true h2⟩ ha]
      refine iteF ⟨_, rfl, rfl, _, rfl, ?_⟩
      rw [vint_dec, decide_eq_false (show ¬ ((i.natAbs / 60 : Nat) : Int) = 14 by omega)]
      refine iteF ?_
      have e3 := s3 _ _ e2
      refine ⟨_, rfl, _, 60, rfl, rfl, .inr ⟨by decide, by decide⟩, .ref a, rfl, a, dx, _, rfl, e3, rfl, _, rfl, _, rfl, a, dx, z, Str.ofString "00", Str.ofString "59", n + 3, two (i.natAbs % 60), rest, rfl, e3, hz, by rw [hdr]; rfl, by rw [tl_00, tl_59]; exact fits2 (by omega) (by omega) (by decide), fun H4 s4 e4 => ?_⟩
      rw [val2 (by omega)]
      exact fin _ _ _ ((s1.trans s2).trans (SameBut.of s3) |>.trans s4) e4
end
end K13

namespace K13
open PySem PySem.Spec PyProof.Rows L2 LH
section
variable {P : Program} {w : World} {K : PySem.W.Frag} {mg : Str → Option Value} {base : Heap} {tk : Nat → Tok} {ca : Nat → Addr} {dn md C : Addr}
def Pair (H : Hp) (i j : Int) (Q : VK) : Prop := ∀ H' p, Same H H' → H p = none → H' p = some (.tup [.int i, .int j]) → Q (.ref p) H'
theorem name3 : ∀ i, i < 7 → ∃ x1 x2 x3, TL.tl (dayNames.getD i Str.empty) = [x1, x2, x3] := by
  have : ∀ i, i < 7 → (TL.tl (dayNames.getD i Str.empty)).length = 3 := by decide +kernel
  intro i hi
  have h := this i hi
  generalize TL.tl (dayNames.getD i Str.empty) = l at h
  match l, h with
  | [x1, x2, x3], _ => exact ⟨x1, x2, x3, rfl⟩
theorem fresh_of {a p : Addr} {H H' : Hp} {o : HO} (s : SameBut a H H') (e : H' a = some o) (hp : H' p = none) : H p = none := by
  cases h : H p with
  | none => rfl
  | some u =>
    by_cases hpa : p = a
    · rw [hpa, e] at hp; exact nomatch hp
    · rw [s _ _ hpa h] at hp; exact nomatch hp
/-! ### read_time -/
abbrev s_read_time : Stmt := topS 19
abbrev N_read_time : List Str := ["reader", "day", "clock", "ahead"]
abbrev P_read_time : List Str := ["reader"]
theorem sc_read_time : FnScope N_read_time ["reader"] (defScope s_read_time) := ⟨rfl, rfl, rfl, by decide +kernel, rfl, by decide +kernel, by decide +kernel⟩
def sp_readtime (C : Addr) : Sp := fun vs H Q _ => ∃ (a dx : Addr) (z : Str) (y m d l : Nat) (i : Int), vs = [.ref a] ∧ Rdr H C a dx z 0 ∧ TL.tl z = timeL y m d l i ∧ Date y m d ∧ l < 1440 ∧ i.natAbs ≤ 840 ∧
  ∀ H' p, SameBut a H H' → H p = none → H' p = some (.tup [.int (1440 * dayNo y m d + l - i), .int i]) → Q (.ref p) H'
theorem ok_readtime {fD fW fN fC fA fE f : Addr} {fdD fdW fdN fdC fdA fdE fd : FuncData} (F : Fun K "read_time" "read_time" s_read_time f fd) (T : Tx K mg tk dn md)
    (D_read_day : Def P w K mg base "read_day" 4 fD fdD P_read_day (sp_readday C)) (M_Reader_word : DefM P w K mg base C "word" 3 fW fdW P_Reader_word (sp_word K C)) (D_day_name : Def P w K mg base "day_name" 1 fN fdN P_day_name sp_dayname)
    (D_read_clock : Def P w K mg base "read_clock" 4 fC fdC P_read_clock (sp_readclock C)) (D_read_ahead : Def P w K mg base "read_ahead" 4 fA fdA P_read_ahead (sp_readahead C)) (M_Reader_end : DefM P w K mg base C "end" 1 fE fdE P_Reader_end (sp_end C)) : FnOk P w K mg base CX0 5 f fd P_read_time (sp_readtime C) := by
  refine F.ok sc_read_time (fun vs H Q E h => ?_) (fun cdv A outer s H vs Q E hr h => ?_)
  · obtain ⟨a, dx, z, y, m, d, l, i, rfl, _⟩ := h
    rfl
  · have nd := sc_read_time.nd
    obtain ⟨a, dx, z, y, m, d, l, i, rfl, e, hd, hD, hl, hi, q⟩ := h
    refine ⟨_, (pss_cons (ps_set (i := 1) nd rfl (.inl rfl) (pe_def D_read_day (hr.mono (by decide)) (pa_cons (pv 0) pa_nil)))
      (pss_cons (ps_expr (pe_meth (pv 0) M_Reader_word.c M_Reader_word.hm M_Reader_word.ok (hr.mono (by decide)) M_Reader_word.bd .nil pass0 (pa_cons (pe_joined (PJ.cons pe_str (PJ.cons (pe_fmt (pe_def D_day_name (hr.mono (by decide)) (pa_cons (pv 1) pa_nil))) (PJ.cons pe_str PJ.nil)))) pa_nil)))
      (pss_cons (ps_set (i := 2) nd rfl (.inl rfl) (pe_def D_read_clock (hr.mono (by decide)) (pa_cons (pv 0) pa_nil)))
      (pss_cons (ps_expr (pe_meth (pv 0) M_Reader_word.c M_Reader_word.hm M_Reader_word.ok (hr.mono (by decide)) M_Reader_word.bd .nil pass0 (pa_cons pe_str pa_nil)))
      (pss_cons (ps_set (i := 3) nd rfl (.inl rfl) (pe_def D_read_ahead (hr.mono (by decide)) (pa_cons (pv 0) pa_nil)))
      (pss_cons (ps_expr (pe_meth0 (pv 0) M_Reader_end.c M_Reader_end.hm M_Reader_end.ok (hr.mono (by decide)) M_Reader_end.bd .nil pass0))
      (pss_one (ps_ret (pe_tup (pa_cons (pe_op op_sub (pe_op op_add (pe_op op_mul (pv 1) (pe_glob (v := .int 1440) (by rfl) T.m_DAY_MINUTES ⟨_, rfl⟩)) (pv 2)) (pv 3)) (pa_cons (pv 3) pa_nil))))))))))), ?_⟩
    dsimp only [gName, tSeq]
    have n5 : (Str.ofString " ").length = 1 := by decide +kernel
    have n0 : Str.empty.length = 0 := rfl
    obtain ⟨x1, x2, x3, hn⟩ := name3 (dayNo y m d % 7).toNat (by omega)
    have hnl : (dayNames.getD (dayNo y m d % 7).toNat Str.empty).length = 3 := by rw [TL.len_tl, hn]; rfl
    unfold timeL at hd
    rw [hn] at hd
    have hlen : (TL.tl z).length = 26 := by rw [hd]; rfl
    have hz : z.length ≤ 100000 := by rw [TL.len_tl, hlen]; decide
    refine ⟨.ref a, rfl, a, dx, z, y, m, d, [32] ++ [x1, x2, x3] ++ [32] ++ (two (l / 60) ++ [58] ++ two (l % 60)) ++ [32] ++ aheadL i, rfl, e, hz, by rw [hd]; rfl, hD, fun H1 s1 e1 => ?_⟩
    refine ⟨.ref a, rfl, a, dx, _, rfl, e1, rfl, Str.ofString " ", rfl, by rw [len_app, sizeLine_eq]; omega, _, rfl, _, rfl, fun H2 s2 => .inl ⟨_, rfl, by rw [sizeLine_eq]; omega, _, rfl, by simp only [len_app, sizeLine_eq]; omega, Str.ofString " ", rfl, by simp only [len_app, sizeLine_eq]; omega, ?_⟩⟩
    have e2 := s2 _ _ e1
    have ht : TL.tl (Str.empty ++ Str.ofString " " ++ dayNames.getD (dayNo y m d % 7).toNat Str.empty ++ Str.ofString " ") = [32, x1, x2, x3, 32] := by
      simp only [TL.tl_append, hn, tl_blank, show TL.tl Str.empty = [] from rfl]
      rfl
    refine ⟨a, dx, z, _, 10, (two (l / 60) ++ [58] ++ two (l % 60)) ++ [32] ++ aheadL i, rfl, e2, hz, by rw [hd, ht]; rfl, fun H3 s3 e3 => ?_⟩
    rw [ht] at e3
    refine ⟨.ref a, rfl, a, dx, z, 15, l, [32] ++ aheadL i, rfl, e3, hz, by rw [hd]; rfl, hl, fun H4 s4 e4 => ?_⟩
    refine ⟨.ref a, rfl, a, dx, _, rfl, e4, rfl, a, dx, z, Str.ofString " ", 20, aheadL i, rfl, e4, hz, by rw [hd, tl_blank]; rfl, fun H5 s5 e5 => ?_⟩
    rw [tl_blank] at e5
    refine ⟨.ref a, rfl, a, dx, z, 21, i, [], rfl, e5, hz, by rw [hd]; rfl, hi, fun H6 s6 e6 => ?_⟩
    refine ⟨.ref a, rfl, a, dx, _, rfl, e6, rfl, a, dx, z, rfl, by rw [hlen]; exact e6, hz, fun H7 s7 => ?_⟩
    have s : SameBut a H H7 := (((((s1.trans (SameBut.of s2)).trans s3).trans s4).trans s5).trans s6).trans (SameBut.of s7)
    have e7 := s7 _ _ e6
    refine ⟨_, rfl, _, 1440, rfl, rfl, .inr ⟨by decide, by decide⟩, _, rfl, _, _, rfl, rfl, _, rfl, _, _, rfl, rfl, _, rfl, by show 2 ≤ _; rw [sizeLine_eq]; decide, fun p hp => q _ p (s.trans (SameBut.of (same_upd hp))) (fresh_of s e7 hp) ?_⟩
    rw [upd_same, show 1440 * dayNo y m d + (l : Int) - i = dayNo y m d * 1440 + l - i by omega]
/-! ### time_of -/
abbrev s_time_of : Stmt := topS 18
abbrev N_time_of : List Str := ["text", "stop"]
abbrev P_time_of : List Str := ["text"]
theorem sc_time_of : FnScope N_time_of ["text"] (defScope s_time_of) := ⟨rfl, rfl, rfl, by decide +kernel, rfl, by decide +kernel, by decide +kernel⟩
def sp_timeof : Sp := fun vs H Q _ => ∃ (y m d l : Nat) (i : Int), vs = [.str (SX.S (timeL y m d l i))] ∧ Date y m d ∧ l < 1440 ∧ i.natAbs ≤ 840 ∧ Pair H (1440 * dayNo y m d + l - i) i Q
theorem ok_timeof {fT fI f : Addr} {fdT fdI fd : FuncData} (F : Fun K "time_of" "time_of" s_time_of f fd) (T : Tx K mg tk dn md)
    (D_read_time : Def P w K mg base "read_time" 5 fT fdT P_read_time (sp_readtime C)) (C_Reader : DefC P w K mg base "Reader" C 1 fI fdI P_Reader___init__ (sp_init C)) : FnOk P w K mg base CX0 6 f fd P_time_of sp_timeof := by
  refine F.ok sc_time_of (fun vs H Q E h => ?_) (fun cdv A outer s H vs Q E hr h => ?_)
  · obtain ⟨y, m, d, l, i, rfl, _⟩ := h
    rfl
  · have nd := sc_time_of.nd
    obtain ⟨y, m, d, l, i, rfl, hD, hl, hi, q⟩ := h
    refine ⟨_, (pss_cons (ps_if (pt_not (pt_val (pe_callB (cIsi K) (by rfl) T.n_isinstance (by decide +kernel) (pa_cons (pv 0) (pa_cons (pe_bltn (v := .ty "str") (by rfl) T.n_str (by decide +kernel) rfl) pa_nil)))))
        (pss_one ps_never)
        pss_nil)
      (pss_one (ps_try_never (fun _ _ h => h) (pss_one (ps_ret (pe_def D_read_time (hr.mono (by decide)) (pa_cons (pe_make C_Reader.make C_Reader.ok (hr.mono (by decide)) (by rfl) C_Reader.mg C_Reader.bd .nil pass0 (pa_cons (pv 0) pa_nil)) pa_nil)))) pss_nil))), ?_⟩
    dsimp only [tSeq]
    refine ifT false (fun k q1 => notT true (fun k q2 => ⟨_, rfl, .str _, .ty "str", _, _, true, rfl, .ty _, .base (.str _), kit_ty (by decide +kernel), true, rfl, q2 _ (Same.refl _)⟩) q1) (fun h => nomatch h) (fun _ H1 s1 => ?_)
    refine ⟨_, rfl, fun x dx hx hdx hne => ⟨x, dx, _, rfl, upd_same, fun H2 s2 e2 => ⟨rfl, x, dx, _, y, m, d, l, i, rfl, e2, rfl, hD, hl, hi, fun H3 p s3 hp ep => ?_⟩⟩⟩
    have sm : ∀ H', SameBut x (upd (upd H1 dx (.own x)) x (.ins C dx [])) H' → Same H H' := fun H' s b o hb => by
      have hb1 := s1 _ _ hb
      have hbx : b ≠ x := ne_of_none hb1 hx
      refine s b o hbx ?_
      rw [upd_ne hbx, upd_ne (ne_of_none hb1 hdx)]
      exact hb1
    refine q H3 p (sm _ (s2.trans s3)) ?_ ep
    cases h : H p with
    | none => rfl
    | some u => rw [sm _ s2 _ _ h] at hp; exact nomatch hp
/-! ### _law_cell -/
abbrev s__law_cell : Stmt := topS 32
abbrev N__law_cell : List Str := ["_law_script", "_law_k"]
abbrev P__law_cell : List Str := ["_law_script", "_law_k"]
theorem sc__law_cell : FnScope N__law_cell ["_law_script", "_law_k"] (defScope s__law_cell) := ⟨rfl, rfl, rfl, by decide +kernel, rfl, by decide +kernel, by decide +kernel⟩
def sp_cell (K : PySem.W.Frag) : Sp := fun vs H Q _ => ∃ (a : Addr) (bs : List Int) (k : Nat), vs = [.ref a, .int k] ∧ SqL K H a (bs.map V.int) ∧ Tell H (.int (bs.getD k 0)) Q
theorem ok_cell {f : Addr} {fd : FuncData} {k : Nat} (F : Fun K "_law_cell" "_law_cell" s__law_cell f fd) (T : Tx K mg tk dn md) : FnOk P w K mg base CX0 (k + 1) f fd P__law_cell (sp_cell K) := by
  refine F.ok sc__law_cell (fun vs H Q E h => ?_) (fun cdv A outer s H vs Q E hr h => ?_)
  · obtain ⟨a, bs, j, rfl, _⟩ := h
    rfl
  · have nd := sc__law_cell.nd
    obtain ⟨a, bs, j, rfl, hs, q⟩ := h
    refine ⟨_, (pss_cons (ps_if (pt_cmpR op_lt (pv 1) (pe_callB (cLen K) (by rfl) T.n_len (by decide +kernel) (pa_cons (pv 0) pa_nil)) (nomark _))
        (pss_one (ps_ret (pe_ix (ixL K) (pv 0) (pv 1) (fun _ _ => rfl))))
        pss_nil)
      (pss_one (ps_ret pe_int))), ?_⟩
    dsimp only [tSeq]
    refine ifT (decide (j < bs.length)) (fun k q1 => ⟨_, rfl, _, rfl, a, _, rfl, .inl hs, _, _, rfl, rfl, _, rfl, TellB.eq (decide_eq_decide.mpr (by rw [List.length_map]; omega)) q1 _ (Same.refl _)⟩) (fun h H1 s1 => ?_) (fun h H1 s1 => ?_)
    · have hj := of_decide_eq_true h
      refine ⟨.ref a, rfl, .int j, rfl, a, _, _, _, rfl, rfl, s1.seq hs, ?_, q H1 s1⟩
      refine atI_nat ?_
      rw [List.getElem?_map, List.getElem?_eq_getElem hj, List.getD_eq_getElem?_getD, List.getElem?_eq_getElem hj]
      rfl
    · have hj := of_decide_eq_false h
      have := q H1 s1
      rw [List.getD_eq_getElem?_getD, List.getElem?_eq_none (by omega)] at this
      exact this
/-! ### _law_is_long -/
abbrev s__law_is_long : Stmt := topS 35
abbrev N__law_is_long : List Str := ["_law_year"]
abbrev P__law_is_long : List Str := ["_law_year"]
theorem sc__law_is_long : FnScope N__law_is_long ["_law_year"] (defScope s__law_is_long) := ⟨rfl, rfl, rfl, by decide +kernel, rfl, by decide +kernel, by decide +kernel⟩
theorem ok_islong {f : Addr} {fd : FuncData} {k : Nat} (F : Fun K "_law_is_long" "_law_is_long" s__law_is_long f fd) : FnOk P w K mg base CX0 (k + 1) f fd P__law_is_long sp_leap := by
  refine F.ok sc__law_is_long (fun vs H Q E h => ?_) (fun cdv A outer s H vs Q E hr h => ?_)
  · obtain ⟨y, rfl, _⟩ := h
    rfl
  · have nd := sc__law_is_long.nd
    obtain ⟨y, rfl, q⟩ := h
    refine ⟨_, (pss_one (ps_ret (pe_or (pe_cmpR op_eq (pe_op op_mod (pv 0) pe_int) pe_int (nomark _)) (pe_one (pe_and (pe_cmpR op_eq (pe_op op_mod (pv 0) pe_int) pe_int (nomark _)) (pe_one (pe_cmpR op_gt (pe_op op_mod (pv 0) pe_int) pe_int (nomark _)))))))), ?_⟩
    refine orV (decide (y % 400 = 0)) (decide (y % 4 = 0) && decide (0 < y % 100)) (fun Q' q' => ⟨_, rfl, _, 400, rfl, rfl, (show (0 : Int) < 400 by decide), rfl, ?_⟩) (fun _ H2 Q' s2 q' => andV (decide (y % 4 = 0)) (decide (0 < y % 100)) (fun Q2 q2 => ⟨_, rfl, _, 4, rfl, rfl, (show (0 : Int) < 4 by decide), rfl, ?_⟩) (fun _ H3 Q2 s3 q2 => ⟨_, rfl, _, 100, rfl, rfl, (show (0 : Int) < 100 by decide), _, 0, rfl, rfl, q2 _ (Same.refl _)⟩) q') q
    · rw [vint_dec]; exact q' _ (Same.refl _)
    · rw [vint_dec]; exact q2 _ (Same.refl _)
/-! ### _law_many_days -/
abbrev s__law_many_days : Stmt := topS 36
abbrev N__law_many_days : List Str := ["_law_year", "_law_month"]
abbrev P__law_many_days : List Str := ["_law_year", "_law_month"]
theorem sc__law_many_days : FnScope N__law_many_days ["_law_year", "_law_month"] (defScope s__law_many_days) := ⟨rfl, rfl, rfl, by decide +kernel, rfl, by decide +kernel, by decide +kernel⟩
def sp_many : Sp := fun vs H Q _ => ∃ (y : Int) (m : Nat), vs = [.int y, .int (m : Nat)] ∧ 1 ≤ m ∧ m ≤ 12 ∧ Tell H (.int (daysIn y m)) Q
theorem ok_many {fL f : Addr} {fdL fd : FuncData} (F : Fun K "_law_many_days" "_law_many_days" s__law_many_days f fd) (T : Tx K mg tk dn md) (D__law_is_long : Def P w K mg base "_law_is_long" 1 fL fdL P__law_is_long sp_leap) : FnOk P w K mg base CX0 2 f fd P__law_many_days sp_many := by
  refine F.ok sc__law_many_days (fun vs H Q E h => ?_) (fun cdv A outer s H vs Q E hr h => ?_)
  · obtain ⟨y, m, rfl, _⟩ := h
    rfl
  · have nd := sc__law_many_days.nd
    obtain ⟨y, m, rfl, h1, h2, q⟩ := h
    refine ⟨_, (pss_cons (ps_if (pt_cmpR op_eq (pv 1) pe_int (nomark _))
        (pss_one (ps_ret (pe_op op_add pe_int (pe_callTy call_int1 (by rfl) T.n_int (by decide +kernel) (pa_cons (pe_def D__law_is_long (hr.mono (by decide)) (pa_cons (pv 0) pa_nil)) pa_nil)))))
        pss_nil)
      (pss_one (ps_ret (pe_ix (ixL K) (pe_lst (pa_cons pe_int (pa_cons pe_int pa_nil))) (pe_callTy call_int1 (by rfl) T.n_int (by decide +kernel) (pa_cons (pe_cmpR (oIn K) (pv 1) (pe_tup (pa_cons pe_int (pa_cons pe_int (pa_cons pe_int (pa_cons pe_int pa_nil))))) (by rfl)) pa_nil)) (fun _ _ => rfl))))), ?_⟩
    dsimp only [tSeq]
    refine ifT (decide ((m : Int) = 2)) (fun k q1 => ⟨_, rfl, rfl, _, rfl, by rw [vint_dec]; exact q1 _ (Same.refl _)⟩) (fun h H1 s1 => ?_) (fun h H1 s1 => ?_)
    · have hm := of_decide_eq_true h
      refine ⟨_, rfl, y, rfl, fun H2 s2 => .inr ⟨_, rfl, _, _, rfl, rfl, ?_⟩⟩
      have := q H2 (s1.trans s2)
      rw [daysIn_val, if_pos hm] at this
      exact this
    · have hm := of_decide_eq_false h
      dsimp only [tNext]
      have hv : inV (.int m) [.int 4, .int 6, .int 9, .int 11] = decide (m = 4 ∨ m = 6 ∨ m = 9 ∨ m = 11) := by
        have : ∀ j : Fin 13, inV (.int (j.val : Nat)) [.int 4, .int 6, .int 9, .int 11] = decide (j.val = 4 ∨ j.val = 6 ∨ j.val = 9 ∨ j.val = 11) := by decide +kernel
        exact this ⟨m, by omega⟩
      refine ⟨by show 2 ≤ _; rw [sizeLine_eq]; decide, fun p hp => ⟨.int m, rfl, by show 4 ≤ _; rw [sizeLine_eq]; decide, fun p2 hp2 => ⟨p2, _, rfl, .inr (.inl (.inl upd_same)), rfl, rfl, .inr ⟨_, rfl, p, _, _, .int (daysIn y m), rfl, rfl, .inl (.inl ((same_upd hp2) _ _ upd_same)), ?_, q _ ((s1.trans (same_upd hp)).trans (same_upd hp2))⟩⟩⟩⟩
      show atI [V.int 31, V.int 30] (if inV (.int m) [.int 4, .int 6, .int 9, .int 11] = true then 1 else 0) = _
      rw [hv, daysIn_val, if_neg hm]
      by_cases h4 : m = 4 ∨ m = 6 ∨ m = 9 ∨ m = 11
      · rw [decide_eq_true h4, if_pos (show (m : Int) = 4 ∨ (m : Int) = 6 ∨ (m : Int) = 9 ∨ (m : Int) = 11 by omega)]
        rfl
      · rw [decide_eq_false h4, if_neg (show ¬ ((m : Int) = 4 ∨ (m : Int) = 6 ∨ (m : Int) = 9 ∨ (m : Int) = 11) by omega)]
        rfl
end
end K13

namespace K13
open PySem PySem.Spec PyProof.Rows L2 LH
section
variable {P : Program} {w : World} {K : PySem.W.Frag} {mg : Str → Option Value} {base : Heap} {tk : Nat → Tok} {ca : Nat → Addr} {dn md C : Addr}
/-! ### _law_mixed -/
abbrev s__law_mixed : Stmt := topS 33
abbrev N__law_mixed : List Str := ["_law_cell_here", "_law_k"]
abbrev P__law_mixed : List Str := ["_law_cell_here", "_law_k"]
theorem sc__law_mixed : FnScope N__law_mixed ["_law_cell_here", "_law_k"] (defScope s__law_mixed) := ⟨rfl, rfl, rfl, by decide +kernel, rfl, by decide +kernel, by decide +kernel⟩
def mixed (c k : Int) : Int := (c * 48271 + 7919 * k * k * k + 104729) % 2147483647 * 16807 % 2147483629
theorem mixed_lt (c k : Int) : 0 ≤ mixed c k ∧ mixed c k < 2147483629 := ⟨Int.emod_nonneg _ (by decide), Int.emod_lt_of_pos _ (by decide)⟩
def sp_mixed : Sp := fun vs H Q _ => ∃ (c k : Int), vs = [.int c, .int k] ∧ 0 ≤ k ∧ k < 1000 ∧ Tell H (.int (mixed c k)) Q
theorem ok_mixed {f : Addr} {fd : FuncData} {k : Nat} (F : Fun K "_law_mixed" "_law_mixed" s__law_mixed f fd) : FnOk P w K mg base CX0 (k + 1) f fd P__law_mixed sp_mixed := by
  refine F.ok sc__law_mixed (fun vs H Q E h => ?_) (fun cdv A outer s H vs Q E hr h => ?_)
  · obtain ⟨c, j, rfl, _⟩ := h
    rfl
  · have nd := sc__law_mixed.nd
    obtain ⟨c, j, rfl, h0, h1, q⟩ := h
    refine ⟨_, (pss_one (ps_ret (pe_op op_mod (pe_op op_mul (pe_op op_mod (pe_op op_add (pe_op op_add (pe_op op_mul (pv 0) pe_int) (pe_op op_mul (pe_op op_mul (pe_op op_mul pe_int (pv 1)) (pv 1)) (pv 1))) pe_int) pe_int) pe_int) pe_int))), ?_⟩
    refine ⟨.int c, rfl, c, 48271, rfl, rfl, .inr (by decide), .int j, rfl, 7919, j, rfl, rfl, .inl (by decide), .int j, rfl, _, j, rfl, rfl, .inr ⟨by omega, by omega⟩, .int j, rfl, _, j, rfl, rfl, .inr ⟨by omega, by omega⟩, _, _, rfl, rfl, _, _, rfl, rfl, _, _, rfl, rfl, (show (0 : Int) < 2147483647 by decide), _, _, rfl, rfl, .inr (by decide), _, _, rfl, rfl, (show (0 : Int) < 2147483629 by decide), q _ (Same.refl _)⟩
/-! ### _law_next -/
abbrev s__law_next : Stmt := topS 34
abbrev N__law_next : List Str := ["_law_number", "_law_k"]
abbrev P__law_next : List Str := ["_law_number", "_law_k"]
theorem sc__law_next : FnScope N__law_next ["_law_number", "_law_k"] (defScope s__law_next) := ⟨rfl, rfl, rfl, by decide +kernel, rfl, by decide +kernel, by decide +kernel⟩
def nextN (n k : Int) : Int := (n * (k * k + 1) + 1009 * k + 11) * 69621 % 2147483629
theorem nextN_lt (c k : Int) : 0 ≤ nextN c k ∧ nextN c k < 2147483629 := ⟨Int.emod_nonneg _ (by decide), Int.emod_lt_of_pos _ (by decide)⟩
def sp_next : Sp := fun vs H Q _ => ∃ (c k : Int), vs = [.int c, .int k] ∧ 0 ≤ c ∧ c < 2147483648 ∧ 0 ≤ k ∧ k < 1000 ∧ Tell H (.int (nextN c k)) Q
theorem ok_next {f : Addr} {fd : FuncData} {k : Nat} (F : Fun K "_law_next" "_law_next" s__law_next f fd) : FnOk P w K mg base CX0 (k + 1) f fd P__law_next sp_next := by
  refine F.ok sc__law_next (fun vs H Q E h => ?_) (fun cdv A outer s H vs Q E hr h => ?_)
  · obtain ⟨c, j, rfl, _⟩ := h
    rfl
  · have nd := sc__law_next.nd
    obtain ⟨c, j, rfl, hc, hc1, h0, h1, q⟩ := h
    refine ⟨_, (pss_one (ps_ret (pe_op op_mod (pe_op op_mul (pe_op op_add (pe_op op_add (pe_op op_mul (pv 0) (pe_op op_add (pe_op op_mul (pv 1) (pv 1)) pe_int)) (pe_op op_mul pe_int (pv 1))) pe_int) pe_int) pe_int))), ?_⟩
    refine ⟨.int c, rfl, .int j, rfl, .int j, rfl, j, j, rfl, rfl, .inr ⟨by omega, by omega⟩, _, 1, rfl, rfl, c, _, rfl, rfl, .inl ⟨by omega, by omega⟩, .int j, rfl, 1009, j, rfl, rfl, .inl (by decide), _, _, rfl, rfl, _, _, rfl, rfl, _, _, rfl, rfl, .inr (by decide), _, _, rfl, rfl, (show (0 : Int) < 2147483629 by decide), q _ (Same.refl _)⟩
/-! ### _law_day -/
abbrev s__law_day : Stmt := topS 37
abbrev N__law_day : List Str := ["_law_year", "_law_month", "_law_day_here", "_law_past", "_law_turned"]
abbrev P__law_day : List Str := ["_law_year", "_law_month", "_law_day_here"]
theorem sc__law_day : FnScope N__law_day ["_law_year", "_law_month", "_law_day_here"] (defScope s__law_day) := ⟨rfl, rfl, rfl, by decide +kernel, rfl, by decide +kernel, by decide +kernel⟩
theorem day_val (y : Int) {m d : Nat} (h1 : 1 ≤ m) (h2 : m ≤ 12) : (y - (if (m : Int) < 3 then 1 else 0)) * 365 + (y - (if (m : Int) < 3 then 1 else 0)) / 4 - (y - (if (m : Int) < 3 then 1 else 0)) / 100 + (y - (if (m : Int) < 3 then 1 else 0)) / 400 + (153 * (((m : Int) + 9) % 12) + 2) / 5 + d - 307 = daysA y m + d - 1 := by
  rw [daysA_val, daysTo_val y m h1 (by omega)]
  have hl := leapI_val y
  by_cases e1 : m = 1
  · subst e1
    simp
    omega
  · by_cases e2 : m = 2
    · subst e2
      simp
      omega
    · rw [if_neg (by omega), if_neg e1, if_neg e2, if_neg (by omega)]
      rw [show ((m : Int) + 9) % 12 = (m : Int) - 3 by omega]
      omega
def sp_day : Sp := fun vs H Q _ => ∃ (y m d : Nat), vs = [.int (y : Nat), .int (m : Nat), .int (d : Nat)] ∧ 1 ≤ m ∧ m ≤ 12 ∧ Tell H (.int (dayNo y m d)) Q
theorem ok_day {f : Addr} {fd : FuncData} {k : Nat} (F : Fun K "_law_day" "_law_day" s__law_day f fd) (T : Tx K mg tk dn md) : FnOk P w K mg base CX0 (k + 1) f fd P__law_day sp_day := by
  refine F.ok sc__law_day (fun vs H Q E h => ?_) (fun cdv A outer s H vs Q E hr h => ?_)
  · obtain ⟨y, m, d, rfl, _⟩ := h
    rfl
  · have nd := sc__law_day.nd
    obtain ⟨y, m, d, rfl, h1, h2, q⟩ := h
    refine ⟨_, (pss_cons (ps_set (i := 3) nd rfl (.inl rfl) (pe_op op_sub (pv 0) (pe_callTy call_int1 (by rfl) T.n_int (by decide +kernel) (pa_cons (pe_cmpR op_lt (pv 1) pe_int (nomark _)) pa_nil))))
      (pss_cons (ps_set (i := 4) nd rfl (.inl rfl) (pe_op op_mod (pe_op op_add (pv 1) pe_int) pe_int))
      (pss_one (ps_ret (pe_op op_sub (pe_op op_add (pe_op op_add (pe_op op_add (pe_op op_sub (pe_op op_add (pe_op op_mul (pv 3) pe_int) (pe_op op_fdiv (pv 3) pe_int)) (pe_op op_fdiv (pv 3) pe_int)) (pe_op op_fdiv (pv 3) pe_int)) (pe_op op_fdiv (pe_op op_add (pe_op op_mul pe_int (pv 4)) pe_int) pe_int)) (pv 2)) pe_int))))), ?_⟩
    dsimp only [gName, tSeq, tAsg]
    have e : (if decide ((m : Int) < 3) = true then (1 : Int) else 0) = if (m : Int) < 3 then 1 else 0 := by simp
    refine ⟨.int y, rfl, .int m, rfl, _, 3, rfl, rfl, .inr ⟨_, rfl, _, _, rfl, rfl, .int m, rfl, _, 9, rfl, rfl, _, 12, rfl, rfl, (show (0 : Int) < 12 by decide), ?_⟩⟩
    refine ⟨_, rfl, _, 365, rfl, rfl, .inr ⟨by decide, by decide⟩, _, rfl, _, 4, rfl, rfl, ⟨by decide, by decide⟩, _, _, rfl, rfl, _, rfl, _, 100, rfl, rfl, ⟨by decide, by decide⟩, _, _, rfl, rfl, _, rfl, _, 400, rfl, rfl, ⟨by decide, by decide⟩, _, _, rfl, rfl, _, rfl, 153, _, rfl, rfl, .inl ⟨by decide, by decide⟩, _, 2, rfl, rfl, _, 5, rfl, rfl, ⟨by decide, by decide⟩, _, _, rfl, rfl, _, rfl, _, _, rfl, rfl, _, 307, rfl, rfl, ?_⟩
    have := q _ (Same.refl _)
    unfold dayNo at this
    rw [← day_val y h1 h2] at this
    dsimp only
    rw [e]
    exact this
/-! ### _law_two -/
abbrev s__law_two : Stmt := topS 38
abbrev N__law_two : List Str := ["_law_number"]
abbrev P__law_two : List Str := ["_law_number"]
theorem sc__law_two : FnScope N__law_two ["_law_number"] (defScope s__law_two) := ⟨rfl, rfl, rfl, by decide +kernel, rfl, by decide +kernel, by decide +kernel⟩
def sp_two : Sp := fun vs H Q _ => ∃ n : Nat, vs = [.int (n : Nat)] ∧ n < 100 ∧ Tell H (.str (SX.S (two n))) Q
theorem ok_two {f : Addr} {fd : FuncData} {k : Nat} (F : Fun K "_law_two" "_law_two" s__law_two f fd) : FnOk P w K mg base CX0 (k + 1) f fd P__law_two sp_two := by
  refine F.ok sc__law_two (fun vs H Q E h => ?_) (fun cdv A outer s H vs Q E hr h => ?_)
  · obtain ⟨n, rfl, _⟩ := h
    rfl
  · have nd := sc__law_two.nd
    obtain ⟨n, rfl, hn, q⟩ := h
    refine ⟨_, (pss_one (ps_ret (pe_op op_add_str (pe_ix ix_str pe_str (pe_op op_fdiv (pv 0) pe_int) (fun _ _ => rfl)) (pe_ix ix_str pe_str (pe_op op_mod (pv 0) pe_int) (fun _ _ => rfl))))), ?_⟩
    have hF : ∀ i, i < 10 → (TL.tl (Str.ofString "0123456789"))[i]? = some (48 + i) := by decide +kernel
    have hl : (Str.ofString "0123456789").length ≤ sizeLine := by rw [sizeLine_eq]; decide +kernel
    have h1 : atI (TL.tl (Str.ofString "0123456789")) (((n : Nat) : Int) / 10) = some (48 + n / 10) := by
      rw [show ((n : Nat) : Int) / 10 = ((n / 10 : Nat) : Int) by omega]
      exact atI_nat (hF _ (by omega))
    have h2 : atI (TL.tl (Str.ofString "0123456789")) (((n : Nat) : Int) % 10) = some (48 + n % 10) := by
      rw [show ((n : Nat) : Int) % 10 = ((n % 10 : Nat) : Int) by omega]
      exact atI_nat (hF _ (by omega))
    refine ⟨_, rfl, _, 10, rfl, rfl, ⟨by decide, by decide⟩, Str.ofString "0123456789", _, 48 + n / 10, rfl, rfl, hl, h1, _, rfl, _, 10, rfl, rfl, (show (0 : Int) < 10 by decide), Str.ofString "0123456789", _, 48 + n % 10, rfl, rfl, hl, h2, ⟨#[48 + n / 10]⟩, ⟨#[48 + n % 10]⟩, rfl, rfl, by show 1 + 1 ≤ _; rw [sizeLine_eq]; decide, ?_⟩
    have := q _ (Same.refl _)
    rw [show SX.S (two n) = (⟨#[48 + n / 10]⟩ : Str) ++ ⟨#[48 + n % 10]⟩ from TL.ext_tl (by rw [TL.tl_append]; rfl)] at this
    exact this
theorem four_two {y : Nat} : four y = two (y / 100) ++ two (y % 100) := by
  simp [four, two]
  omega
/-! ### _law_text -/
abbrev s__law_text : Stmt := topS 39
abbrev N__law_text : List Str := ["_law_year", "_law_month", "_law_day_here", "_law_left", "_law_ahead_here", "_law_names", "_law_found", "_law_far"]
abbrev P__law_text : List Str := ["_law_year", "_law_month", "_law_day_here", "_law_left", "_law_ahead_here"]
theorem sc__law_text : FnScope N__law_text ["_law_year", "_law_month", "_law_day_here", "_law_left", "_law_ahead_here"] (defScope s__law_text) := ⟨rfl, rfl, rfl, by decide +kernel, rfl, by decide +kernel, by decide +kernel⟩
def sp_text : Sp := fun vs H Q _ => ∃ (y m d l : Nat) (a : Int), vs = [.int (y : Nat), .int (m : Nat), .int (d : Nat), .int (l : Nat), .int a] ∧ Date y m d ∧ l < 1440 ∧ a.natAbs ≤ 840 ∧ Tell H (.str (SX.S (timeL y m d l a))) Q
theorem ok_text {fT fD f : Addr} {fdT fdD fd : FuncData} (F : Fun K "_law_text" "_law_text" s__law_text f fd) (T : Tx K mg tk dn md) (D__law_two : Def P w K mg base "_law_two" 1 fT fdT P__law_two sp_two) (D__law_day : Def P w K mg base "_law_day" 1 fD fdD P__law_day sp_day) : FnOk P w K mg base CX0 2 f fd P__law_text sp_text := by
  refine F.ok sc__law_text (fun vs H Q E h => ?_) (fun cdv A outer s H vs Q E hr h => ?_)
  · obtain ⟨y, m, d, l, a, rfl, _⟩ := h
    rfl
  · have nd := sc__law_text.nd
    obtain ⟨y, m, d, l, a, rfl, hD, hl, ha, q⟩ := h
    refine ⟨_, (pss_cons (ps_set (i := 5) nd rfl (.inl rfl) (pe_lst (pa_cons pe_str (pa_cons pe_str (pa_cons pe_str (pa_cons pe_str (pa_cons pe_str (pa_cons pe_str (pa_cons pe_str pa_nil)))))))))
      (pss_cons (ps_set (i := 6) nd rfl (.inl rfl) (pe_op op_add_str (pe_op op_add_str (pe_op op_add_str (pe_def D__law_two (hr.mono (by decide)) (pa_cons (pe_op op_fdiv (pv 0) pe_int) pa_nil)) (pe_def D__law_two (hr.mono (by decide)) (pa_cons (pe_op op_mod (pv 0) pe_int) pa_nil))) pe_str) (pe_def D__law_two (hr.mono (by decide)) (pa_cons (pv 1) pa_nil))))
      (pss_cons (ps_set (i := 6) nd rfl (.inl rfl) (pe_op op_add_str (pe_op op_add_str (pe_op op_add_str (pv 6) pe_str) (pe_def D__law_two (hr.mono (by decide)) (pa_cons (pv 2) pa_nil))) pe_str))
      (pss_cons (ps_set (i := 6) nd rfl (.inl rfl) (pe_op op_add_str (pv 6) (pe_ix (ixL K) (pv 5) (pe_op op_mod (pe_def D__law_day (hr.mono (by decide)) (pa_cons (pv 0) (pa_cons (pv 1) (pa_cons (pv 2) pa_nil)))) pe_int) (fun _ _ => rfl))))
      (pss_cons (ps_set (i := 6) nd rfl (.inl rfl) (pe_op op_add_str (pe_op op_add_str (pe_op op_add_str (pe_op op_add_str (pv 6) pe_str) (pe_def D__law_two (hr.mono (by decide)) (pa_cons (pe_op op_fdiv (pv 3) pe_int) pa_nil))) pe_str) (pe_def D__law_two (hr.mono (by decide)) (pa_cons (pe_op op_mod (pv 3) pe_int) pa_nil))))
      (pss_cons (ps_set (i := 7) nd rfl (.inl rfl) (pe_callB call_abs (by rfl) T.n_abs (by decide +kernel) (pa_cons (pv 4) pa_nil)))
      (pss_one (ps_ret (pe_op op_add_str (pe_op op_add_str (pe_op op_add_str (pe_op op_add_str (pv 6) pe_str) (pe_ix ix_str pe_str (pe_callTy call_int1 (by rfl) T.n_int (by decide +kernel) (pa_cons (pe_cmpR op_lt (pv 4) pe_int (nomark _)) pa_nil)) (fun _ _ => rfl))) (pe_def D__law_two (hr.mono (by decide)) (pa_cons (pe_op op_fdiv (pv 7) pe_int) pa_nil))) (pe_def D__law_two (hr.mono (by decide)) (pa_cons (pe_op op_mod (pv 7) pe_int) pa_nil))))))))))), ?_⟩
    dsimp only [gName, tSeq, tAsg]
    obtain ⟨y1, y2, m1, m2, d1, d2⟩ := hD
    have h31 := (daysIn_ge y m).2
    have l2 : ∀ n, (SX.S (two n)).length = 2 := fun _ => rfl
    have la : (Str.ofString "-").length = 1 := by decide +kernel
    have lb : (Str.ofString " ").length = 1 := by decide +kernel
    have lc : (Str.ofString ":").length = 1 := by decide +kernel
    have ln : (dayNames.getD (dayNo y m d % 7).toNat Str.empty).length ≤ 3 := by
      have : ∀ i, i < 7 → (dayNames.getD i Str.empty).length ≤ 3 := by decide +kernel
      exact this _ (by omega)
    have hat : atI (dayNames.map V.str) (dayNo y m d % 7) = some (.str (dayNames.getD (dayNo y m d % 7).toNat Str.empty)) := by
      conv => lhs; rw [show dayNo y m d % 7 = ((dayNo y m d % 7).toNat : Int) by omega]
      have hl : (dayNo y m d % 7).toNat < dayNames.length := by show _ < 7; omega
      refine atI_nat ?_
      rw [List.getElem?_map, List.getElem?_eq_getElem hl, List.getD_eq_getElem?_getD, List.getElem?_eq_getElem hl]
      rfl
    have hab : (if a < 0 then -a else a) = ((a.natAbs : Nat) : Int) := by split <;> omega
    have hpm : TL.tl (Str.ofString "+-") = [43, 45] := by decide +kernel
    have lpm : (Str.ofString "+-").length = 2 := by decide +kernel
    have hsg : atI (TL.tl (Str.ofString "+-")) (if decide (a < 0) = true then 1 else 0) = some (if a < 0 then 45 else 43) := by
      rw [hpm]
      by_cases h : a < 0
      · rw [decide_eq_true h, if_pos h]; rfl
      · rw [decide_eq_false h, if_neg h]; rfl
    refine ⟨by show 7 ≤ _; rw [sizeLine_eq]; decide, fun p hp => ?_⟩
    have eL : (upd H p (.lst (dayNames.map V.str))) p = some (.lst (dayNames.map V.str)) := upd_same
    have s0 := same_upd (o := .lst (dayNames.map V.str)) hp
    refine ⟨_, rfl, _, 100, rfl, rfl, ⟨by decide, by decide⟩, y / 100, by rw [Int.natCast_ediv]; rfl, by omega, fun H1 s1 => ⟨_, rfl, _, 100, rfl, rfl, (show (0 : Int) < 100 by decide), y % 100, by rw [Int.natCast_emod]; rfl, by omega, fun H2 s2 => ⟨_, _, rfl, rfl, by simp only [l2, sizeLine_eq]; omega, _, _, rfl, rfl, by simp only [len_app, l2, la, sizeLine_eq]; omega, _, rfl, m, rfl, by omega, fun H3 s3 => ⟨_, _, rfl, rfl, by simp only [len_app, l2, la, sizeLine_eq]; omega, ?_⟩⟩⟩⟩
    refine ⟨_, rfl, _, _, rfl, rfl, by simp only [len_app, l2, la, sizeLine_eq]; omega, _, rfl, d, rfl, by omega, fun H4 s4 => ⟨_, _, rfl, rfl, by simp only [len_app, l2, la, sizeLine_eq]; omega, _, _, rfl, rfl, by simp only [len_app, l2, la, lb, sizeLine_eq]; omega, ?_⟩⟩
    refine ⟨_, rfl, _, rfl, _, rfl, _, rfl, _, rfl, y, m, d, rfl, m1, m2, fun H5 s5 => ⟨_, 7, rfl, rfl, (show (0 : Int) < 7 by decide), p, _, _, _, rfl, rfl, .inl (.inl (s5 _ _ (s4 _ _ (s3 _ _ (s2 _ _ (s1 _ _ eL)))))), hat, _, _, rfl, rfl, by simp only [len_app, l2, la, lb, sizeLine_eq]; omega, ?_⟩⟩
    refine ⟨_, rfl, _, _, rfl, rfl, by simp only [len_app, l2, la, lb, sizeLine_eq]; omega, _, rfl, _, 60, rfl, rfl, ⟨by decide, by decide⟩, l / 60, by rw [Int.natCast_ediv]; rfl, by omega, fun H6 s6 => ⟨_, _, rfl, rfl, by simp only [len_app, l2, la, lb, sizeLine_eq]; omega, _, _, rfl, rfl, by simp only [len_app, l2, la, lb, lc, sizeLine_eq]; omega, _, rfl, _, 60, rfl, rfl, (show (0 : Int) < 60 by decide), l % 60, by rw [Int.natCast_emod]; rfl, by omega, fun H7 s7 => ⟨_, _, rfl, rfl, by simp only [len_app, l2, la, lb, lc, sizeLine_eq]; omega, ?_⟩⟩⟩
    refine ⟨_, rfl, a, rfl, ?_⟩
    rw [hab]
    refine ⟨_, rfl, _, _, rfl, rfl, by simp only [len_app, l2, la, lb, lc, sizeLine_eq]; omega, _, rfl, _, 0, rfl, rfl, .inr ⟨_, rfl, _, _, _, rfl, rfl, by rw [lpm, sizeLine_eq]; decide, hsg, _, ⟨#[if a < 0 then 45 else 43]⟩, rfl, rfl, by simp only [len_app, l2, la, lb, lc, sizeLine_eq]; show _ + 1 ≤ _; omega, ?_⟩⟩
    have ls : ∀ c : Nat, (⟨#[c]⟩ : Str).length = 1 := fun _ => rfl
    refine ⟨_, rfl, _, 60, rfl, rfl, ⟨by decide, by decide⟩, a.natAbs / 60, by rw [Int.natCast_ediv]; rfl, by omega, fun H8 s8 => ⟨_, _, rfl, rfl, by simp only [len_app, l2, la, lb, lc, ls, sizeLine_eq]; omega, _, rfl, _, 60, rfl, rfl, (show (0 : Int) < 60 by decide), a.natAbs % 60, by rw [Int.natCast_emod]; rfl, by omega, fun H9 s9 => ⟨_, _, rfl, rfl, by simp only [len_app, l2, la, lb, lc, ls, sizeLine_eq]; omega, ?_⟩⟩⟩
    have := q H9 (((((((((s0.trans s1).trans s2).trans s3).trans s4).trans s5).trans s6).trans s7).trans s8).trans s9)
    rw [show SX.S (timeL y m d l a) = SX.S (two (y / 100)) ++ SX.S (two (y % 100)) ++ Str.ofString "-" ++ SX.S (two m) ++ Str.ofString "-" ++ SX.S (two d) ++ Str.ofString " " ++ dayNames.getD (dayNo y m d % 7).toNat Str.empty ++ Str.ofString " " ++ SX.S (two (l / 60)) ++ Str.ofString ":" ++ SX.S (two (l % 60)) ++ Str.ofString " " ++ (⟨#[if a < 0 then 45 else 43]⟩ : Str) ++ SX.S (two (a.natAbs / 60)) ++ SX.S (two (a.natAbs % 60)) from TL.ext_tl (by
      simp only [TL.tl_append, tl_dash, tl_blank, tl_colon]
      show dateL y m d ++ [32] ++ TL.tl (dayNames.getD (dayNo y m d % 7).toNat Str.empty) ++ [32] ++ (two (l / 60) ++ [58] ++ two (l % 60)) ++ [32] ++ aheadL a = two (y / 100) ++ two (y % 100) ++ [45] ++ two m ++ [45] ++ two d ++ [32] ++ TL.tl (dayNames.getD (dayNo y m d % 7).toNat Str.empty) ++ [32] ++ two (l / 60) ++ [58] ++ two (l % 60) ++ [32] ++ [if a < 0 then 45 else 43] ++ two (a.natAbs / 60) ++ two (a.natAbs % 60)
      unfold dateL aheadL
      rw [four_two]
      simp only [List.append_assoc])] at this
    exact this
end
end K13

namespace K13
open PySem PySem.Spec PyProof.Rows L2 LH
section
variable {P : Program} {w : World} {K : PySem.W.Frag} {mg : Str → Option Value} {base : Heap} {tk : Nat → Tok} {ca : Nat → Addr} {dn md C : Addr}
/-- a date that is told as a new tuple -/
def TellD (H : Hp) (y m d : Nat) (Q : VK) : Prop := ∀ H' p, Same H H' → H p = none → H' p = some (.tup [.int (y : Nat), .int (m : Nat), .int (d : Nat)]) → Q (.ref p) H'
theorem pickI (ns : List Int) (m : Int) (h0 : 0 ≤ m) (h1 : m < ns.length) : ∃ v, v ∈ ns ∧ atI (ns.map V.int) m = some (.int v) := by
  obtain ⟨x, hx, e⟩ := pickL (ns.map V.int) m h0 (by rw [List.length_map]; exact h1)
  obtain ⟨v, hv, rfl⟩ := List.mem_map.mp hx
  exact ⟨v, hv, e⟩
theorem fresh_same {H H' : Hp} {p : Addr} (s : Same H H') (h : H' p = none) : H p = none := by
  cases e : H p with
  | none => rfl
  | some u => rw [s _ _ e] at h; exact nomatch h
theorem pos4 : (0 : Int) < 4 := by decide
/-! ### _law_ahead -/
abbrev s__law_ahead : Stmt := topS 41
abbrev N__law_ahead : List Str := ["_law_number"]
abbrev P__law_ahead : List Str := ["_law_number"]
theorem sc__law_ahead : FnScope N__law_ahead ["_law_number"] (defScope s__law_ahead) := ⟨rfl, rfl, rfl, by decide +kernel, rfl, by decide +kernel, by decide +kernel⟩
def sp_lahead : Sp := fun vs H Q _ => ∃ n : Int, vs = [.int n] ∧ 0 ≤ n ∧ ∀ i : Int, i.natAbs ≤ 840 → Tell H (.int i) Q
theorem ok_lahead {f : Addr} {fd : FuncData} {k : Nat} (F : Fun K "_law_ahead" "_law_ahead" s__law_ahead f fd) : FnOk P w K mg base CX0 (k + 1) f fd P__law_ahead sp_lahead := by
  refine F.ok sc__law_ahead (fun vs H Q E h => ?_) (fun cdv A outer s H vs Q E hr h => ?_)
  · obtain ⟨n, rfl, _⟩ := h
    rfl
  · have nd := sc__law_ahead.nd
    obtain ⟨n, rfl, h0, q⟩ := h
    refine ⟨_, (pss_one (ps_ret (pe_ix (ixL K) (pe_lst (pa_cons (pe_op op_sub (pe_op op_mod (pe_op op_fdiv (pv 0) pe_int) pe_int) pe_int) (pa_cons pe_int (pa_cons (pe_ix (ixL K) (pe_lst (pa_cons pe_int (pa_cons (pe_un un_neg pe_int) (pa_cons pe_int (pa_cons (pe_un un_neg pe_int) pa_nil))))) (pe_op op_mod (pe_op op_fdiv (pv 0) pe_int) pe_int) (fun _ _ => rfl)) (pa_cons (pe_op op_sub (pe_op op_mod (pe_op op_fdiv (pv 0) pe_int) pe_int) pe_int) pa_nil))))) (pe_op op_mod (pv 0) pe_int) (fun _ _ => rfl)))), ?_⟩
    obtain ⟨v2, hv2, e2⟩ := pickI [840, -840, 839, -839] (n / 4 % 4) (by omega) (by show _ < 4; omega)
    obtain ⟨v, hv, e⟩ := pickI [n / 4 % 1681 - 840, 0, v2, n / 4 % 119 - 59] (n % 4) (by omega) (by show _ < 4; omega)
    have h2 : v2.natAbs ≤ 840 := by
      simp only [List.mem_cons, List.not_mem_nil, or_false] at hv2
      omega
    have h3 : v.natAbs ≤ 840 := by
      simp only [List.mem_cons, List.not_mem_nil, or_false] at hv
      omega
    refine ⟨_, rfl, _, 4, rfl, rfl, ⟨by decide, by decide⟩, _, 1681, rfl, rfl, (show (0 : Int) < 1681 by decide), _, 840, rfl, rfl, 840, rfl, 839, rfl, by show 4 ≤ _; rw [sizeLine_eq]; decide, fun p1 hp1 => ⟨_, rfl, _, 4, rfl, rfl, ⟨by decide, by decide⟩, _, 4, rfl, rfl, pos4, p1, _, _, .int v2, rfl, rfl, .inl (.inl upd_same), e2, _, rfl, _, 4, rfl, rfl, ⟨by decide, by decide⟩, _, 119, rfl, rfl, (show (0 : Int) < 119 by decide), _, 59, rfl, rfl, by show 4 ≤ _; rw [sizeLine_eq]; decide, fun p hp => ⟨_, rfl, _, 4, rfl, rfl, pos4, p, _, _, .int v, rfl, rfl, .inl (.inl upd_same), e, q v h3 _ ((same_upd hp1).trans (same_upd hp))⟩⟩⟩
/-! ### _law_date -/
abbrev s__law_date : Stmt := topS 40
abbrev N__law_date : List Str := ["_law_number", "_law_rest", "_law_some", "_law_year", "_law_more", "_law_month", "_law_many", "_law_day_here"]
abbrev P__law_date : List Str := ["_law_number"]
theorem sc__law_date : FnScope N__law_date ["_law_number"] (defScope s__law_date) := ⟨rfl, rfl, rfl, by decide +kernel, rfl, by decide +kernel, by decide +kernel⟩
def sp_date : Sp := fun vs H Q _ => ∃ n : Int, vs = [.int n] ∧ 0 ≤ n ∧ n < 2147483648 ∧ ∀ y m d : Nat, Date y m d → TellD H y m d Q
theorem ok_date {fN fM f : Addr} {fdN fdM fd : FuncData} (F : Fun K "_law_date" "_law_date" s__law_date f fd) (T : Tx K mg tk dn md) (D__law_next : Def P w K mg base "_law_next" 1 fN fdN P__law_next sp_next) (D__law_many_days : Def P w K mg base "_law_many_days" 2 fM fdM P__law_many_days sp_many) : FnOk P w K mg base CX0 3 f fd P__law_date sp_date := by
  refine F.ok sc__law_date (fun vs H Q E h => ?_) (fun cdv A outer s H vs Q E hr h => ?_)
  · obtain ⟨n, rfl, _⟩ := h
    rfl
  · have nd := sc__law_date.nd
    obtain ⟨n, rfl, h0, h1, q⟩ := h
    refine ⟨_, (pss_cons (ps_set (i := 1) nd rfl (.inl rfl) (pe_op op_fdiv (pv 0) pe_int))
      (pss_cons (ps_set (i := 2) nd rfl (.inl rfl) (pe_lst (pa_cons (pe_op op_add pe_int (pe_op op_mod (pv 1) pe_int)) (pa_cons (pe_op op_mul pe_int (pe_op op_add pe_int (pe_op op_mod (pv 1) pe_int))) (pa_cons (pe_op op_mul pe_int (pe_op op_add pe_int (pe_op op_mod (pv 1) pe_int))) (pa_cons (pe_op op_mul pe_int (pe_op op_add pe_int (pe_op op_mod (pv 1) pe_int))) pa_nil))))))
      (pss_cons (ps_set (i := 3) nd rfl (.inl rfl) (pe_ix (ixL K) (pe_op op_cat (pv 2) (pe_lst (pa_cons pe_int (pa_cons pe_int (pa_cons (pe_op op_add pe_int (pe_op op_mod (pv 1) pe_int)) (pa_cons (pe_op op_add (pe_op op_mul pe_int (pe_op op_mod (pv 1) pe_int)) pe_int) pa_nil)))))) (pe_op op_mod (pv 0) pe_int) (fun _ _ => rfl)))
      (pss_cons (ps_set (i := 4) nd rfl (.inl rfl) (pe_def D__law_next (hr.mono (by decide)) (pa_cons (pv 0) (pa_cons pe_int pa_nil))))
      (pss_cons (ps_set (i := 5) nd rfl (.inl rfl) (pe_ix (ixL K) (pe_lst (pa_cons (pe_op op_add pe_int (pe_op op_mod (pe_op op_fdiv (pv 4) pe_int) pe_int)) (pa_cons pe_int (pa_cons pe_int (pa_cons (pe_op op_add pe_int (pe_op op_mod (pe_op op_fdiv (pv 4) pe_int) pe_int)) pa_nil))))) (pe_op op_mod (pv 4) pe_int) (fun _ _ => rfl)))
      (pss_cons (ps_set (i := 6) nd rfl (.inl rfl) (pe_def D__law_many_days (hr.mono (by decide)) (pa_cons (pv 3) (pa_cons (pv 5) pa_nil))))
      (pss_cons (ps_set (i := 1) nd rfl (.inl rfl) (pe_op op_fdiv (pv 4) pe_int))
      (pss_cons (ps_set (i := 7) nd rfl (.inl rfl) (pe_ix (ixL K) (pe_lst (pa_cons (pe_op op_add pe_int (pe_op op_mod (pe_op op_fdiv (pv 1) pe_int) (pv 6))) (pa_cons (pv 6) (pa_cons pe_int (pa_cons (pe_callB (call_max2 rfl) (by rfl) T.n_max (by decide +kernel) (pa_cons pe_int (pa_cons (pe_op op_sub (pv 6) (pe_op op_mod (pe_op op_fdiv (pv 1) pe_int) pe_int)) pa_nil))) pa_nil))))) (pe_op op_mod (pv 1) pe_int) (fun _ _ => rfl)))
      (pss_one (ps_ret (pe_tup (pa_cons (pv 3) (pa_cons (pv 5) (pa_cons (pv 7) pa_nil)))))))))))))), ?_⟩
    dsimp only [gName, tSeq, tAsg]
    have hmore := nextN_lt n 1
    obtain ⟨yi, hym, hya⟩ := pickI [1 + n / 8 % 9999, 100 * (1 + n / 8 % 99), 400 * (1 + n / 8 % 24), 4 * (1 + n / 8 % 2499), 1, 9999, 2 + n / 8 % 9998, 100 * (n / 8 % 99) + 1] (n % 8) (by omega) (by show _ < 8; omega)
    have hyb : 1 ≤ yi ∧ yi ≤ 9999 := by
      simp only [List.mem_cons, List.not_mem_nil, or_false] at hym
      omega
    obtain ⟨y, rfl⟩ : ∃ y : Nat, yi = (y : Int) := ⟨yi.toNat, by omega⟩
    obtain ⟨mi, hmm, hma⟩ := pickI [1 + nextN n 1 / 4 % 12, 2, 12, 1 + nextN n 1 / 4 % 12] (nextN n 1 % 4) (by omega) (by show _ < 4; omega)
    have hmb : 1 ≤ mi ∧ mi ≤ 12 := by
      simp only [List.mem_cons, List.not_mem_nil, or_false] at hmm
      omega
    obtain ⟨m, rfl⟩ : ∃ m : Nat, mi = (m : Int) := ⟨mi.toNat, by omega⟩
    have hmany := daysIn_ge y m
    have hr0 := Int.emod_nonneg (nextN n 1 / 48 / 4) (show daysIn y m ≠ 0 by omega)
    have hr1 := Int.emod_lt_of_pos (nextN n 1 / 48 / 4) (show 0 < daysIn y m by omega)
    obtain ⟨di, hdm, hda⟩ := pickI [1 + nextN n 1 / 48 / 4 % daysIn y m, daysIn y m, 1, if daysIn y m - nextN n 1 / 48 / 4 % 3 > 1 then daysIn y m - nextN n 1 / 48 / 4 % 3 else 1] (nextN n 1 / 48 % 4) (by omega) (by show _ < 4; omega)
    have hdb : 1 ≤ di ∧ di ≤ daysIn y m := by
      simp only [List.mem_cons, List.not_mem_nil, or_false] at hdm
      rcases hdm with rfl | rfl | rfl | rfl
      · omega
      · omega
      · omega
      · split <;> omega
    obtain ⟨d, rfl⟩ : ∃ d : Nat, di = (d : Int) := ⟨di.toNat, by omega⟩
    have hD : Date y m d := ⟨by omega, by omega, by omega, by omega, by omega, hdb.2⟩
    refine ⟨_, rfl, _, 8, rfl, rfl, ⟨by decide, by decide⟩, ?_⟩
    refine ⟨_, rfl, _, 9999, rfl, rfl, (show (0 : Int) < 9999 by decide), 1, _, rfl, rfl, _, rfl, _, 99, rfl, rfl, (show (0 : Int) < 99 by decide), 1, _, rfl, rfl, 100, _, rfl, rfl, .inl ⟨by decide, by decide⟩, _, rfl, _, 24, rfl, rfl, (show (0 : Int) < 24 by decide), 1, _, rfl, rfl, 400, _, rfl, rfl, .inl ⟨by decide, by decide⟩, _, rfl, _, 2499, rfl, rfl, (show (0 : Int) < 2499 by decide), 1, _, rfl, rfl, 4, _, rfl, rfl, .inl ⟨by decide, by decide⟩, by show 4 ≤ _; rw [sizeLine_eq]; decide, fun p1 hp1 => ?_⟩
    refine ⟨_, rfl, _, rfl, _, 9998, rfl, rfl, (show (0 : Int) < 9998 by decide), 2, _, rfl, rfl, _, rfl, _, 99, rfl, rfl, (show (0 : Int) < 99 by decide), 100, _, rfl, rfl, .inl ⟨by decide, by decide⟩, _, 1, rfl, rfl, by show 4 ≤ _; rw [sizeLine_eq]; decide, fun p2 hp2 => ⟨p1, p2, _, _, rfl, rfl, same_upd hp2 _ _ upd_same, upd_same, by show 8 ≤ _; rw [sizeLine_eq]; decide, fun p3 hp3 => ⟨_, rfl, _, 8, rfl, rfl, (show (0 : Int) < 8 by decide), p3, _, _, .int y, rfl, rfl, .inl (.inl upd_same), hya, ?_⟩⟩⟩
    refine ⟨_, rfl, n, 1, rfl, h0, h1, by decide, by decide, fun H4 s4 => ?_⟩
    refine ⟨_, rfl, _, 4, rfl, rfl, ⟨by decide, by decide⟩, _, 12, rfl, rfl, (show (0 : Int) < 12 by decide), 1, _, rfl, rfl, _, rfl, _, 4, rfl, rfl, ⟨by decide, by decide⟩, _, 12, rfl, rfl, (show (0 : Int) < 12 by decide), 1, _, rfl, rfl, by show 4 ≤ _; rw [sizeLine_eq]; decide, fun p4 hp4 => ⟨_, rfl, _, 4, rfl, rfl, pos4, p4, _, _, .int m, rfl, rfl, .inl (.inl upd_same), hma, ?_⟩⟩
    refine ⟨_, rfl, _, rfl, (y : Int), m, rfl, by omega, by omega, fun H5 s5 => ?_⟩
    refine ⟨_, rfl, _, 48, rfl, rfl, ⟨by decide, by decide⟩, ?_⟩
    refine ⟨_, rfl, _, 4, rfl, rfl, ⟨by decide, by decide⟩, _, rfl, _, _, rfl, rfl, (show (0 : Int) < daysIn y m by omega), 1, _, rfl, rfl, _, rfl, _, rfl, _, rfl, _, 4, rfl, rfl, ⟨by decide, by decide⟩, _, 3, rfl, rfl, (show (0 : Int) < 3 by decide), _, _, rfl, rfl, 1, _, rfl, by show 4 ≤ _; rw [sizeLine_eq]; decide, fun p5 hp5 => ⟨_, rfl, _, 4, rfl, rfl, pos4, p5, _, _, .int d, rfl, rfl, .inl (.inl upd_same), hda, ?_⟩⟩
    have s := ((((same_upd hp1).trans (same_upd hp2)).trans (same_upd hp3)).trans s4).trans (same_upd hp4) |>.trans s5
    refine ⟨_, rfl, _, rfl, _, rfl, by show 3 ≤ _; rw [sizeLine_eq]; decide, fun p hp => q y m d hD _ p ((s.trans (same_upd hp5)).trans (same_upd hp)) (fresh_same (s.trans (same_upd hp5)) hp) upd_same⟩
/-! ### _law_start -/
abbrev s__law_start : Stmt := topS 42
abbrev N__law_start : List Str := ["_law_number", "_law_more", "_law_year", "_law_month", "_law_day_here"]
abbrev P__law_start : List Str := ["_law_number"]
theorem sc__law_start : FnScope N__law_start ["_law_number"] (defScope s__law_start) := ⟨rfl, rfl, rfl, by decide +kernel, rfl, by decide +kernel, by decide +kernel⟩
theorem ok_start {fN fD f : Addr} {fdN fdD fd : FuncData} (F : Fun K "_law_start" "_law_start" s__law_start f fd) (D__law_next : Def P w K mg base "_law_next" 1 fN fdN P__law_next sp_next) (D__law_date : Def P w K mg base "_law_date" 3 fD fdD P__law_date sp_date) : FnOk P w K mg base CX0 4 f fd P__law_start sp_date := by
  refine F.ok sc__law_start (fun vs H Q E h => ?_) (fun cdv A outer s H vs Q E hr h => ?_)
  · obtain ⟨n, rfl, _⟩ := h
    rfl
  · have nd := sc__law_start.nd
    obtain ⟨n, rfl, h0, h1, q⟩ := h
    refine ⟨_, (pss_cons (ps_asg (pe_def D__law_date (hr.mono (by decide)) (pa_cons (pv 0) pa_nil)) (pg_tup rfl (pgs_cons (pg_name (i := 2) nd rfl (Or.inl rfl)) (pgs_cons (pg_name (i := 3) nd rfl (Or.inl rfl)) (pgs_cons (pg_name (i := 4) nd rfl (Or.inl rfl)) pgs_nil)))))
      (pss_cons (ps_set (i := 1) nd rfl (.inl rfl) (pe_def D__law_next (hr.mono (by decide)) (pa_cons (pv 0) (pa_cons pe_int pa_nil))))
      (pss_cons (ps_if (pt_cmpR op_eq (pe_op op_mod (pv 1) pe_int) pe_int (nomark _))
        (pss_one (ps_par (i := 3) (j := 4) (by rfl) nd rfl rfl (by decide) rfl rfl (pa_cons pe_int (pa_cons (pe_op op_add pe_int (pe_op op_mod (pe_op op_fdiv (pv 1) pe_int) pe_int)) pa_nil)) (by rfl)))
        pss_nil)
      (pss_cons (ps_if (pt_cmpR op_eq (pe_op op_mod (pv 1) pe_int) pe_int (nomark _))
        (pss_one (ps_par (i := 3) (j := 4) (by rfl) nd rfl rfl (by decide) rfl rfl (pa_cons pe_int (pa_cons (pe_op op_add pe_int (pe_op op_mod (pe_op op_fdiv (pv 1) pe_int) pe_int)) pa_nil)) (by rfl)))
        pss_nil)
      (pss_one (ps_ret (pe_tup (pa_cons (pv 2) (pa_cons (pv 3) (pa_cons (pv 4) pa_nil)))))))))), ?_⟩
    dsimp only [gName, tSeq, tAsg]
    have hmore := nextN_lt n 2
    refine ⟨_, rfl, n, rfl, h0, h1, fun y m d hD H1 p1 s1 hp1 e1 => ⟨p1, _, rfl, .inl (.inl e1), rfl, _, _, rfl, _, _, rfl, _, _, rfl, rfl, ?_⟩⟩
    refine ⟨_, rfl, n, 2, rfl, h0, h1, by decide, by decide, fun H2 s2 => ?_⟩
    obtain ⟨y1, y2, m1, m2, d1, d2⟩ := hD
    have hD : Date y m d := ⟨y1, y2, m1, m2, d1, d2⟩
    generalize nextN n 2 = z at *
    obtain ⟨a1, ha1⟩ : ∃ a : Nat, 1 + z / 3 % 28 = (a : Int) := ⟨(1 + z / 3 % 28).toNat, by omega⟩
    obtain ⟨a2, ha2⟩ : ∃ a : Nat, 1 + z / 3 % 31 = (a : Int) := ⟨(1 + z / 3 % 31).toNat, by omega⟩
    have hD1 : Date y 2 a1 := ⟨y1, y2, by decide, by decide, by omega, by have := (daysIn_ge y 2).1; show (a1 : Int) ≤ daysIn y 2; omega⟩
    have hD2 : Date y 12 a2 := ⟨y1, y2, by decide, by decide, by omega, by show (a2 : Int) ≤ daysIn y 12; rw [daysIn_val]; simp; omega⟩
    dsimp only [gName, tSeq]
    refine ifT (decide (z % 3 = 1)) (fun k q1 => ⟨_, rfl, _, 3, rfl, rfl, (show (0 : Int) < 3 by decide), rfl, _, rfl, by rw [vint_dec]; exact q1 _ (Same.refl _)⟩) (fun h H3 s3 => ?_) (fun h H3 s3 => ?_)
    · have h := of_decide_eq_true h
      refine ⟨_, rfl, _, 3, rfl, rfl, ⟨by decide, by decide⟩, _, 28, rfl, rfl, (show (0 : Int) < 28 by decide), 1, _, rfl, rfl, _, _, rfl, ?_⟩
      dsimp only [tNext, tSeq]
      refine ifT (decide (z % 3 = 2)) (fun k q1 => ⟨_, rfl, _, 3, rfl, rfl, (show (0 : Int) < 3 by decide), rfl, _, rfl, by rw [vint_dec]; exact q1 _ (Same.refl _)⟩) (fun h2 H4 s4 => absurd (of_decide_eq_true h2) (by omega)) (fun h2 H4 s4 => ?_)
      have s := ((s1.trans s2).trans s3).trans s4
      refine ⟨_, rfl, _, rfl, _, rfl, by show 3 ≤ _; rw [sizeLine_eq]; decide, fun p hp => q y 2 a1 hD1 _ p (s.trans (same_upd hp)) (fresh_same s hp) ?_⟩
      rw [← ha1]
      exact upd_same
    · have h := of_decide_eq_false h
      dsimp only [tNext, tSeq]
      refine ifT (decide (z % 3 = 2)) (fun k q1 => ⟨_, rfl, _, 3, rfl, rfl, (show (0 : Int) < 3 by decide), rfl, _, rfl, by rw [vint_dec]; exact q1 _ (Same.refl _)⟩) (fun h2 H4 s4 => ?_) (fun h2 H4 s4 => ?_)
      · have s := ((s1.trans s2).trans s3).trans s4
        refine ⟨_, rfl, _, 3, rfl, rfl, ⟨by decide, by decide⟩, _, 31, rfl, rfl, (show (0 : Int) < 31 by decide), 1, _, rfl, rfl, _, _, rfl, ?_⟩
        refine ⟨_, rfl, _, rfl, _, rfl, by show 3 ≤ _; rw [sizeLine_eq]; decide, fun p hp => q y 12 a2 hD2 _ p (s.trans (same_upd hp)) (fresh_same s hp) ?_⟩
        rw [← ha2]
        exact upd_same
      · have s := ((s1.trans s2).trans s3).trans s4
        dsimp only [tNext]
        exact ⟨_, rfl, _, rfl, _, rfl, by show 3 ≤ _; rw [sizeLine_eq]; decide, fun p hp => q y m d hD _ p (s.trans (same_upd hp)) (fresh_same s hp) upd_same⟩
/-! ### _law_next_day -/
abbrev s__law_next_day : Stmt := topS 43
abbrev N__law_next_day : List Str := ["_law_year", "_law_month", "_law_day_here"]
abbrev P__law_next_day : List Str := ["_law_year", "_law_month", "_law_day_here"]
theorem sc__law_next_day : FnScope N__law_next_day ["_law_year", "_law_month", "_law_day_here"] (defScope s__law_next_day) := ⟨rfl, rfl, rfl, by decide +kernel, rfl, by decide +kernel, by decide +kernel⟩
def sp_nextday : Sp := fun vs H Q _ => ∃ y m d : Nat, vs = [.int (y : Nat), .int (m : Nat), .int (d : Nat)] ∧ Date y m d ∧ ∀ y' m' d' : Nat, dayNo y' m' d' = dayNo y m d + 1 → (Date y' m' d' ∨ y' = 10000) → TellD H y' m' d' Q
theorem ok_nextday {fM f : Addr} {fdM fd : FuncData} (F : Fun K "_law_next_day" "_law_next_day" s__law_next_day f fd) (D__law_many_days : Def P w K mg base "_law_many_days" 2 fM fdM P__law_many_days sp_many) : FnOk P w K mg base CX0 3 f fd P__law_next_day sp_nextday := by
  refine F.ok sc__law_next_day (fun vs H Q E h => ?_) (fun cdv A outer s H vs Q E hr h => ?_)
  · obtain ⟨y, m, d, rfl, _⟩ := h
    rfl
  · have nd := sc__law_next_day.nd
    obtain ⟨y, m, d, rfl, hD, q⟩ := h
    refine ⟨_, (pss_cons (ps_if (pt_cmpR op_lt (pv 2) (pe_def D__law_many_days (hr.mono (by decide)) (pa_cons (pv 0) (pa_cons (pv 1) pa_nil))) (nomark _))
        (pss_one (ps_ret (pe_tup (pa_cons (pv 0) (pa_cons (pv 1) (pa_cons (pe_op op_add (pv 2) pe_int) pa_nil))))))
        pss_nil)
      (pss_cons (ps_if (pt_cmpR op_lt (pv 1) pe_int (nomark _))
        (pss_one (ps_ret (pe_tup (pa_cons (pv 0) (pa_cons (pe_op op_add (pv 1) pe_int) (pa_cons pe_int pa_nil))))))
        pss_nil)
      (pss_one (ps_ret (pe_tup (pa_cons (pe_op op_add (pv 0) pe_int) (pa_cons pe_int (pa_cons pe_int pa_nil)))))))), ?_⟩
    dsimp only [tSeq]
    obtain ⟨y1, y2, m1, m2, d1, d2⟩ := hD
    refine ifT (decide ((d : Int) < daysIn y m)) (fun k q1 => ⟨_, rfl, _, rfl, _, rfl, (y : Int), m, rfl, m1, m2, fun H2 s2 => ⟨_, _, rfl, rfl, _, rfl, q1 _ s2⟩⟩) (fun h H1 s1 => ?_) (fun h H1 s1 => ?_)
    · have h := of_decide_eq_true h
      exact ⟨_, rfl, _, rfl, _, rfl, _, 1, rfl, rfl, by show 3 ≤ _; rw [sizeLine_eq]; decide, fun p hp => q y m (d + 1) (by unfold dayNo; omega) (.inl ⟨y1, y2, m1, m2, by omega, by omega⟩) _ p (s1.trans (same_upd hp)) (fresh_same s1 hp) upd_same⟩
    · have h := of_decide_eq_false h
      have hA := daysA_succ y m m1
      dsimp only [tNext, tSeq]
      refine ifT (decide ((m : Int) < 12)) (fun k q1 => ⟨_, rfl, _, _, rfl, rfl, _, rfl, q1 _ (Same.refl _)⟩) (fun h2 H2 s2 => ?_) (fun h2 H2 s2 => ?_)
      · have h2 := of_decide_eq_true h2
        have hg := daysIn_ge y ((m + 1 : Nat) : Int)
        exact ⟨_, rfl, _, rfl, _, 1, rfl, rfl, by show 3 ≤ _; rw [sizeLine_eq]; decide, fun p hp => q y (m + 1) 1 (by unfold dayNo; omega) (.inl ⟨y1, y2, by omega, by omega, by decide, by omega⟩) _ p ((s1.trans s2).trans (same_upd hp)) (fresh_same (s1.trans s2) hp) upd_same⟩
      · have h2 := of_decide_eq_false h2
        have hm : m = 12 := by omega
        subst hm
        have h13 := daysA_13 y
        have hA : daysA y (13 : Nat) = daysA y (12 : Nat) + daysIn y (12 : Nat) := daysA_succ y 12 (by decide)
        have hg := daysIn_ge ((y + 1 : Nat) : Int) ((1 : Nat) : Int)
        have hDy : Date (y + 1) 1 1 ∨ y + 1 = 10000 := by
          by_cases hy : y = 9999
          · exact .inr (by omega)
          · exact .inl ⟨by omega, by omega, by decide, by decide, by decide, by omega⟩
        dsimp only [tNext]
        exact ⟨_, rfl, _, 1, rfl, rfl, by show 3 ≤ _; rw [sizeLine_eq]; decide, fun p hp => q (y + 1) 1 1 (by unfold dayNo; rw [show ((y + 1 : Nat) : Int) = (y : Int) + 1 by omega]; omega) hDy _ p ((s1.trans s2).trans (same_upd hp)) (fresh_same (s1.trans s2) hp) upd_same⟩
end
end K13

namespace K13
open PySem PySem.Spec PyProof.Rows L2 LH
section
variable {P : Program} {w : World} {K : PySem.W.Frag} {mg : Str → Option Value} {base : Heap} {tk : Nat → Tok} {ca : Nat → Addr} {dn md C : Addr}
theorem sh_pair (i j : Int) : SeqAt.shaped (.tuple [.int i, .int j]) = true := by simp [SeqAt.shaped, PyData.canLay0, PyData.canLayAll0, PyData.depth, PyData.depthAll]
theorem eqv_pair {i i' : Int} (j : Int) (h : i = i') : PyData.eqv (.tuple [.int i, .int j]) (.tuple [.int i', .int j]) = true := by
  subst h
  simp [PyData.eqv, PyData.eqvAll]
theorem dp_pair {H : Hp} {p : Addr} {i j : Int} (e : H p = some (.tup [.int i, .int j])) : Dp K H (.ref p) (.tuple [.int i, .int j]) := .tup (.inl (.inl e)) (.cons (.int _) (.cons (.int _) .nil))
theorem n2z : 2 ≤ sizeLine := by rw [sizeLine_eq]; decide
theorem tl_time (y m d l : Nat) (a : Int) : (SX.S (timeL y m d l a)).length ≤ sizeLine ∧ cutS (SX.S (timeL y m d l a)) (some 11) (some 14) = dayNames.getD (dayNo y m d % 7).toNat Str.empty := by
  obtain ⟨x1, x2, x3, hn⟩ := name3 (dayNo y m d % 7).toNat (by omega)
  have e : TL.tl (SX.S (timeL y m d l a)) = dateL y m d ++ [32] ++ [x1, x2, x3] ++ [32] ++ (two (l / 60) ++ [58] ++ two (l % 60)) ++ [32] ++ aheadL a := by
    show timeL y m d l a = _
    unfold timeL
    rw [hn]
  refine ⟨?_, ?_⟩
  · rw [TL.len_tl, e, sizeLine_eq]
    show 26 ≤ _
    decide
  · show cutS (SX.S (timeL y m d l a)) (some ((11 : Nat) : Int)) (some ((14 : Nat) : Int)) = _
    rw [cutS_at, e]
    refine TL.ext_tl ?_
    rw [hn]
    rfl
/-! ### law -/
abbrev s_law : Stmt := topS 44
abbrev N_law : List Str := ["_law_script", "_law_date_here", "_law_begin", "_law_names", "_law_name", "_law_k", "_law_cell_here", "_law_number", "_law_left", "_law_minute", "_law_text_here", "_law_ahead_here", "_law_other"]
abbrev P_law : List Str := ["_law_script"]
theorem sc_law : FnScope N_law ["_law_script"] (defScope s_law) := ⟨rfl, rfl, rfl, by decide +kernel, rfl, by decide +kernel, by decide +kernel⟩
def spLaw (K : PySem.W.Frag) : Sp := fun vs H Q _ => ∃ (a : Addr) (ns : List Int), vs = [.ref a] ∧ SqL K H a (ns.map V.int) ∧ ns.length ≤ 63 ∧ ∀ H', Q (.bl true) H'
theorem ok_law {f fC fM fS fD fT fX fO fA fN : Addr} {fd fdC fdM fdS fdD fdT fdX fdO fdA fdN : FuncData} (F : Fun K "law" "law" s_law f fd) (T : Tx K mg tk dn md)
    (D__law_cell : Def P w K mg base "_law_cell" 1 fC fdC P__law_cell (sp_cell K)) (D__law_mixed : Def P w K mg base "_law_mixed" 1 fM fdM P__law_mixed sp_mixed) (D__law_start : Def P w K mg base "_law_start" 4 fS fdS P__law_start sp_date) (D__law_day : Def P w K mg base "_law_day" 1 fD fdD P__law_day sp_day)
    (D__law_text : Def P w K mg base "_law_text" 2 fX fdX P__law_text sp_text) (D_time_text : Def P w K mg base "time_text" 5 fT fdT P_time_text sp_ttext) (D_time_of : Def P w K mg base "time_of" 6 fO fdO P_time_of sp_timeof) (D__law_ahead : Def P w K mg base "_law_ahead" 1 fA fdA P__law_ahead sp_lahead) (D__law_next_day : Def P w K mg base "_law_next_day" 3 fN fdN P__law_next_day sp_nextday) :
    FnOk P w K mg base CX0 7 f fd ["_law_script"] (spLaw K) := by
  refine F.ok sc_law (fun vs H Q E h => ?_) (fun cdv A outer s H vs Q E hr h => ?_)
  · obtain ⟨a, ns, rfl, _⟩ := h
    rfl
  · have nd := sc_law.nd
    obtain ⟨a, ns, rfl, hS, hlen, q⟩ := h
    refine ⟨_, (pss_cons (ps_set (i := 1) nd rfl (.inl rfl) (pe_def D__law_start (hr.mono (by decide)) (pa_cons (pe_def D__law_mixed (hr.mono (by decide)) (pa_cons (pe_def D__law_cell (hr.mono (by decide)) (pa_cons (pv 0) (pa_cons pe_int pa_nil))) (pa_cons pe_int pa_nil))) pa_nil)))
      (pss_cons (ps_set (i := 2) nd rfl (.inl rfl) (pe_op op_mul pe_int (pe_def D__law_day (hr.mono (by decide)) (pa_cons (pe_ix (ixT K) (pv 1) pe_int (fun _ _ => rfl)) (pa_cons (pe_ix (ixT K) (pv 1) pe_int (fun _ _ => rfl)) (pa_cons (pe_ix (ixT K) (pv 1) pe_int (fun _ _ => rfl)) pa_nil))))))
      (pss_cons (ps_set (i := 3) nd rfl (.inl rfl) (pe_lst (pa_cons pe_str (pa_cons pe_str (pa_cons pe_str (pa_cons pe_str (pa_cons pe_str (pa_cons pe_str (pa_cons pe_str pa_nil)))))))))
      (pss_cons (ps_set (i := 4) nd rfl (.inl rfl) (pe_op op_mod (pe_op op_fdiv (pv 2) pe_int) pe_int))
      (pss_cons (ps_for PassesOwn.never rfl (pi_enum (by rfl) T.n_enumerate (pa_cons (pe_slice (slL K) (pv 0) po_none (po_some pe_int)) pa_nil)) (pg_tup rfl (pgs_cons (pg_name (i := 5) nd rfl (Or.inl rfl)) (pgs_cons (pg_name (i := 6) nd rfl (Or.inl rfl)) pgs_nil)))
        (pss_cons (ps_if (pt_cmpR op_gt (pe_ix (ixT K) (pv 1) pe_int (fun _ _ => rfl)) pe_int (nomark _))
          (pss_one ps_break)
          pss_nil)
        (pss_cons (ps_set (i := 7) nd rfl (.inl rfl) (pe_def D__law_mixed (hr.mono (by decide)) (pa_cons (pv 6) (pa_cons (pv 5) pa_nil))))
        (pss_cons (ps_set (i := 8) nd rfl (.inl rfl) (pe_op op_mod (pv 7) pe_int))
        (pss_cons (ps_set (i := 9) nd rfl (.inl rfl) (pe_op op_add (pe_op op_add (pv 2) (pe_op op_mul pe_int (pv 5))) (pv 8)))
        (pss_cons (ps_set (i := 10) nd rfl (.inl rfl) (pe_def D__law_text (hr.mono (by decide)) (pa_cons (pe_ix (ixT K) (pv 1) pe_int (fun _ _ => rfl)) (pa_cons (pe_ix (ixT K) (pv 1) pe_int (fun _ _ => rfl)) (pa_cons (pe_ix (ixT K) (pv 1) pe_int (fun _ _ => rfl)) (pa_cons (pv 8) (pa_cons pe_int pa_nil)))))))
        (pss_cons (ps_if (PW.pt (pw_or (pt_cmpR op_ne (pe_def D_time_text (hr.mono (by decide)) (pa_cons (pv 9) (pa_cons pe_int pa_nil))) (pv 10) (nomark _)) (pw_or (pt_cmpR (oNeD K hr.units) (pe_def D_time_of (hr.mono (by decide)) (pa_cons (pv 10) pa_nil)) (pe_tup (pa_cons (pv 9) (pa_cons pe_int pa_nil))) (nomark _)) (pw_or1 (pt_cmpR op_ne (pe_slice sl_str (pv 10) (po_some pe_int) (po_some pe_int)) (pe_ix (ixL K) (pv 3) (pe_op op_mod (pe_op op_add (pv 4) (pv 5)) pe_int) (fun _ _ => rfl)) (nomark _))))))
          (pss_one (ps_ret pe_bl))
          pss_nil)
        (pss_cons (ps_set (i := 11) nd rfl (.inl rfl) (pe_def D__law_ahead (hr.mono (by decide)) (pa_cons (pe_op op_fdiv (pv 7) pe_int) pa_nil)))
        (pss_cons (ps_set (i := 12) nd rfl (.inl rfl) (pe_def D__law_text (hr.mono (by decide)) (pa_cons (pe_ix (ixT K) (pv 1) pe_int (fun _ _ => rfl)) (pa_cons (pe_ix (ixT K) (pv 1) pe_int (fun _ _ => rfl)) (pa_cons (pe_ix (ixT K) (pv 1) pe_int (fun _ _ => rfl)) (pa_cons (pv 8) (pa_cons (pv 11) pa_nil)))))))
        (pss_cons (ps_if (PW.pt (pw_or (pt_cmpR (oNeD K hr.units) (pe_def D_time_of (hr.mono (by decide)) (pa_cons (pv 12) pa_nil)) (pe_tup (pa_cons (pe_op op_sub (pv 9) (pv 11)) (pa_cons (pv 11) pa_nil))) (nomark _)) (pw_or1 (pt_cmpR op_ne (pe_def D_time_text (hr.mono (by decide)) (pa_cons (pe_op op_sub (pv 9) (pv 11)) (pa_cons (pv 11) pa_nil))) (pv 12) (nomark _)))))
          (pss_one (ps_ret pe_bl))
          pss_nil)
        (pss_one (ps_set (i := 1) nd rfl (.inl rfl) (pe_def D__law_next_day (hr.mono (by decide)) (pa_cons (pe_ix (ixT K) (pv 1) pe_int (fun _ _ => rfl)) (pa_cons (pe_ix (ixT K) (pv 1) pe_int (fun _ _ => rfl)) (pa_cons (pe_ix (ixT K) (pv 1) pe_int (fun _ _ => rfl)) pa_nil))))))))))))))))
      (pss_one (ps_ret (pe_cmpR (oEqD K hr.units) (pe_def D_time_of (hr.mono (by decide)) (pa_cons (pe_def D_time_text (hr.mono (by decide)) (pa_cons (pv 2) (pa_cons pe_int pa_nil))) pa_nil)) (pe_tup (pa_cons (pv 2) (pa_cons pe_int pa_nil))) (nomark _))))))))), ?_⟩
    dsimp only [gName, tSeq, tAsg]
    have hM0 := mixed_lt (ns.getD 0 0) 0
    refine ⟨_, rfl, a, ns, 0, rfl, hS, fun H1 s1 => ⟨_, 0, rfl, by decide, by decide, fun H2 s2 => ⟨_, rfl, hM0.1, by omega, fun y0 m0 d0 hD0 H3 p0 s3 hp0 e0 => ?_⟩⟩⟩
    have hend : ∀ (x1 : Option V) (rest : L2.St) (H' : Hp), tRet (tOp (rEqD K) (tCall sp_timeof [] E0 (tCons (tCall sp_ttext [] E0 (tCons (tVar 2) (tCons (tC (V.int 0)) tNil))) tNil)) (tTup (tCons (tVar 2) (tCons (tC (V.int 0)) tNil)))) { nx := fun x H' => Q V.non H', rt := Q } (some (.ref a) :: x1 :: some (.int (1440 * dayNo y0 m0 d0)) :: rest) H' := by
      intro x1 rest H'
      refine ⟨_, rfl, y0, m0, d0, 0, 0, by simp, hD0, by decide, by decide, fun H1 s1 => ⟨y0, m0, d0, 0, 0, rfl, hD0, by decide, by decide, fun H2 p s2 hp e2 => ⟨_, rfl, n2z, fun p2 hp2 => ⟨_, _, dp_pair (same_upd hp2 _ _ e2), dp_pair upd_same, sh_pair _ _, sh_pair _ _, ?_⟩⟩⟩⟩
      rw [eqv_pair _ (by simp)]
      exact q _
    have f0 : ∀ y m d : Nat, atI [V.int (y : Nat), .int (m : Nat), .int (d : Nat)] 0 = some (.int (y : Nat)) := fun _ _ _ => rfl
    have f1 : ∀ y m d : Nat, atI [V.int (y : Nat), .int (m : Nat), .int (d : Nat)] 1 = some (.int (m : Nat)) := fun _ _ _ => rfl
    have f2 : ∀ y m d : Nat, atI [V.int (y : Nat), .int (m : Nat), .int (d : Nat)] 2 = some (.int (d : Nat)) := fun _ _ _ => rfl
    refine ⟨_, rfl, p0, _, 0, _, rfl, rfl, .inl (.inl e0), f0 _ _ _, _, rfl, p0, _, 1, _, rfl, rfl, .inl (.inl e0), f1 _ _ _, _, rfl, p0, _, 2, _, rfl, rfl, .inl (.inl e0), f2 _ _ _, y0, m0, d0, rfl, hD0.2.2.1, hD0.2.2.2.1, fun H4 s4 => ⟨1440, _, rfl, rfl, .inl ⟨by decide, by decide⟩, ?_⟩⟩
    refine ⟨by show 7 ≤ _; rw [sizeLine_eq]; decide, fun pn hpn => ?_⟩
    have s5 := same_upd (o := .lst (dayNames.map V.str)) hpn
    have en : (upd H4 pn (.lst (dayNames.map V.str))) pn = some (.lst (dayNames.map V.str)) := upd_same
    refine ⟨_, rfl, _, 1440, rfl, rfl, ⟨by decide, by decide⟩, _, 7, rfl, rfl, (show (0 : Int) < 7 by decide), ?_⟩
    have s05 := (((s1.trans s2).trans s3).trans s4).trans s5
    refine ⟨.ref a, rfl, 63, rfl, a, _, rfl, s05.seq hS, fun c nc => ?_⟩
    have ecut : cutV (ns.map V.int) none (some 63) = ns.map V.int := by
      rw [show (63 : Int) = ((63 : Nat) : Int) from rfl, cutV_to, List.take_of_length_le (by rw [List.length_map]; omega)]
    rw [ecut]
    have s6 := s05.trans (same_upd (o := .lst (ns.map V.int)) nc)
    have en6 := same_upd (o := .lst (ns.map V.int)) nc _ _ en
    have e06 := same_upd (o := .lst (ns.map V.int)) nc _ _ (s5 _ _ (s4 _ _ e0))
    refine ⟨c, ns.map V.int, rfl, .inl (.inl upd_same), for_it walk_enum (fun i σ H' => ∃ (y m d : Nat) (p : Addr) (x5 x6 x7 x8 x9 x10 x11 x12 : Option V), σ = [some (.ref a), some (.ref p), some (.int (1440 * dayNo y0 m0 d0)), some (.ref pn), some (.int (1440 * dayNo y0 m0 d0 / 1440 % 7)), x5, x6, x7, x8, x9, x10, x11, x12] ∧ Same H H' ∧ H' c = some (.lst (ns.map V.int)) ∧ H' pn = some (.lst (dayNames.map V.str)) ∧ H' p = some (.tup [.int (y : Nat), .int (m : Nat), .int (d : Nat)]) ∧ dayNo y m d = dayNo y0 m0 d0 + i ∧ (Date y m d ∨ y = 10000))
      ⟨y0, m0, d0, p0, none, none, none, none, none, none, none, none, rfl, s6, upd_same, en6, e06, by simp, .inl hD0⟩
      (fun i σ H' _ h => by obtain ⟨_, _, _, _, _, _, _, _, _, _, _, _, rfl, _, e, _⟩ := h; exact .inl (.inl e)) (fun i x σ H' H'' hi hP hy => ?_) (fun σ H' hP => ?_)⟩
    · obtain ⟨y, m, d, p, x5, x6, x7, x8, x9, x10, x11, x12, rfl, sm, ec, en, ep, hno, hD⟩ := hP
      obtain ⟨U, v1, v2, rfl, nU, rfl, g1, g2⟩ := hy
      rw [List.length_map] at hi
      have g2 : (ns.map V.int)[i]? = some v2 := g2
      rw [List.getElem?_map, List.getElem?_eq_getElem hi] at g2
      obtain rfl := Option.some.inj g1
      obtain rfl := Option.some.inj g2
      have sU := same_upd (o := .tup [.int (i : Nat), .int ns[i]]) nU
      refine ⟨U, _, rfl, .inl (.inl upd_same), rfl, _, _, rfl, _, _, rfl, rfl, ?_⟩
      have hy9 : y ≤ 10000 := by rcases hD with ⟨_, h, _⟩ | h <;> omega
      refine ifT (decide (y = 10000)) (fun k q1 => ⟨_, rfl, p, _, 0, _, rfl, rfl, .inl (.inl (sU _ _ ep)), f0 _ _ _, _, _, rfl, rfl, _, rfl, TellB.eq (decide_eq_decide.mpr (by omega)) q1 _ (Same.refl _)⟩) (fun h H1 s1 => hend _ _ _) (fun h H1 s1 => ?_)
      have hD : Date y m d := by
        rcases hD with h' | h'
        · exact h'
        · exact absurd h' (of_decide_eq_false h)
      dsimp only [tNext, tSeq]
      have sA := sU.trans s1
      refine ⟨_, rfl, _, rfl, ns[i], (i : Int), rfl, by omega, by omega, fun H2 s2' => ?_⟩
      have hM := mixed_lt ns[i] (i : Int)
      generalize mixed ns[i] (i : Int) = M at hM
      have sB := sA.trans s2'
      obtain ⟨l, hl⟩ : ∃ l : Nat, M % 1440 = (l : Int) := ⟨(M % 1440).toNat, by omega⟩
      have hl2 : l < 1440 := by omega
      refine ⟨_, rfl, _, 1440, rfl, rfl, (show (0 : Int) < 1440 by decide), ?_⟩
      dsimp only [gName]
      rw [hl]
      refine ⟨_, rfl, _, rfl, 1440, _, rfl, rfl, .inl ⟨by decide, by decide⟩, _, _, rfl, rfl, _, rfl, _, _, rfl, rfl, ?_⟩
      dsimp only [gName]
      rw [show 1440 * dayNo y0 m0 d0 + 1440 * (i : Int) + (l : Int) = 1440 * dayNo y m d + (l : Int) by omega]
      have ep2 := sB _ _ ep
      refine ⟨_, rfl, p, _, 0, _, rfl, rfl, .inl (.inl ep2), f0 _ _ _, _, rfl, p, _, 1, _, rfl, rfl, .inl (.inl ep2), f1 _ _ _, _, rfl, p, _, 2, _, rfl, rfl, .inl (.inl ep2), f2 _ _ _, _, rfl, y, m, d, l, 0, rfl, hD, hl2, by decide, fun H3 s3' => ?_⟩
      dsimp only [gName, tSeq]
      have sC := sB.trans s3'
      have hsl := tl_time y m d l 0
      have hat : atI (dayNames.map V.str) ((1440 * dayNo y0 m0 d0 / 1440 % 7 + (i : Int)) % 7) = some (.str (dayNames.getD (dayNo y m d % 7).toNat Str.empty)) := by
        rw [show (1440 * dayNo y0 m0 d0 / 1440 % 7 + (i : Int)) % 7 = ((dayNo y m d % 7).toNat : Int) by omega]
        have hl : (dayNo y m d % 7).toNat < dayNames.length := by show _ < 7; omega
        refine atI_nat ?_
        rw [List.getElem?_map, List.getElem?_eq_getElem hl, List.getD_eq_getElem?_getD, List.getElem?_eq_getElem hl]
        rfl
      refine ifT false (fun k q1 => orT false false (fun k q1 => ⟨_, rfl, y, m, d, l, 0, by simp, hD, hl2, by decide, fun H5 s5 => ⟨_, rfl, rfl, _, rfl, TellB.eq (by simp) q1 _ s5⟩⟩) (fun _ H5 k s5 q1 => orT false false (fun k q1 => ⟨_, rfl, y, m, d, l, 0, rfl, hD, hl2, by decide, fun H6 p2 s6 hp2 e2 => ⟨_, rfl, n2z, fun p3 hp3 => ⟨_, _, dp_pair (same_upd hp3 _ _ e2), dp_pair upd_same, sh_pair _ _, sh_pair _ _, _, rfl, TellB.eq (by rw [eqv_pair _ (by simp)]; rfl) q1 _ (s6.trans (same_upd hp3))⟩⟩⟩) (fun _ H6 k s6 q1 => ⟨_, rfl, 11, rfl, 14, rfl, _, rfl, hsl.1, _, rfl, _, rfl, _, rfl, _, _, rfl, rfl, _, 7, rfl, rfl, (show (0 : Int) < 7 by decide), pn, _, _, _, rfl, rfl, .inl (.inl (s6 _ _ (s5 _ _ (sC _ _ en)))), hat, rfl, _, rfl, TellB.eq (by rw [hsl.2]; simp) q1 _ (Same.refl _)⟩) q1) q1) (fun h => nomatch h) (fun _ H4 s4 => ?_)
      dsimp only [tNext, tSeq]
      refine ⟨_, rfl, _, 1440, rfl, rfl, ⟨by decide, by decide⟩, M / 1440, rfl, by omega, fun j hj H5 s5 => ?_⟩
      dsimp only [gName, tSeq]
      have sD := sC.trans (s4.trans s5)
      have ep5 := sD _ _ ep
      refine ⟨_, rfl, p, _, 0, _, rfl, rfl, .inl (.inl ep5), f0 _ _ _, _, rfl, p, _, 1, _, rfl, rfl, .inl (.inl ep5), f1 _ _ _, _, rfl, p, _, 2, _, rfl, rfl, .inl (.inl ep5), f2 _ _ _, _, rfl, _, rfl, y, m, d, l, j, rfl, hD, hl2, hj, fun H6 s6 => ?_⟩
      dsimp only [gName, tSeq]
      refine ifT false (fun k q1 => orT false false (fun k q1 => ⟨_, rfl, y, m, d, l, j, rfl, hD, hl2, hj, fun H7 p2 s7 hp2 e2 => ⟨_, rfl, _, rfl, _, _, rfl, rfl, _, rfl, n2z, fun p3 hp3 => ⟨_, _, dp_pair (same_upd hp3 _ _ e2), dp_pair upd_same, sh_pair _ _, sh_pair _ _, _, rfl, TellB.eq (by rw [eqv_pair _ rfl]; rfl) q1 _ (s7.trans (same_upd hp3))⟩⟩⟩) (fun _ H7 k s7 q1 => ⟨_, rfl, _, rfl, _, _, rfl, rfl, _, rfl, y, m, d, l, j, rfl, hD, hl2, hj, fun H8 s8 => ⟨_, rfl, rfl, _, rfl, TellB.eq (by simp) q1 _ s8⟩⟩) q1) (fun h => nomatch h) (fun _ H7 s7 => ?_)
      dsimp only [tNext]
      have sE := sD.trans (s6.trans s7)
      have ep7 := sE _ _ ep
      refine ⟨_, rfl, p, _, 0, _, rfl, rfl, .inl (.inl ep7), f0 _ _ _, _, rfl, p, _, 1, _, rfl, rfl, .inl (.inl ep7), f1 _ _ _, _, rfl, p, _, 2, _, rfl, rfl, .inl (.inl ep7), f2 _ _ _, y, m, d, rfl, hD, fun y' m' d' hno' hDn H8 p' s8 hp' e' => ?_⟩
      have sF := sE.trans s8
      exact ⟨y', m', d', p', _, _, _, _, _, _, _, _, rfl, sm.trans sF, sF _ _ ec, sF _ _ en, e', by omega, hDn⟩
    · obtain ⟨y, m, d, p, x5, x6, x7, x8, x9, x10, x11, x12, rfl, _⟩ := hP
      exact hend _ _ _
end
end K13

namespace K13
open PySem PySem.Spec PyProof.Rows L2 LH
set_option maxHeartbeats 2000000 in
theorem all_mk {l : PySem.W.OpenLaw} {w : World} {K : PySem.W.Frag} {h : Heap} {mg : Str → Option Value} {fa : Addr} {f0 f1 f2 f3 f4 f5 f6 f7 f8 f9 f10 f11 f12 f13 f14 f15 f16 f17 f18 f19 f20 f21 f22 f23 f24 f25 f26 f27 f28 f29 f30 f31 f32 f33 f34 : Addr} {t1 t2 t3 t4 : Tok} (X : K.In h) (G : h.Ns mainGlobals mg) (hfa : mg "law" = some (.ref fa))
    {cReader : Addr}
    (mReader : PySem.W.nsIn K mainGlobals "Reader" = some (some (.ref cReader))) (pgReader : PySem.W.plainGet K cReader Str.empty = true) (hdReader : PySem.W.hasDictIn K cReader = true) (poReader : PySem.W.plainOver K cReader = true) (saReader : PySem.W.findIn K (.ref cReader) "__setattr__" = some (some (.builtin "object.__setattr__"))) (mkReader : PySem.W.makesIn K cReader = true) (kpReader : PySem.W.keepIn K (.ref cReader) = true) (naReader0 : PySem.W.findIn K (.ref cReader) "signs" = some none) (naReader1 : PySem.W.findIn K (.ref cReader) "at" = some none)
    {dn : Addr} {oddn : Option Addr} {ndn : Nat} {sldn : Array (Option Value)} {tdn0 tdn1 tdn2 tdn3 tdn4 tdn5 tdn6 : Tok}
    (vdn : PySem.W.nsIn K mainGlobals "DAY_NAMES" = some (some (.ref dn))) (ldn : K.lookup dn = some ⟨.type "tuple", oddn, .seq #[.str (Str.ofString "Mon") tdn0, .str (Str.ofString "Tue") tdn1, .str (Str.ofString "Wed") tdn2, .str (Str.ofString "Thu") tdn3, .str (Str.ofString "Fri") tdn4, .str (Str.ofString "Sat") tdn5, .str (Str.ofString "Sun") tdn6] ndn, sldn⟩)
    {md : Addr} {odmd : Option Addr} {nmd : Nat} {slmd : Array (Option Value)} {tmd0 tmd1 tmd2 tmd3 tmd4 tmd5 tmd6 tmd7 tmd8 tmd9 tmd10 tmd11 : Tok}
    (vmd : PySem.W.nsIn K mainGlobals "MONTH_DAYS" = some (some (.ref md))) (lmd : K.lookup md = some ⟨.type "tuple", odmd, .seq #[.int 31 tmd0, .int 28 tmd1, .int 31 tmd2, .int 30 tmd3, .int 31 tmd4, .int 30 tmd5, .int 31 tmd6, .int 31 tmd7, .int 30 tmd8, .int 31 tmd9, .int 30 tmd10, .int 31 tmd11] nmd, slmd⟩)
    {od0 an0 : Option Addr} {sl0 : Array (Option Value)} {oc0 kV0 dc0 pm0 cd0 ct0 : Value}
    (a0 : PySem.W.nsIn K mainGlobals "_law_cell" = some (some (.ref f0)))
    (l0 : K.lookup f0 = some ⟨oc0, od0, .func (PySem.W.fnOf "_law_cell" "_law_cell" (defArgs s__law_cell) (defBody s__law_cell) (defScope s__law_cell) .none kV0 dc0 pm0 an0 cd0 ct0), sl0⟩) (c0 : PySem.W.codeIn K cd0 "_law_cell" = true) (k0 : PySem.W.keepIn K (.ref f0) = true)
    {od1 an1 : Option Addr} {sl1 : Array (Option Value)} {oc1 kV1 dc1 pm1 cd1 ct1 : Value}
    (a1 : PySem.W.nsIn K mainGlobals "_law_mixed" = some (some (.ref f1)))
    (l1 : K.lookup f1 = some ⟨oc1, od1, .func (PySem.W.fnOf "_law_mixed" "_law_mixed" (defArgs s__law_mixed) (defBody s__law_mixed) (defScope s__law_mixed) .none kV1 dc1 pm1 an1 cd1 ct1), sl1⟩) (c1 : PySem.W.codeIn K cd1 "_law_mixed" = true) (k1 : PySem.W.keepIn K (.ref f1) = true)
    {od2 an2 : Option Addr} {sl2 : Array (Option Value)} {oc2 kV2 dc2 pm2 cd2 ct2 : Value}
    (a2 : PySem.W.nsIn K mainGlobals "_law_next" = some (some (.ref f2)))
    (l2 : K.lookup f2 = some ⟨oc2, od2, .func (PySem.W.fnOf "_law_next" "_law_next" (defArgs s__law_next) (defBody s__law_next) (defScope s__law_next) .none kV2 dc2 pm2 an2 cd2 ct2), sl2⟩) (c2 : PySem.W.codeIn K cd2 "_law_next" = true) (k2 : PySem.W.keepIn K (.ref f2) = true)
    {od3 an3 : Option Addr} {sl3 : Array (Option Value)} {oc3 kV3 dc3 pm3 cd3 ct3 : Value}
    (a3 : PySem.W.nsIn K mainGlobals "_law_is_long" = some (some (.ref f3)))
    (l3 : K.lookup f3 = some ⟨oc3, od3, .func (PySem.W.fnOf "_law_is_long" "_law_is_long" (defArgs s__law_is_long) (defBody s__law_is_long) (defScope s__law_is_long) .none kV3 dc3 pm3 an3 cd3 ct3), sl3⟩) (c3 : PySem.W.codeIn K cd3 "_law_is_long" = true) (k3 : PySem.W.keepIn K (.ref f3) = true)
    {od4 an4 : Option Addr} {sl4 : Array (Option Value)} {oc4 kV4 dc4 pm4 cd4 ct4 : Value}
    (a4 : PySem.W.nsIn K mainGlobals "_law_many_days" = some (some (.ref f4)))
    (l4 : K.lookup f4 = some ⟨oc4, od4, .func (PySem.W.fnOf "_law_many_days" "_law_many_days" (defArgs s__law_many_days) (defBody s__law_many_days) (defScope s__law_many_days) .none kV4 dc4 pm4 an4 cd4 ct4), sl4⟩) (c4 : PySem.W.codeIn K cd4 "_law_many_days" = true) (k4 : PySem.W.keepIn K (.ref f4) = true)
    {od5 an5 : Option Addr} {sl5 : Array (Option Value)} {oc5 kV5 dc5 pm5 cd5 ct5 : Value}
    (a5 : PySem.W.nsIn K mainGlobals "_law_date" = some (some (.ref f5)))
    (l5 : K.lookup f5 = some ⟨oc5, od5, .func (PySem.W.fnOf "_law_date" "_law_date" (defArgs s__law_date) (defBody s__law_date) (defScope s__law_date) .none kV5 dc5 pm5 an5 cd5 ct5), sl5⟩) (c5 : PySem.W.codeIn K cd5 "_law_date" = true) (k5 : PySem.W.keepIn K (.ref f5) = true)
    {od6 an6 : Option Addr} {sl6 : Array (Option Value)} {oc6 kV6 dc6 pm6 cd6 ct6 : Value}
    (a6 : PySem.W.nsIn K mainGlobals "_law_start" = some (some (.ref f6)))
    (l6 : K.lookup f6 = some ⟨oc6, od6, .func (PySem.W.fnOf "_law_start" "_law_start" (defArgs s__law_start) (defBody s__law_start) (defScope s__law_start) .none kV6 dc6 pm6 an6 cd6 ct6), sl6⟩) (c6 : PySem.W.codeIn K cd6 "_law_start" = true) (k6 : PySem.W.keepIn K (.ref f6) = true)
    {od7 an7 : Option Addr} {sl7 : Array (Option Value)} {oc7 kV7 dc7 pm7 cd7 ct7 : Value}
    (a7 : PySem.W.nsIn K mainGlobals "_law_day" = some (some (.ref f7)))
    (l7 : K.lookup f7 = some ⟨oc7, od7, .func (PySem.W.fnOf "_law_day" "_law_day" (defArgs s__law_day) (defBody s__law_day) (defScope s__law_day) .none kV7 dc7 pm7 an7 cd7 ct7), sl7⟩) (c7 : PySem.W.codeIn K cd7 "_law_day" = true) (k7 : PySem.W.keepIn K (.ref f7) = true)
    {od8 an8 : Option Addr} {sl8 : Array (Option Value)} {oc8 kV8 dc8 pm8 cd8 ct8 : Value}
    (a8 : PySem.W.nsIn K mainGlobals "_law_two" = some (some (.ref f8)))
    (l8 : K.lookup f8 = some ⟨oc8, od8, .func (PySem.W.fnOf "_law_two" "_law_two" (defArgs s__law_two) (defBody s__law_two) (defScope s__law_two) .none kV8 dc8 pm8 an8 cd8 ct8), sl8⟩) (c8 : PySem.W.codeIn K cd8 "_law_two" = true) (k8 : PySem.W.keepIn K (.ref f8) = true)
    {od9 an9 : Option Addr} {sl9 : Array (Option Value)} {oc9 kV9 dc9 pm9 cd9 ct9 : Value}
    (a9 : PySem.W.nsIn K mainGlobals "_law_text" = some (some (.ref f9)))
    (l9 : K.lookup f9 = some ⟨oc9, od9, .func (PySem.W.fnOf "_law_text" "_law_text" (defArgs s__law_text) (defBody s__law_text) (defScope s__law_text) .none kV9 dc9 pm9 an9 cd9 ct9), sl9⟩) (c9 : PySem.W.codeIn K cd9 "_law_text" = true) (k9 : PySem.W.keepIn K (.ref f9) = true)
    {od10 an10 : Option Addr} {sl10 : Array (Option Value)} {oc10 kV10 dc10 pm10 cd10 ct10 : Value}
    (a10 : PySem.W.nsIn K mainGlobals "is_number" = some (some (.ref f10)))
    (l10 : K.lookup f10 = some ⟨oc10, od10, .func (PySem.W.fnOf "is_number" "is_number" (defArgs s_is_number) (defBody s_is_number) (defScope s_is_number) .none kV10 dc10 pm10 an10 cd10 ct10), sl10⟩) (c10 : PySem.W.codeIn K cd10 "is_number" = true) (k10 : PySem.W.keepIn K (.ref f10) = true)
    {od11 an11 : Option Addr} {sl11 : Array (Option Value)} {oc11 kV11 dc11 pm11 cd11 ct11 : Value}
    (a11 : PySem.W.nsIn K mainGlobals "has_leap_day" = some (some (.ref f11)))
    (l11 : K.lookup f11 = some ⟨oc11, od11, .func (PySem.W.fnOf "has_leap_day" "has_leap_day" (defArgs s_has_leap_day) (defBody s_has_leap_day) (defScope s_has_leap_day) .none kV11 dc11 pm11 an11 cd11 ct11), sl11⟩) (c11 : PySem.W.codeIn K cd11 "has_leap_day" = true) (k11 : PySem.W.keepIn K (.ref f11) = true)
    {od12 an12 : Option Addr} {sl12 : Array (Option Value)} {oc12 kV12 dc12 pm12 cd12 ct12 : Value}
    (a12 : PySem.W.nsIn K mainGlobals "days_ahead" = some (some (.ref f12)))
    (l12 : K.lookup f12 = some ⟨oc12, od12, .func (PySem.W.fnOf "days_ahead" "days_ahead" (defArgs s_days_ahead) (defBody s_days_ahead) (defScope s_days_ahead) .none kV12 dc12 pm12 an12 cd12 ct12), sl12⟩) (c12 : PySem.W.codeIn K cd12 "days_ahead" = true) (k12 : PySem.W.keepIn K (.ref f12) = true)
    {od13 an13 : Option Addr} {sl13 : Array (Option Value)} {oc13 kV13 dc13 pm13 cd13 ct13 : Value}
    (a13 : PySem.W.nsIn K mainGlobals "day_text" = some (some (.ref f13)))
    (l13 : K.lookup f13 = some ⟨oc13, od13, .func (PySem.W.fnOf "day_text" "day_text" (defArgs s_day_text) (defBody s_day_text) (defScope s_day_text) .none kV13 dc13 pm13 an13 cd13 ct13), sl13⟩) (c13 : PySem.W.codeIn K cd13 "day_text" = true) (k13 : PySem.W.keepIn K (.ref f13) = true)
    {od14 an14 : Option Addr} {sl14 : Array (Option Value)} {oc14 kV14 dc14 pm14 cd14 ct14 : Value}
    (a14 : PySem.W.nsIn K mainGlobals "day_name" = some (some (.ref f14)))
    (l14 : K.lookup f14 = some ⟨oc14, od14, .func (PySem.W.fnOf "day_name" "day_name" (defArgs s_day_name) (defBody s_day_name) (defScope s_day_name) .none kV14 dc14 pm14 an14 cd14 ct14), sl14⟩) (c14 : PySem.W.codeIn K cd14 "day_name" = true) (k14 : PySem.W.keepIn K (.ref f14) = true)
    {od15 an15 : Option Addr} {sl15 : Array (Option Value)} {oc15 kV15 dc15 pm15 cd15 ct15 : Value}
    (a15 : PySem.W.nsIn K mainGlobals "clock_text" = some (some (.ref f15)))
    (l15 : K.lookup f15 = some ⟨oc15, od15, .func (PySem.W.fnOf "clock_text" "clock_text" (defArgs s_clock_text) (defBody s_clock_text) (defScope s_clock_text) .none kV15 dc15 pm15 an15 cd15 ct15), sl15⟩) (c15 : PySem.W.codeIn K cd15 "clock_text" = true) (k15 : PySem.W.keepIn K (.ref f15) = true)
    {od16 an16 : Option Addr} {sl16 : Array (Option Value)} {oc16 kV16 dc16 pm16 cd16 ct16 : Value}
    (a16 : PySem.W.nsIn K mainGlobals "ahead_text" = some (some (.ref f16)))
    (l16 : K.lookup f16 = some ⟨oc16, od16, .func (PySem.W.fnOf "ahead_text" "ahead_text" (defArgs s_ahead_text) (defBody s_ahead_text) (defScope s_ahead_text) .none kV16 dc16 pm16 an16 cd16 ct16), sl16⟩) (c16 : PySem.W.codeIn K cd16 "ahead_text" = true) (k16 : PySem.W.keepIn K (.ref f16) = true)
    {od17 an17 : Option Addr} {sl17 : Array (Option Value)} {oc17 kV17 dc17 pm17 cd17 ct17 : Value}
    (a17 : PySem.W.nsIn K mainGlobals "time_text" = some (some (.ref f17)))
    (l17 : K.lookup f17 = some ⟨oc17, od17, .func (PySem.W.fnOf "time_text" "time_text" (defArgs s_time_text) (defBody s_time_text) (defScope s_time_text) .none kV17 dc17 pm17 an17 cd17 ct17), sl17⟩) (c17 : PySem.W.codeIn K cd17 "time_text" = true) (k17 : PySem.W.keepIn K (.ref f17) = true)
    {od18 an18 : Option Addr} {sl18 : Array (Option Value)} {oc18 kV18 dc18 pm18 cd18 ct18 : Value}
    (a18 : PySem.W.findIn K (.ref cReader) "refuse_number" = some (some (.ref f18))) (fn18 : PySem.W.isFn K (.ref f18) = true)
    (l18 : K.lookup f18 = some ⟨oc18, od18, .func (PySem.W.fnOf "refuse_number" "Reader.refuse_number" (defArgs s_Reader_refuse_number) (defBody s_Reader_refuse_number) (defScope s_Reader_refuse_number) .none kV18 dc18 pm18 an18 cd18 ct18), sl18⟩) (c18 : PySem.W.codeIn K cd18 "Reader.refuse_number" = true) (k18 : PySem.W.keepIn K (.ref f18) = true)
    {od19 an19 : Option Addr} {sl19 : Array (Option Value)} {oc19 kV19 dc19 pm19 cd19 ct19 : Value}
    (a19 : PySem.W.findIn K (.ref cReader) "number" = some (some (.ref f19))) (fn19 : PySem.W.isFn K (.ref f19) = true)
    (l19 : K.lookup f19 = some ⟨oc19, od19, .func (PySem.W.fnOf "number" "Reader.number" (defArgs s_Reader_number) (defBody s_Reader_number) (defScope s_Reader_number) .none kV19 dc19 pm19 an19 cd19 ct19), sl19⟩) (c19 : PySem.W.codeIn K cd19 "Reader.number" = true) (k19 : PySem.W.keepIn K (.ref f19) = true)
    {od20 an20 : Option Addr} {sl20 : Array (Option Value)} {oc20 kV20 dc20 pm20 cd20 ct20 : Value}
    (a20 : PySem.W.findIn K (.ref cReader) "sees" = some (some (.ref f20))) (fn20 : PySem.W.isFn K (.ref f20) = true)
    (l20 : K.lookup f20 = some ⟨oc20, od20, .func (PySem.W.fnOf "sees" "Reader.sees" (defArgs s_Reader_sees) (defBody s_Reader_sees) (defScope s_Reader_sees) .none kV20 dc20 pm20 an20 cd20 ct20), sl20⟩) (c20 : PySem.W.codeIn K cd20 "Reader.sees" = true) (k20 : PySem.W.keepIn K (.ref f20) = true)
    {od21 an21 : Option Addr} {sl21 : Array (Option Value)} {oc21 kV21 dc21 pm21 cd21 ct21 : Value}
    (a21 : PySem.W.findIn K (.ref cReader) "one_of" = some (some (.ref f21))) (fn21 : PySem.W.isFn K (.ref f21) = true)
    (l21 : K.lookup f21 = some ⟨oc21, od21, .func (PySem.W.fnOf "one_of" "Reader.one_of" (defArgs s_Reader_one_of) (defBody s_Reader_one_of) (defScope s_Reader_one_of) .none kV21 dc21 pm21 an21 cd21 ct21), sl21⟩) (c21 : PySem.W.codeIn K cd21 "Reader.one_of" = true) (k21 : PySem.W.keepIn K (.ref f21) = true)
    {od22 an22 : Option Addr} {sl22 : Array (Option Value)} {oc22 kV22 dc22 pm22 cd22 ct22 : Value}
    (a22 : PySem.W.findIn K (.ref cReader) "sees_word" = some (some (.ref f22))) (fn22 : PySem.W.isFn K (.ref f22) = true)
    (l22 : K.lookup f22 = some ⟨oc22, od22, .func (PySem.W.fnOf "sees_word" "Reader.sees_word" (defArgs s_Reader_sees_word) (defBody s_Reader_sees_word) (defScope s_Reader_sees_word) .none kV22 dc22 pm22 an22 cd22 ct22), sl22⟩) (c22 : PySem.W.codeIn K cd22 "Reader.sees_word" = true) (k22 : PySem.W.keepIn K (.ref f22) = true)
    {od23 an23 : Option Addr} {sl23 : Array (Option Value)} {oc23 kV23 dc23 pm23 cd23 ct23 : Value}
    (a23 : PySem.W.findIn K (.ref cReader) "word" = some (some (.ref f23))) (fn23 : PySem.W.isFn K (.ref f23) = true)
    (l23 : K.lookup f23 = some ⟨oc23, od23, .func (PySem.W.fnOf "word" "Reader.word" (defArgs s_Reader_word) (defBody s_Reader_word) (defScope s_Reader_word) .none kV23 dc23 pm23 an23 cd23 ct23), sl23⟩) (c23 : PySem.W.codeIn K cd23 "Reader.word" = true) (k23 : PySem.W.keepIn K (.ref f23) = true)
    {od24 an24 : Option Addr} {sl24 : Array (Option Value)} {oc24 kV24 dc24 pm24 cd24 ct24 : Value}
    (a24 : PySem.W.nsIn K mainGlobals "days_in" = some (some (.ref f24)))
    (l24 : K.lookup f24 = some ⟨oc24, od24, .func (PySem.W.fnOf "days_in" "days_in" (defArgs s_days_in) (defBody s_days_in) (defScope s_days_in) .none kV24 dc24 pm24 an24 cd24 ct24), sl24⟩) (c24 : PySem.W.codeIn K cd24 "days_in" = true) (k24 : PySem.W.keepIn K (.ref f24) = true)
    {od25 an25 : Option Addr} {sl25 : Array (Option Value)} {oc25 kV25 dc25 pm25 cd25 ct25 : Value}
    (a25 : PySem.W.nsIn K mainGlobals "read_day" = some (some (.ref f25)))
    (l25 : K.lookup f25 = some ⟨oc25, od25, .func (PySem.W.fnOf "read_day" "read_day" (defArgs s_read_day) (defBody s_read_day) (defScope s_read_day) .none kV25 dc25 pm25 an25 cd25 ct25), sl25⟩) (c25 : PySem.W.codeIn K cd25 "read_day" = true) (k25 : PySem.W.keepIn K (.ref f25) = true)
    {od26 an26 : Option Addr} {sl26 : Array (Option Value)} {oc26 kV26 dc26 pm26 cd26 ct26 : Value}
    (a26 : PySem.W.nsIn K mainGlobals "read_clock" = some (some (.ref f26)))
    (l26 : K.lookup f26 = some ⟨oc26, od26, .func (PySem.W.fnOf "read_clock" "read_clock" (defArgs s_read_clock) (defBody s_read_clock) (defScope s_read_clock) .none kV26 dc26 pm26 an26 cd26 ct26), sl26⟩) (c26 : PySem.W.codeIn K cd26 "read_clock" = true) (k26 : PySem.W.keepIn K (.ref f26) = true)
    {od27 an27 : Option Addr} {sl27 : Array (Option Value)} {oc27 kV27 dc27 pm27 cd27 ct27 : Value}
    (a27 : PySem.W.nsIn K mainGlobals "read_ahead" = some (some (.ref f27)))
    (l27 : K.lookup f27 = some ⟨oc27, od27, .func (PySem.W.fnOf "read_ahead" "read_ahead" (defArgs s_read_ahead) (defBody s_read_ahead) (defScope s_read_ahead) .none kV27 dc27 pm27 an27 cd27 ct27), sl27⟩) (c27 : PySem.W.codeIn K cd27 "read_ahead" = true) (k27 : PySem.W.keepIn K (.ref f27) = true)
    {od28 an28 : Option Addr} {sl28 : Array (Option Value)} {oc28 kV28 dc28 pm28 cd28 ct28 : Value}
    (a28 : PySem.W.findIn K (.ref cReader) "end" = some (some (.ref f28))) (fn28 : PySem.W.isFn K (.ref f28) = true)
    (l28 : K.lookup f28 = some ⟨oc28, od28, .func (PySem.W.fnOf "end" "Reader.end" (defArgs s_Reader_end) (defBody s_Reader_end) (defScope s_Reader_end) .none kV28 dc28 pm28 an28 cd28 ct28), sl28⟩) (c28 : PySem.W.codeIn K cd28 "Reader.end" = true) (k28 : PySem.W.keepIn K (.ref f28) = true)
    {od29 an29 : Option Addr} {sl29 : Array (Option Value)} {oc29 kV29 dc29 pm29 cd29 ct29 : Value}
    (a29 : PySem.W.nsIn K mainGlobals "read_time" = some (some (.ref f29)))
    (l29 : K.lookup f29 = some ⟨oc29, od29, .func (PySem.W.fnOf "read_time" "read_time" (defArgs s_read_time) (defBody s_read_time) (defScope s_read_time) .none kV29 dc29 pm29 an29 cd29 ct29), sl29⟩) (c29 : PySem.W.codeIn K cd29 "read_time" = true) (k29 : PySem.W.keepIn K (.ref f29) = true)
    {od30 an30 : Option Addr} {sl30 : Array (Option Value)} {oc30 kV30 dc30 pm30 cd30 ct30 : Value}
    (a30 : PySem.W.findIn K (.ref cReader) "__init__" = some (some (.ref f30))) (fn30 : PySem.W.isFn K (.ref f30) = true)
    (l30 : K.lookup f30 = some ⟨oc30, od30, .func (PySem.W.fnOf "__init__" "Reader.__init__" (defArgs s_Reader___init__) (defBody s_Reader___init__) (defScope s_Reader___init__) .none kV30 dc30 pm30 an30 cd30 ct30), sl30⟩) (c30 : PySem.W.codeIn K cd30 "Reader.__init__" = true) (k30 : PySem.W.keepIn K (.ref f30) = true)
    {od31 an31 : Option Addr} {sl31 : Array (Option Value)} {oc31 kV31 dc31 pm31 cd31 ct31 : Value}
    (a31 : PySem.W.nsIn K mainGlobals "time_of" = some (some (.ref f31)))
    (l31 : K.lookup f31 = some ⟨oc31, od31, .func (PySem.W.fnOf "time_of" "time_of" (defArgs s_time_of) (defBody s_time_of) (defScope s_time_of) .none kV31 dc31 pm31 an31 cd31 ct31), sl31⟩) (c31 : PySem.W.codeIn K cd31 "time_of" = true) (k31 : PySem.W.keepIn K (.ref f31) = true)
    {od32 an32 : Option Addr} {sl32 : Array (Option Value)} {oc32 kV32 dc32 pm32 cd32 ct32 : Value}
    (a32 : PySem.W.nsIn K mainGlobals "_law_ahead" = some (some (.ref f32)))
    (l32 : K.lookup f32 = some ⟨oc32, od32, .func (PySem.W.fnOf "_law_ahead" "_law_ahead" (defArgs s__law_ahead) (defBody s__law_ahead) (defScope s__law_ahead) .none kV32 dc32 pm32 an32 cd32 ct32), sl32⟩) (c32 : PySem.W.codeIn K cd32 "_law_ahead" = true) (k32 : PySem.W.keepIn K (.ref f32) = true)
    {od33 an33 : Option Addr} {sl33 : Array (Option Value)} {oc33 kV33 dc33 pm33 cd33 ct33 : Value}
    (a33 : PySem.W.nsIn K mainGlobals "_law_next_day" = some (some (.ref f33)))
    (l33 : K.lookup f33 = some ⟨oc33, od33, .func (PySem.W.fnOf "_law_next_day" "_law_next_day" (defArgs s__law_next_day) (defBody s__law_next_day) (defScope s__law_next_day) .none kV33 dc33 pm33 an33 cd33 ct33), sl33⟩) (c33 : PySem.W.codeIn K cd33 "_law_next_day" = true) (k33 : PySem.W.keepIn K (.ref f33) = true)
    {od34 an34 : Option Addr} {sl34 : Array (Option Value)} {oc34 kV34 dc34 pm34 cd34 ct34 : Value}
    (a34 : PySem.W.nsIn K mainGlobals "law" = some (some (.ref f34)))
    (l34 : K.lookup f34 = some ⟨oc34, od34, .func (PySem.W.fnOf "law" "law" (defArgs s_law) (defBody s_law) (defScope s_law) .none kV34 dc34 pm34 an34 cd34 ct34), sl34⟩) (c34 : PySem.W.codeIn K cd34 "law" = true) (k34 : PySem.W.keepIn K (.ref f34) = true)
    (z0 : PySem.W.nsIn K mainGlobals "all" = some none)
    (z1 : PySem.W.nsIn K mainGlobals "abs" = some none)
    (z2 : PySem.W.nsIn K mainGlobals "bool" = some none)
    (z3 : PySem.W.nsIn K mainGlobals "divmod" = some none)
    (z4 : PySem.W.nsIn K mainGlobals "enumerate" = some none)
    (z5 : PySem.W.nsIn K mainGlobals "int" = some none)
    (z6 : PySem.W.nsIn K mainGlobals "isinstance" = some none)
    (z7 : PySem.W.nsIn K mainGlobals "len" = some none)
    (z8 : PySem.W.nsIn K mainGlobals "max" = some none)
    (z9 : PySem.W.nsIn K mainGlobals "range" = some none)
    (z10 : PySem.W.nsIn K mainGlobals "str" = some none)
    (z11 : PySem.W.nsIn K mainGlobals "sum" = some none)
    (v0 : PySem.W.nsIn K mainGlobals "FIGURES" = some (some (.str FIGS t1)))
    (v1 : PySem.W.nsIn K mainGlobals "LAST_YEAR" = some (some (.int 9999 t2)))
    (v2 : PySem.W.nsIn K mainGlobals "DAY_MINUTES" = some (some (.int 1440 t3)))
    (v3 : PySem.W.nsIn K mainGlobals "MOST_HOURS" = some (some (.int 14 t4))) :
    ∃ fd : FuncData, (∀ (s : Shared) (v : Value), BindsTo s fd ⟨[v], []⟩ [("_law_script", v)]) ∧ ∀ base : Heap, K.In base → base.Ns mainGlobals mg → FnOk l.prog w K mg base CX0 7 fa fd ["_law_script"] (spLaw K) := by
  have e := hfa.symm.trans (PySem.W.mg_of X G a34)
  cases e
  have F0 := fun_mk (st := s__law_cell) l0 c0 k0
  have b0 := F0.binds (ps := ["_law_script", "_law_k"]) fun _ _ _ _ _ _ us hl => match us, hl with | [_, _], _ => rfl
  have F1 := fun_mk (st := s__law_mixed) l1 c1 k1
  have b1 := F1.binds (ps := ["_law_cell_here", "_law_k"]) fun _ _ _ _ _ _ us hl => match us, hl with | [_, _], _ => rfl
  have F2 := fun_mk (st := s__law_next) l2 c2 k2
  have b2 := F2.binds (ps := ["_law_number", "_law_k"]) fun _ _ _ _ _ _ us hl => match us, hl with | [_, _], _ => rfl
  have F3 := fun_mk (st := s__law_is_long) l3 c3 k3
  have b3 := F3.binds (ps := ["_law_year"]) fun _ _ _ _ _ _ us hl => match us, hl with | [_], _ => rfl
  have F4 := fun_mk (st := s__law_many_days) l4 c4 k4
  have b4 := F4.binds (ps := ["_law_year", "_law_month"]) fun _ _ _ _ _ _ us hl => match us, hl with | [_, _], _ => rfl
  have F5 := fun_mk (st := s__law_date) l5 c5 k5
  have b5 := F5.binds (ps := ["_law_number"]) fun _ _ _ _ _ _ us hl => match us, hl with | [_], _ => rfl
  have F6 := fun_mk (st := s__law_start) l6 c6 k6
  have b6 := F6.binds (ps := ["_law_number"]) fun _ _ _ _ _ _ us hl => match us, hl with | [_], _ => rfl
  have F7 := fun_mk (st := s__law_day) l7 c7 k7
  have b7 := F7.binds (ps := ["_law_year", "_law_month", "_law_day_here"]) fun _ _ _ _ _ _ us hl => match us, hl with | [_, _, _], _ => rfl
  have F8 := fun_mk (st := s__law_two) l8 c8 k8
  have b8 := F8.binds (ps := ["_law_number"]) fun _ _ _ _ _ _ us hl => match us, hl with | [_], _ => rfl
  have F9 := fun_mk (st := s__law_text) l9 c9 k9
  have b9 := F9.binds (ps := ["_law_year", "_law_month", "_law_day_here", "_law_left", "_law_ahead_here"]) fun _ _ _ _ _ _ us hl => match us, hl with | [_, _, _, _, _], _ => rfl
  have F10 := fun_mk (st := s_is_number) l10 c10 k10
  have b10 := F10.binds (ps := ["thing"]) fun _ _ _ _ _ _ us hl => match us, hl with | [_], _ => rfl
  have F11 := fun_mk (st := s_has_leap_day) l11 c11 k11
  have b11 := F11.binds (ps := ["year"]) fun _ _ _ _ _ _ us hl => match us, hl with | [_], _ => rfl
  have F12 := fun_mk (st := s_days_ahead) l12 c12 k12
  have b12 := F12.binds (ps := ["year", "month"]) fun _ _ _ _ _ _ us hl => match us, hl with | [_, _], _ => rfl
  have F13 := fun_mk (st := s_day_text) l13 c13 k13
  have b13 := F13.binds (ps := ["day"]) fun _ _ _ _ _ _ us hl => match us, hl with | [_], _ => rfl
  have F14 := fun_mk (st := s_day_name) l14 c14 k14
  have b14 := F14.binds (ps := ["day"]) fun _ _ _ _ _ _ us hl => match us, hl with | [_], _ => rfl
  have F15 := fun_mk (st := s_clock_text) l15 c15 k15
  have b15 := F15.binds (ps := ["clock"]) fun _ _ _ _ _ _ us hl => match us, hl with | [_], _ => rfl
  have F16 := fun_mk (st := s_ahead_text) l16 c16 k16
  have b16 := F16.binds (ps := ["ahead"]) fun _ _ _ _ _ _ us hl => match us, hl with | [_], _ => rfl
  have F17 := fun_mk (st := s_time_text) l17 c17 k17
  have b17 := F17.binds (ps := ["minute", "ahead"]) fun _ _ _ _ _ _ us hl => match us, hl with | [_, _], _ => rfl
  have F18 := fun_mk (st := s_Reader_refuse_number) l18 c18 k18
  have b18 := F18.binds (ps := ["self", "low", "high"]) fun _ _ _ _ _ _ us hl => match us, hl with | [_, _, _], _ => rfl
  have F19 := fun_mk (st := s_Reader_number) l19 c19 k19
  have b19 := F19.binds (ps := ["self", "low", "high"]) fun _ _ _ _ _ _ us hl => match us, hl with | [_, _, _], _ => rfl
  have F20 := fun_mk (st := s_Reader_sees) l20 c20 k20
  have b20 := F20.binds (ps := ["self", "choice"]) fun _ _ _ _ _ _ us hl => match us, hl with | [_, _], _ => rfl
  have F21 := fun_mk (st := s_Reader_one_of) l21 c21 k21
  have b21 := F21.binds (ps := ["self", "choice"]) fun _ _ _ _ _ _ us hl => match us, hl with | [_, _], _ => rfl
  have F22 := fun_mk (st := s_Reader_sees_word) l22 c22 k22
  have b22 := F22.binds (ps := ["self", "wanted"]) fun _ _ _ _ _ _ us hl => match us, hl with | [_, _], _ => rfl
  have F23 := fun_mk (st := s_Reader_word) l23 c23 k23
  have b23 := F23.binds (ps := ["self", "wanted"]) fun _ _ _ _ _ _ us hl => match us, hl with | [_, _], _ => rfl
  have F24 := fun_mk (st := s_days_in) l24 c24 k24
  have b24 := F24.binds (ps := ["year", "month"]) fun _ _ _ _ _ _ us hl => match us, hl with | [_, _], _ => rfl
  have F25 := fun_mk (st := s_read_day) l25 c25 k25
  have b25 := F25.binds (ps := ["reader"]) fun _ _ _ _ _ _ us hl => match us, hl with | [_], _ => rfl
  have F26 := fun_mk (st := s_read_clock) l26 c26 k26
  have b26 := F26.binds (ps := ["reader"]) fun _ _ _ _ _ _ us hl => match us, hl with | [_], _ => rfl
  have F27 := fun_mk (st := s_read_ahead) l27 c27 k27
  have b27 := F27.binds (ps := ["reader"]) fun _ _ _ _ _ _ us hl => match us, hl with | [_], _ => rfl
  have F28 := fun_mk (st := s_Reader_end) l28 c28 k28
  have b28 := F28.binds (ps := ["self"]) fun _ _ _ _ _ _ us hl => match us, hl with | [_], _ => rfl
  have F29 := fun_mk (st := s_read_time) l29 c29 k29
  have b29 := F29.binds (ps := ["reader"]) fun _ _ _ _ _ _ us hl => match us, hl with | [_], _ => rfl
  have F30 := fun_mk (st := s_Reader___init__) l30 c30 k30
  have b30 := F30.binds (ps := ["self", "signs"]) fun _ _ _ _ _ _ us hl => match us, hl with | [_, _], _ => rfl
  have F31 := fun_mk (st := s_time_of) l31 c31 k31
  have b31 := F31.binds (ps := ["text"]) fun _ _ _ _ _ _ us hl => match us, hl with | [_], _ => rfl
  have F32 := fun_mk (st := s__law_ahead) l32 c32 k32
  have b32 := F32.binds (ps := ["_law_number"]) fun _ _ _ _ _ _ us hl => match us, hl with | [_], _ => rfl
  have F33 := fun_mk (st := s__law_next_day) l33 c33 k33
  have b33 := F33.binds (ps := ["_law_year", "_law_month", "_law_day_here"]) fun _ _ _ _ _ _ us hl => match us, hl with | [_, _, _], _ => rfl
  have F34 := fun_mk (st := s_law) l34 c34 k34
  have T : Tx K mg (fun i => [t1, t2, t3, t4].getD i t1) dn md := ⟨PySem.W.mg_none_of X G z0, PySem.W.mg_none_of X G z1, PySem.W.mg_none_of X G z2, PySem.W.mg_none_of X G z3, PySem.W.mg_none_of X G z4, PySem.W.mg_none_of X G z5, PySem.W.mg_none_of X G z6, PySem.W.mg_none_of X G z7, PySem.W.mg_none_of X G z8, PySem.W.mg_none_of X G z9, PySem.W.mg_none_of X G z10, PySem.W.mg_none_of X G z11, PySem.W.mg_of X G v0, PySem.W.mg_of X G v1, PySem.W.mg_of X G v2, PySem.W.mg_of X G v3, PySem.W.mg_of X G vdn, PySem.W.mg_of X G vmd, fun H => .inr ⟨_, _, _, ldn, rfl, rfl, by show 7 ≤ _; rw [sizeLine_eq]; decide, .cons ⟨_, rfl⟩ (.cons ⟨_, rfl⟩ (.cons ⟨_, rfl⟩ (.cons ⟨_, rfl⟩ (.cons ⟨_, rfl⟩ (.cons ⟨_, rfl⟩ (.cons ⟨_, rfl⟩ (.nil)))))))⟩, fun H => .inr ⟨_, _, _, lmd, rfl, rfl, by show 12 ≤ _; rw [sizeLine_eq]; decide, .cons ⟨_, rfl⟩ (.cons ⟨_, rfl⟩ (.cons ⟨_, rfl⟩ (.cons ⟨_, rfl⟩ (.cons ⟨_, rfl⟩ (.cons ⟨_, rfl⟩ (.cons ⟨_, rfl⟩ (.cons ⟨_, rfl⟩ (.cons ⟨_, rfl⟩ (.cons ⟨_, rfl⟩ (.cons ⟨_, rfl⟩ (.cons ⟨_, rfl⟩ (.nil))))))))))))⟩⟩
  have KReader : Cls K cReader := ⟨pgReader, hdReader, poReader, saReader⟩
  have RReader : Rc K cReader := ⟨KReader, naReader0, naReader1⟩
  refine ⟨PySem.W.fnOf "law" "law" (defArgs s_law) (defBody s_law) (defScope s_law) .none kV34 dc34 pm34 an34 cd34 ct34, fun s v => .of_eq rfl, fun base _ _ => ?_⟩
  have D0 : Def l.prog w K mg base "_law_cell" 1 f0 _ ["_law_script", "_law_k"] (sp_cell K) := ⟨ok_cell F0 T, PySem.W.mg_of X G a0, F0.kp, b0⟩
  have D1 : Def l.prog w K mg base "_law_mixed" 1 f1 _ ["_law_cell_here", "_law_k"] sp_mixed := ⟨ok_mixed F1, PySem.W.mg_of X G a1, F1.kp, b1⟩
  have D2 : Def l.prog w K mg base "_law_next" 1 f2 _ ["_law_number", "_law_k"] sp_next := ⟨ok_next F2, PySem.W.mg_of X G a2, F2.kp, b2⟩
  have D3 : Def l.prog w K mg base "_law_is_long" 1 f3 _ ["_law_year"] sp_leap := ⟨ok_islong F3, PySem.W.mg_of X G a3, F3.kp, b3⟩
  have D4 : Def l.prog w K mg base "_law_many_days" 2 f4 _ ["_law_year", "_law_month"] sp_many := ⟨ok_many F4 T D3, PySem.W.mg_of X G a4, F4.kp, b4⟩
  have D5 : Def l.prog w K mg base "_law_date" 3 f5 _ ["_law_number"] sp_date := ⟨ok_date F5 T D2 D4, PySem.W.mg_of X G a5, F5.kp, b5⟩
  have D6 : Def l.prog w K mg base "_law_start" 4 f6 _ ["_law_number"] sp_date := ⟨ok_start F6 D2 D5, PySem.W.mg_of X G a6, F6.kp, b6⟩
  have D7 : Def l.prog w K mg base "_law_day" 1 f7 _ ["_law_year", "_law_month", "_law_day_here"] sp_day := ⟨ok_day F7 T, PySem.W.mg_of X G a7, F7.kp, b7⟩
  have D8 : Def l.prog w K mg base "_law_two" 1 f8 _ ["_law_number"] sp_two := ⟨ok_two F8, PySem.W.mg_of X G a8, F8.kp, b8⟩
  have D9 : Def l.prog w K mg base "_law_text" 2 f9 _ ["_law_year", "_law_month", "_law_day_here", "_law_left", "_law_ahead_here"] sp_text := ⟨ok_text F9 T D8 D7, PySem.W.mg_of X G a9, F9.kp, b9⟩
  have D10 : Def l.prog w K mg base "is_number" 1 f10 _ ["thing"] sp_isnum := ⟨ok_isnum F10 T, PySem.W.mg_of X G a10, F10.kp, b10⟩
  have D11 : Def l.prog w K mg base "has_leap_day" 1 f11 _ ["year"] sp_leap := ⟨ok_leap F11, PySem.W.mg_of X G a11, F11.kp, b11⟩
  have D12 : Def l.prog w K mg base "days_ahead" 3 f12 _ ["year", "month"] sp_daysA := ⟨ok_daysA F12 T D11, PySem.W.mg_of X G a12, F12.kp, b12⟩
  have D13 : Def l.prog w K mg base "day_text" 4 f13 _ ["day"] sp_daytext := ⟨ok_daytext F13 T D12, PySem.W.mg_of X G a13, F13.kp, b13⟩
  have D14 : Def l.prog w K mg base "day_name" 1 f14 _ ["day"] sp_dayname := ⟨ok_dayname F14 T, PySem.W.mg_of X G a14, F14.kp, b14⟩
  have D15 : Def l.prog w K mg base "clock_text" 1 f15 _ ["clock"] sp_clock := ⟨ok_clock F15 T, PySem.W.mg_of X G a15, F15.kp, b15⟩
  have D16 : Def l.prog w K mg base "ahead_text" 1 f16 _ ["ahead"] sp_ahead := ⟨ok_ahead F16 T, PySem.W.mg_of X G a16, F16.kp, b16⟩
  have D17 : Def l.prog w K mg base "time_text" 5 f17 _ ["minute", "ahead"] sp_ttext := ⟨ok_ttext F17 T D10 D12 D13 D14 D15 D16, PySem.W.mg_of X G a17, F17.kp, b17⟩
  have D18 : DefM l.prog w K mg base cReader "refuse_number" 1 f18 _ ["self", "low", "high"] sp_never := ⟨KReader, ⟨a18, fn18, k18⟩, ok_refuse F18, b18⟩
  have D19 : DefM l.prog w K mg base cReader "number" 3 f19 _ ["self", "low", "high"] (sp_number K cReader) := ⟨KReader, ⟨a19, fn19, k19⟩, ok_number F19 T RReader D18, b19⟩
  have D20 : DefM l.prog w K mg base cReader "sees" 1 f20 _ ["self", "choice"] (sp_sees K cReader) := ⟨KReader, ⟨a20, fn20, k20⟩, ok_sees F20 T RReader, b20⟩
  have D21 : DefM l.prog w K mg base cReader "one_of" 2 f21 _ ["self", "choice"] (sp_one K cReader) := ⟨KReader, ⟨a21, fn21, k21⟩, ok_one F21 T RReader D20, b21⟩
  have D22 : DefM l.prog w K mg base cReader "sees_word" 1 f22 _ ["self", "wanted"] (sp_seesword cReader) := ⟨KReader, ⟨a22, fn22, k22⟩, ok_seesword F22 T RReader, b22⟩
  have D23 : DefM l.prog w K mg base cReader "word" 3 f23 _ ["self", "wanted"] (sp_word K cReader) := ⟨KReader, ⟨a23, fn23, k23⟩, ok_word F23 T RReader D21 D22, b23⟩
  have D24 : Def l.prog w K mg base "days_in" 2 f24 _ ["year", "month"] sp_daysin := ⟨ok_daysin F24 T D11, PySem.W.mg_of X G a24, F24.kp, b24⟩
  have D25 : Def l.prog w K mg base "read_day" 4 f25 _ ["reader"] (sp_readday cReader) := ⟨ok_readday F25 T D19 D23 D24 D12, PySem.W.mg_of X G a25, F25.kp, b25⟩
  have D26 : Def l.prog w K mg base "read_clock" 4 f26 _ ["reader"] (sp_readclock cReader) := ⟨ok_readclock F26 D19 D23, PySem.W.mg_of X G a26, F26.kp, b26⟩
  have D27 : Def l.prog w K mg base "read_ahead" 4 f27 _ ["reader"] (sp_readahead cReader) := ⟨ok_readahead F27 T D19 D21, PySem.W.mg_of X G a27, F27.kp, b27⟩
  have D28 : DefM l.prog w K mg base cReader "end" 1 f28 _ ["self"] (sp_end cReader) := ⟨KReader, ⟨a28, fn28, k28⟩, ok_end F28 T RReader, b28⟩
  have D29 : Def l.prog w K mg base "read_time" 5 f29 _ ["reader"] (sp_readtime cReader) := ⟨ok_readtime F29 T D25 D23 D14 D26 D27 D28, PySem.W.mg_of X G a29, F29.kp, b29⟩
  have D30 : DefC l.prog w K mg base "Reader" cReader 1 f30 _ ["self", "signs"] (sp_init cReader) := ⟨⟨mkReader, a30, fn30, kpReader⟩, ok_init F30 RReader, PySem.W.mg_of X G mReader, b30⟩
  have D31 : Def l.prog w K mg base "time_of" 6 f31 _ ["text"] sp_timeof := ⟨ok_timeof F31 T D29 D30, PySem.W.mg_of X G a31, F31.kp, b31⟩
  have D32 : Def l.prog w K mg base "_law_ahead" 1 f32 _ ["_law_number"] sp_lahead := ⟨ok_lahead F32, PySem.W.mg_of X G a32, F32.kp, b32⟩
  have D33 : Def l.prog w K mg base "_law_next_day" 3 f33 _ ["_law_year", "_law_month", "_law_day_here"] sp_nextday := ⟨ok_nextday F33 D4, PySem.W.mg_of X G a33, F33.kp, b33⟩
  exact ok_law F34 T D0 D1 D6 D7 D9 D17 D31 D32 D33
end K13
open PySem PySem.W PyProof.Rows
set_option maxHeartbeats 0 in
theorem PySem.Challenge.cw_letterhouse_k13_whole_days_walked_holds : PySem.Challenge.rw_letterhouse_k13_whole_days_walked.Holds := by
  w_on; o_law; k_head; (case hw => w_witness2)
  k_fill
  refine L2.walk_of (l := PySem.Challenge.rw_letterhouse_k13_whole_days_walked) (n := 63) (k := 7) (x := "_law_script") (CX := fun _ => L2.CX0) (sp := fun w => K13.spLaw _) rfl (by decide) rfl ⟨rfl, by decide, by decide⟩ (fun w h Y => PySem.W.kIn_of Y) ?F (fun _ _ a ns hl _ hS => ⟨a, ns, rfl, hS, hl, fun _ => rfl⟩) (fun _ _ _ _ _ h => h)
  case F =>
    intro w mg fa h KX G hmg
    refine' K13.all_mk KX G hmg ?mReader ?pgReader ?hdReader ?poReader ?saReader ?mkReader ?kpReader ?naReader0 ?naReader1 ?vdn ?ldn ?vmd ?lmd ?a0 ?l0 ?c0 ?k0 ?a1 ?l1 ?c1 ?k1 ?a2 ?l2 ?c2 ?k2 ?a3 ?l3 ?c3 ?k3 ?a4 ?l4 ?c4 ?k4 ?a5 ?l5 ?c5 ?k5 ?a6 ?l6 ?c6 ?k6 ?a7 ?l7 ?c7 ?k7 ?a8 ?l8 ?c8 ?k8 ?a9 ?l9 ?c9 ?k9 ?a10 ?l10 ?c10 ?k10 ?a11 ?l11 ?c11 ?k11 ?a12 ?l12 ?c12 ?k12 ?a13 ?l13 ?c13 ?k13 ?a14 ?l14 ?c14 ?k14 ?a15 ?l15 ?c15 ?k15 ?a16 ?l16 ?c16 ?k16 ?a17 ?l17 ?c17 ?k17 ?a18 ?fn18 ?l18 ?c18 ?k18 ?a19 ?fn19 ?l19 ?c19 ?k19 ?a20 ?fn20 ?l20 ?c20 ?k20 ?a21 ?fn21 ?l21 ?c21 ?k21 ?a22 ?fn22 ?l22 ?c22 ?k22 ?a23 ?fn23 ?l23 ?c23 ?k23 ?a24 ?l24 ?c24 ?k24 ?a25 ?l25 ?c25 ?k25 ?a26 ?l26 ?c26 ?k26 ?a27 ?l27 ?c27 ?k27 ?a28 ?fn28 ?l28 ?c28 ?k28 ?a29 ?l29 ?c29 ?k29 ?a30 ?fn30 ?l30 ?c30 ?k30 ?a31 ?l31 ?c31 ?k31 ?a32 ?l32 ?c32 ?k32 ?a33 ?l33 ?c33 ?k33 ?a34 ?l34 ?c34 ?k34 ?z0 ?z1 ?z2 ?z3 ?z4 ?z5 ?z6 ?z7 ?z8 ?z9 ?z10 ?z11 ?v0 ?v1 ?v2 ?v3
    (case mReader => k_is); (case pgReader => k_is); (case hdReader => k_is); (case poReader => k_is); (case saReader => k_is); (case mkReader => k_is); (case kpReader => k_is); (case naReader0 => k_is); (case naReader1 => k_is); (case vdn => k_is); (case ldn => k_is); (case vmd => k_is); (case lmd => k_is); (case a0 => k_is); (case l0 => k_is); (case c0 => k_is); (case k0 => k_is); (case a1 => k_is); (case l1 => k_is); (case c1 => k_is); (case k1 => k_is); (case a2 => k_is); (case l2 => k_is); (case c2 => k_is); (case k2 => k_is); (case a3 => k_is); (case l3 => k_is); (case c3 => k_is); (case k3 => k_is); (case a4 => k_is); (case l4 => k_is); (case c4 => k_is); (case k4 => k_is); (case a5 => k_is); (case l5 => k_is); (case c5 => k_is); (case k5 => k_is); (case a6 => k_is); (case l6 => k_is); (case c6 => k_is); (case k6 => k_is); (case a7 => k_is); (case l7 => k_is); (case c7 => k_is); (case k7 => k_is); (case a8 => k_is); (case l8 => k_is); (case c8 => k_is); (case k8 => k_is); (case a9 => k_is); (case l9 => k_is); (case c9 => k_is); (case k9 => k_is); (case a10 => k_is); (case l10 => k_is); (case c10 => k_is); (case k10 => k_is); (case a11 => k_is); (case l11 => k_is); (case c11 => k_is); (case k11 => k_is); (case a12 => k_is); (case l12 => k_is); (case c12 => k_is); (case k12 => k_is); (case a13 => k_is); (case l13 => k_is); (case c13 => k_is); (case k13 => k_is); (case a14 => k_is); (case l14 => k_is); (case c14 => k_is); (case k14 => k_is); (case a15 => k_is); (case l15 => k_is); (case c15 => k_is); (case k15 => k_is); (case a16 => k_is); (case l16 => k_is); (case c16 => k_is); (case k16 => k_is); (case a17 => k_is); (case l17 => k_is); (case c17 => k_is); (case k17 => k_is); (case a18 => k_is); (case fn18 => k_is); (case l18 => k_is); (case c18 => k_is); (case k18 => k_is); (case a19 => k_is); (case fn19 => k_is); (case l19 => k_is); (case c19 => k_is); (case k19 => k_is); (case a20 => k_is); (case fn20 => k_is); (case l20 => k_is); (case c20 => k_is); (case k20 => k_is); (case a21 => k_is); (case fn21 => k_is); (case l21 => k_is); (case c21 => k_is); (case k21 => k_is); (case a22 => k_is); (case fn22 => k_is); (case l22 => k_is); (case c22 => k_is); (case k22 => k_is); (case a23 => k_is); (case fn23 => k_is); (case l23 => k_is); (case c23 => k_is); (case k23 => k_is); (case a24 => k_is); (case l24 => k_is); (case c24 => k_is); (case k24 => k_is); (case a25 => k_is); (case l25 => k_is); (case c25 => k_is); (case k25 => k_is); (case a26 => k_is); (case l26 => k_is); (case c26 => k_is); (case k26 => k_is); (case a27 => k_is); (case l27 => k_is); (case c27 => k_is); (case k27 => k_is); (case a28 => k_is); (case fn28 => k_is); (case l28 => k_is); (case c28 => k_is); (case k28 => k_is); (case a29 => k_is); (case l29 => k_is); (case c29 => k_is); (case k29 => k_is); (case a30 => k_is); (case fn30 => k_is); (case l30 => k_is); (case c30 => k_is); (case k30 => k_is); (case a31 => k_is); (case l31 => k_is); (case c31 => k_is); (case k31 => k_is); (case a32 => k_is); (case l32 => k_is); (case c32 => k_is); (case k32 => k_is); (case a33 => k_is); (case l33 => k_is); (case c33 => k_is); (case k33 => k_is); (case a34 => k_is); (case l34 => k_is); (case c34 => k_is); (case k34 => k_is); (case z0 => k_is); (case z1 => k_is); (case z2 => k_is); (case z3 => k_is); (case z4 => k_is); (case z5 => k_is); (case z6 => k_is); (case z7 => k_is); (case z8 => k_is); (case z9 => k_is); (case z10 => k_is); (case z11 => k_is); (case v0 => k_is); (case v1 => k_is); (case v2 => k_is); (case v3 => k_is)

